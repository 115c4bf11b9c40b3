import PyProof.Rows.All
import Wide.All
import OpenK.AllK
import Wide.FinOn
import Lean
import PyProof.EqAt
import PyProof.EqKinds
import PyProof.TupleCall
import PySem.Challenge.RW_roundmill_k64_whole_wide
set_option Elab.async false
set_option linter.all false
set_option genSizeOf false
set_option maxRecDepth 100000
local macro_rules (kind:=Lean.Parser.Command.declaration)
 | s=>if (s[1].isOfKind ``Lean.Parser.Command.definition||s[1].isOfKind ``Lean.Parser.Command.abbrev)&&s[0][4].getNumArgs == 0&&s[1][1][0].getId != `bmV then pure (s.setArg 0 (s[0].setArg 4 (Lean.mkNullNode #[Lean.mkNode ``Lean.Parser.Command.noncomputable #[Lean.mkAtom "noncomputable"]]))) else Lean.Macro.throwUnsupported
set_option hygiene false
local macro_rules | `(tactic| omega)=>`(tactic| first | lia | omega +splitNatSub)
local macro_rules | `(⋯)=>`(by omega)
local macro_rules | `(⇑$x)=>`(con (.int $x))
local macro_rules | `(↥$n:num)=>match n.getNat with | 0=>`(lo Eg Fg - lo Em Fm) | 1=>`(by decide) | 2=>`(PySem.W.fnOf x qual (eJ st) (ak st) (ae st) .none kV doc pm an cdv ct) | 3=>`(Life.mk [] [] [] 0 [] [] false #[] [] 0 false false false 0 [2000,10,10] false 0 true [] [] 0 false) | 4=>`(E+F) | 5=>`(bin oIx (var 0) ⇑1) | 6=>`(.type "tuple") | 7=>`(model X.prog X.w) | 8=>`(cxU X xs ksn sc C fp s H W) | 9=>`(Shared.mk (hf w.params) ⟨[]⟩ (Drawn.mk 0 0 0 0) 938 os) | 10=>`(importedModules (Program.main PySem.Challenge.pw_roundmill_k64_whole_wide).body) | 11=>`(2*bW E F t n) | 12=>`(Addr×Obj) | 13=>`(bin oIx (var 0) ⇑0) | 14=>`(cxU X xs ksn sc s3.heap.objs.size fp s3 H3 WW) | 15=>`(c / pw F) | 16=>`(s*pw ↥4+c) | 17=>`(kg / pw Fg - 1) | 18=>`(cxU X [x] ksn sc C fp s H W) | 19=>`(vl F k+vl F (k+1)) | 20=>`(vS "roundmill.errors" 187) | 21=>`(fh I q (by simp)) | 22=>`(model prog w) | 23=>`(Eg+Fg) | 24=>`(nu E F t n) | 25=>`(aC.refl _) | 26=>`(hide H os) | 27=>`(.tup [.int E,.int F]) | 28=>`(Int×Int) | 29=>`(P.v 0) | 30=>`(-(lo E F)) | 31=>`(bY ai (P.y 0)) | 32=>`(ft hr (P.v 4) ai) | 33=>`(PySem.Str.ofString "even") | 34=>`(s.heap.objs.size+1) | 35=>`(.ListComp elt [⟨tg,iter,ifs,0⟩] sc pos) | 36=>`(.bl true) | 37=>`(Nat.le_refl _) | 38=>`((false,eval e X.env)) | 39=>`((∀ y∈xs,(cxU X xs ksn sc C fp s H W).env.scope.names.lookup y=some .local)) | _=>Lean.Macro.throwUnsupported
set_option hygiene true
namespace L2
open PySem PySem.Spec PyProof.Rows
abbrev Key:=Sum Int Str
def Jj:Key->Value->Bool
 | .inl k,v=>Value.isInt k v
 | .inr x,v=>Value.isStrOf x v
def Q0 (w:World):Key->Int
 | .inl k=>hashInt k
 | .inr x=>hashStr w x
theorem bA:∀ {k:Key} {v:Value},Jj k v=true->(∃ i t,k=Sum.inl i/\v=Value.int i t)\/(∃ x t,k=Sum.inr x/\v=Value.str x t)
 | .inl i,v,h=>by
  obtain ⟨t,e⟩:=Value.isInt_shape (k:=i) (v:=v) h
  exact .inl ⟨i,t,rfl,e⟩
 | .inr x,v,h=>by
  obtain ⟨t,e⟩:=Value.isStrOf_shape (x:=x) (v:=v) h
  exact .inr ⟨x,t,rfl,e⟩
theorem Ji (a b:Int):decide ((Sum.inl a:Key)=Sum.inl b)=(a == b):=by
 by_cases e:a=b
 ·subst e;simp
 ·have h:¬ (Sum.inl a:Key)=Sum.inl b:=fun q=>e (Sum.inl.inj q)
  rw [decide_eq_false h]
  exact (beq_eq_false_iff_ne.mpr e).symm
theorem Jf (a b:Str):decide ((Sum.inr a:Key)=Sum.inr b)=decide (a=b):=by
 by_cases e:a=b
 ·subst e;simp
 ·have h:¬ (Sum.inr a:Key)=Sum.inr b:=fun q=>e (Sum.inr.inj q)
  rw [decide_eq_false h,decide_eq_false e]
theorem Jh (a:Int) (b:Str):decide ((Sum.inl a:Key)=Sum.inr b)=false:=decide_eq_false (fun q=>nomatch q)
theorem Jg (a:Str) (b:Int):decide ((Sum.inr a:Key)=Sum.inl b)=false:=decide_eq_false (fun q=>nomatch q)
def yv (prog:Program) (w:World):PySem.KeyKind prog w Key where
 is:=Jj
 hash:=Q0 w
 inj:=fun v a b ha hb=>by
  rcases bA ha with ⟨i,t,rfl,rfl⟩ | ⟨x,t,rfl,rfl⟩
  ·rcases bA hb with ⟨j,u,rfl,e⟩ | ⟨y,u,rfl,e⟩
   ·injection e with e1 _;rw [e1]
   ·exact nomatch e
  ·rcases bA hb with ⟨j,u,rfl,e⟩ | ⟨y,u,rfl,e⟩
   ·exact nomatch e
   ·injection e with e1 _;rw [e1]
 byValue:=fun k v h=>by
  rcases bA h with ⟨i,t,rfl,rfl⟩ | ⟨x,t,rfl,rfl⟩<;>rfl
 pyHash:=fun hv h=>by
  rcases bA hv with ⟨i,t,rfl,rfl⟩ | ⟨x,t,rfl,rfl⟩
  ·exact wpAny_pyHash_int h
  ·exact wpAny_pyHash_str h
 eqBool:=fun hu hv h=>by
  rcases bA hu with ⟨i,t,rfl,rfl⟩ | ⟨x,t,rfl,rfl⟩
  ·rcases bA hv with ⟨j,u,rfl,rfl⟩ | ⟨y,u,rfl,rfl⟩
   ·rw [Ji] at h;exact wpAny_eqBool_int h
   ·rw [Jh] at h;exact SeqAt.EqAt.int_str i t y u _ _ _ _ h
  ·rcases bA hv with ⟨j,u,rfl,rfl⟩ | ⟨y,u,rfl,rfl⟩
   ·rw [Jg] at h;exact SeqAt.EqAt.str_int x t j u _ _ _ _ h
   ·rw [Jf] at h;exact wpAny_eqBool_str h
 «strs»:=fun k x t v h=>by
  rcases bA h with ⟨i,u,rfl,e⟩ | ⟨y,u,rfl,e⟩
  ·exact nomatch e
  ·injection e with e1 _
   subst e1
   cases v<;>rfl
end L2
namespace L2
open PySem PySem.Spec PyProof.Rows
inductive V where
 | non | bl (b:Bool) | int (i:Int) | str (x:Str) | byt (b:Array UInt8) | flt (b:UInt64) | ref (a:Addr) | ty (n:String)
 deriving DecidableEq
def RelV:V->Value->Prop
 | .non,u=>u=Value.none
 | .bl b,u=>u=Value.bool b
 | .int i,u=>∃ t,u=Value.int i t
 | .str x,u=>∃ t,u=Value.str x t
 | .byt b,u=>∃ t,u=Value.bytes b t
 | .flt b,u=>∃ t,u=Value.float b t
 | .ref a,u=>u=Value.ref a
 | .ty n,u=>u=Value.type n
abbrev Vals:List V->List Value->Prop:=Paired RelV
theorem Vals.length {xs:List V} {us:List Value} (r:Vals xs us):xs.length=us.length:=Paired.length r
theorem Vals.get:∀ {xs:List V} {us:List Value} {i:Nat} {x:V},Vals xs us->xs[i]? = some x->∃ u,us[i]? = some u/\RelV x u
 | _,_,_,_,.nil,e=>by simp at e
 | _,_,0,_,.cons r _,e=>by simp at e;subst e;exact ⟨_,rfl,r⟩
 | _,_,i+1,x,.cons _ t,e=>by
  obtain ⟨u,h1,h2⟩:=Vals.get (i:=i) (x:=x) t (by simpa using e)
  exact ⟨u,by simpa using h1,h2⟩
theorem Vals.append:∀ {xs ys:List V} {us ws:List Value},Vals xs us->Vals ys ws->Vals (xs++ys) (us++ws)
 | _,_,_,_,.nil,s=>s
 | _,_,_,_,.cons r t,s=>.cons r (Vals.append t s)
def zT:Option V->Option Value->Prop
 | some v,some u=>RelV v u
 | none,none=>True
 | _,_=>False
def KV {κ:Type}:List (κ×V)->List (κ×Value)->Prop:=Paired fun (p:κ×V) (q:κ×Value)=>p.1=q.1/\RelV p.2 q.2
def kV:Key->V
 | .inl i=>.int i
 | .inr x=>.str x
inductive HO where
 /-- a list -/
 | lst (xs:List V)
 /-- a tuple (never changes) -/
 | tup (xs:List V)
 /-- a dict whose keys are ints and texts;one whose keys are tuples of ints and texts (the empty one is both) -/
 | dK (kvs:List (Key×V)) | dT (kvs:List (List Key×V))
 /-- a set of ints: its members,its size -/
 | set (S:Int->Bool) (n:Nat)
 /-- an instance of the class at C,its dict at dx,its attributes -/
 | ins (C dx:Addr) (fs:List (Str×V))
 /-- the dict of the instance at x -/
 | own (x:Addr)
 /-- the dict of an exception -/
 | xd (fs:List (Str×V))
 /-- a bound method,f of x -/
 | met (f x:Addr)
 /-- a range object lo,lo+1,.. below hi -/
 | rng (lo hi:Int)
 /-- a thing that is known to the object (the script;a dict while a loop walks it): read,never written while it is so -/
 | frz (o:Obj) (u:HO)
 /-- a code object's table -/
 | tbl (ps:Array Value)
 /-- any other thing,by what is true of its one object (a def of one's own: SetO a S n:=HO.ext fun h=>..) -/
 | ext (φ:Heap->Prop)
abbrev Hp:=Addr->Option HO
def upd (H:Hp) (a:Addr) (o:HO):Hp:=fun b=>if b=a then some o else H b
theorem bO {H:Hp} {a:Addr} {o:HO}:upd H a o a=some o:=by unfold upd;rw [if_pos rfl]
theorem bB {H:Hp} {a b:Addr} {o:HO} (h:b≠a):upd H a o b=H b:=by unfold upd;rw [if_neg h]
theorem cR {H:Hp} {a b:Addr} {o:HO} (h:H a=some o) (h':H b=none):a≠b:=by
 intro e;subst e;rw [h] at h';cases h'
section
variable (P:Program) (w:World)
def iI (H:Hp) (h:Heap) (a:Addr):HO->Prop
 | .lst xs=>xs.length<=sizeLine/\∃ (its:List Value) (n:Nat),Vals xs its/\h.get? a=some { cls:=.type "list",data:=.seq its.toArray n }
 | .tup xs=>xs.length<=sizeLine/\∃ its:List Value,Vals xs its/\IsTup h a its.toArray
 | .dK kvs=>kvs.length<=sizeLine/\(a == sysModules)=false/\∃ vs,KV kvs vs/\h.DictOf (yv P w) a vs
 | .dT kvs=>kvs.length<=sizeLine/\(a == sysModules)=false/\∃ xs:List (List Key×Addr×Value),
   Paired (fun (p:List Key×V) (q:List Key×Addr×Value)=>p.1=q.1/\H q.2.1=some (.tup (p.1.map kV))/\RelV p.2 q.2.2) kvs xs /\
   ∃ o es ep,h.get? a=some o/\o.ExactDict/\o.data=.dict es ep/\es.toList=xs.map (entryOfKey (tupleKind (yv P w)))/\(xs.map (·.1)).Nodup
 | .set S n=>h.SetOf (intKind P w) a S n
 | .ins C dx fs=>H dx=some (.own a)/\fs.length<=1000/\dx≠a/\h.get? a=some (PySem.W.instObj C dx) /\
   ∃ mA,h.Ns1 dx mA/\(∀ f,zT (fs.lookup f) (mA f))/\PySem.Within mA (fs.map (·.1))
 | .own _=>∃ o,h.get? a=some o
 | .xd fs=>∃ mA,h.Ns1 a mA/\∀ f,zT (fs.lookup f) (mA f)
 | .rng lo hi=>∃ t u v,h.get? a=some { cls:=.type "range",data:=.fields #[.int lo t,.int hi u,.int 1 v] }
 | .frz o u=>h.get? a=some o/\iI H h a u
 | .tbl ps=>h.get? a=some { cls:=.none,data:=.fields ps }
 | .met f x=>h.get? a=some (PySem.W.methodObj (.ref f) (.ref x))
 | .ext φ=>φ h/\(∃ o,h.get? a=some o)/\∀ h1 h2:Heap,φ h1->(∀ o,h1.get? a=some o->h2.get? a=some o)->φ h2
def HOk (H:Hp) (h:Heap):Prop:=∀ a o,H a=some o->iI P w H h a o
end
section
variable {P:Program} {w:World} {H H':Hp} {h h':Heap} {a:Addr} {o:HO}
theorem iI.lt (x:iI P w H h a o):a<h.objs.size:=by
 cases o with
 | lst xs=>obtain ⟨_,_,_,_,e⟩:=x;exact Heap.lt_size e
 | tup xs=>obtain ⟨_,_,_,p⟩:=x;exact p.lt
 | dK kvs=>obtain ⟨_,_,_,_,o,_,_,e,_⟩:=x;exact Heap.lt_size e
 | dT kvs=>obtain ⟨_,_,_,_,o,_,_,e,_⟩:=x;exact Heap.lt_size e
 | set S n=>obtain ⟨o,_,_,_,e,_⟩:=x;exact Heap.lt_size e
 | ins C dx fs=>obtain ⟨_,_,_,e,_⟩:=x;exact Heap.lt_size e
 | own y=>obtain ⟨_,e⟩:=x;exact Heap.lt_size e
 | xd fs=>obtain ⟨_,⟨_,_,_,e,_⟩,_⟩:=x;exact Heap.lt_size e
 | rng lo hi=>obtain ⟨_,_,_,e⟩:=x;exact Heap.lt_size e
 | frz ob u=>obtain ⟨e,_⟩:=x;exact Heap.lt_size e
 | tbl ps=>exact Heap.lt_size (show h.get? a=some _ from x)
 | met f y=>exact Heap.lt_size (show h.get? a=some _ from x)
 | ext φ=>obtain ⟨_,⟨_,e⟩,_⟩:=x;exact Heap.lt_size e
theorem Paired.mapP {α β:Type} {F G:α->β->Prop}:∀ {l₁:List α} {l₂:List β},Paired F l₁ l₂->(∀ a b,F a b->G a b)->Paired G l₁ l₂
 | _,_,.nil,_=>.nil
 | _,_,.cons r t,f=>.cons (f _ _ r) (Paired.mapP t f)
theorem iI.stay (x:iI P w H h a o) (k:∀ b u,(b=a\/H b=some (.own a))->h.get? b=some u->h'.get? b=some u)
  (ho:∀ b,H b=some (.own a)->H' b=some (.own a)) (ht:∀ b xs,H b=some (.tup xs)->H' b=some (.tup xs)):iI P w H' h' a o:=by
 induction o with
 | lst xs=>obtain ⟨z,its,n,r,e⟩:=x;exact ⟨z,its,n,r,k _ _ (.inl rfl) e⟩
 | tup xs=>obtain ⟨z,its,r,ob,e,c⟩:=x;exact ⟨z,its,r,ob,k _ _ (.inl rfl) e,c⟩
 | dK kvs=>obtain ⟨z,y,vs,r,ob,es,ep,e,c⟩:=x;exact ⟨z,y,vs,r,ob,es,ep,k _ _ (.inl rfl) e,c⟩
 | dT kvs =>
  obtain ⟨z,y,xs,r,ob,es,ep,e,c⟩:=x
  exact ⟨z,y,xs,Paired.mapP r fun p q z=>⟨z.1,ht _ _ z.2.1,z.2.2⟩,ob,es,ep,k _ _ (.inl rfl) e,c⟩
 | set S n=>obtain ⟨ob,es,ep,t,e,c⟩:=x;exact ⟨ob,es,ep,t,k _ _ (.inl rfl) e,c⟩
 | ins C dx fs =>
  obtain ⟨d,z,ne,e,mA,⟨od,es,ep,e2,c⟩,r⟩:=x
  exact ⟨ho _ d,z,ne,k _ _ (.inl rfl) e,mA,⟨od,es,ep,k _ _ (.inr d) e2,c⟩,r⟩
 | own y=>obtain ⟨ob,e⟩:=x;exact ⟨ob,k _ _ (.inl rfl) e⟩
 | xd fs=>obtain ⟨mA,⟨od,es,ep,e,c⟩,r⟩:=x;exact ⟨mA,⟨od,es,ep,k _ _ (.inl rfl) e,c⟩,r⟩
 | rng lo hi=>obtain ⟨t,u,v,e⟩:=x;exact ⟨t,u,v,k _ _ (.inl rfl) e⟩
 | frz ob u ih=>obtain ⟨e,q⟩:=x;exact ⟨k _ _ (.inl rfl) e,ih q⟩
 | tbl ps =>
  have e:h.get? a=some { cls:=.none,data:=.fields ps }:=x
  show h'.get? a=some { cls:=.none,data:=.fields ps }
  exact k a _ (.inl rfl) e
 | met f y =>
  have e:h.get? a=some (PySem.W.methodObj (.ref f) (.ref y)):=x
  show h'.get? a=some (PySem.W.methodObj (.ref f) (.ref y))
  exact k a _ (.inl rfl) e
 | ext φ=>obtain ⟨p,⟨o,e⟩,st⟩:=x;exact ⟨st _ _ p fun o q=>k _ _ (.inl rfl) q,⟨o,k _ _ (.inl rfl) e⟩,st⟩
theorem HOk.lt (x:HOk P w H h) (e:H a=some o):a<h.objs.size:=(x a o e).lt
theorem HOk.fresh (x:HOk P w H h) (e:h.objs.size<=a):H a=none:=by
 cases q:H a with
 | none=>rfl
 | some u=>exact absurd (Nat.lt_of_lt_of_le (x.lt q) e) (Nat.lt_irrefl _)
theorem HOk.kept (x:HOk P w H h) (k:∀ b u,h.get? b=some u->h'.get? b=some u):HOk P w H h':=fun a o e =>
 (x a o e).stay (fun b u _ q=>k b u q) (fun _ q=>q) fun _ _ q=>q
theorem HOk.laid (x:HOk P w H h) (k:∀ b u,h.get? b=some u->h'.get? b=some u) (hp:h.objs.size<=a) (new:iI P w (upd H a o) h' a o):HOk P w (upd H a o) h':=fun b u e=>by
 have hn:=x.fresh hp
 by_cases hb:b=a
 ·subst hb;rw [bO] at e;cases e;exact new
 ·rw [bB hb] at e
  exact (x b u e).stay (fun c v _ q=>k c v q) (fun c q=>by rw [bB (cR q hn)];exact q) fun c xs q=>by rw [bB (cR q hn)];exact q
end
def Rd (H:Hp) (a:Addr) (u:HO):Prop:=H a=some u\/∃ o,H a=some (.frz o u)
theorem Rd.ok {P:Program} {w:World} {H:Hp} {h:Heap} {a:Addr} {u:HO} (r:Rd H a u) (x:HOk P w H h):iI P w H h a u:=by
 rcases r with r | ⟨o,r⟩
 ·exact x a u r
 ·obtain ⟨_,q⟩:=x a _ r
  exact q
def Mut:Option HO->Prop
 | some (.lst _)=>True
 | some (.dK _)=>True
 | some (.dT _)=>True
 | some (.set _ _)=>True
 | some (.ins _ _ _)=>True
 | some (.ext _)=>True
 | _=>False
section
variable {P:Program} {w:World} {H:Hp} {h h':Heap} {x e:Addr} {o':HO}
theorem HOk.write (ok:HOk P w H h) (mu:Mut (H x)) (he:e=x\/H e=some (.own x)) (k:∀ b u,b≠e->h.get? b=some u->h'.get? b=some u) (heo:∃ u,h'.get? e=some u)
  (new:iI P w (upd H x o') h' x o'):HOk P w (upd H x o') h':=fun b u q=>by
 have nown:∀ c y,H c=some (.own y)->c≠x:=fun c y r z=>by subst z;rw [r] at mu;exact mu
 have ntup:∀ c xs,H c=some (.tup xs)->c≠x:=fun c xs r z=>by subst z;rw [r] at mu;exact mu
 by_cases hb:b=x
 ·subst hb;rw [bO] at q;cases q;exact new
 ·rw [bB hb] at q
  by_cases hbe:b=e
  ·have q':H b=some (.own x):=by
    rcases he with z | z
    ·exact absurd (hbe.trans z) hb
    ·rw [hbe];exact z
   rw [q] at q';cases q'
   obtain ⟨v,hv⟩:=heo
   exact ⟨v,by rw [hbe];exact hv⟩
  ·refine (ok b u q).stay (fun c v hc r=>k c v ?_ r) (fun c r=>by rw [bB (nown c b r)];exact r) fun c xs r=>by rw [bB (ntup c xs r)];exact r
   rcases hc with rfl | hc
   ·exact hbe
   ·rintro rfl
    rcases he with z | z
    ·exact nown c b hc z
    ·rw [hc] at z;cases z;exact hb rfl
end
structure Un (fs ex:List Addr) (H H':Hp) (h h':Heap):Prop where
 keep:∀ b o,h.get? b=some o->H b=none->b∉fs->b∉ex->h'.get? b=some o
 slot:∀ b o,h.get? b=some o->H b=none->b∈fs->b∉ex->∃ sl,h'.get? b=some { o with slots:=sl }
 free:∀ b o,h.get? b=some o->H b=none->b∉ex->H' b=none
 there:∀ b o,h.get? b=some o->b∉ex->∃ o',h'.get? b=some o'
 tups:∀ b xs,H b=some (.tup xs)->H' b=some (.tup xs)
 frzs:∀ b o u,H b=some (.frz o u)->H' b=some (.frz o u)
 tbls:∀ b ps,H b=some (.tbl ps)->∃ more,H' b=some (.tbl (ps++more))
section
variable {fs fs' ex ex':List Addr} {H H1 H2:Hp} {h h1 h2 h':Heap} {a x e:Addr} {o:HO}
theorem Un.any (u:Un fs ex H H1 h h1) {b:Addr} {ob:Obj} (q:h.get? b=some ob) (n:H b=none) (hx:b∉ex):∃ sl,h1.get? b=some { ob with slots:=sl }:=by
 by_cases hb:b∈fs
 ·exact u.slot b ob q n hb hx
 ·exact ⟨ob.slots,u.keep b ob q n hb hx⟩
theorem Un.kept (k:∀ b u,h.get? b=some u->h'.get? b=some u):Un fs ex H H h h' :=
 ⟨fun b ob q _ _ _=>k b ob q,fun b ob q _ _ _=>⟨ob.slots,k b ob q⟩,fun _ _ _ n _=>n,fun b ob q _=>⟨ob,k b ob q⟩,fun _ _ q=>q,fun _ _ _ q=>q,fun _ ps q=>⟨#[],by rw [q];simp⟩⟩
theorem Un.refl:Un fs ex H H h h:=Un.kept fun _ _ q=>q
theorem Un.laid (k:∀ b u,h.get? b=some u->h'.get? b=some u) (hp:h.objs.size<=a) (hn:H a=none):Un fs ex H (upd H a o) h h' where
 keep:=fun b u q _ _ _=>k b u q
 slot:=fun b u q _ _ _=>⟨u.slots,k b u q⟩
 free:=fun b u q n _=>by rw [bB (Nat.ne_of_lt (Nat.lt_of_lt_of_le (Heap.lt_size q) hp))];exact n
 there:=fun b u q _=>⟨u,k b u q⟩
 tups:=fun b xs q=>by rw [bB (cR q hn)];exact q
 frzs:=fun b u xs q=>by rw [bB (cR q hn)];exact q
 tbls:=fun b ps q=>⟨#[],by rw [bB (cR q hn),q];simp⟩
theorem Un.write (mu:Mut (H x)) (he:e=x\/H e=some (.own x)) (k:∀ b u,b≠e->h.get? b=some u->h'.get? b=some u) (heo:∃ u,h'.get? e=some u):Un fs ex H (upd H x o) h h':=by
 have hx:∀ b,H b=none->b≠x:=fun b n z=>by subst z;rw [n] at mu;exact mu
 have hb:∀ b,H b=none->b≠e:=fun b n z=>by
  subst z
  rcases he with r | r
  ·exact hx b n r
  ·rw [n] at r;cases r
 have hm:∀ b u,H b=some u->¬ Mut (some u)->b≠x:=fun b u q nm z=>by subst z;rw [q] at mu;exact nm mu
 refine ⟨fun b u q n _ _=>k b u (hb b n) q,fun b u q n _ _=>⟨u.slots,k b u (hb b n) q⟩,fun b u q n _=>by rw [bB (hx b n)];exact n,fun b u q _ => ?_,
  fun b xs q=>by rw [bB (hm b _ q fun z=>z)];exact q,fun b u xs q=>by rw [bB (hm b _ q fun z=>z)];exact q,fun b ps q=>⟨#[],by rw [bB (hm b _ q fun z=>z),q];simp⟩⟩
 by_cases hbe:b=e
 ·subst hbe;exact heo
 ·exact ⟨u,k b u hbe q⟩
end
def trk (h:Heap) (H:Hp):List Addr:=(List.range h.objs.size).filter fun a=>(H a).isSome
def BF (h:Heap) (H:Hp):Heap:=PySem.W.hideAll h (trk h H)
theorem yK (h:Heap) (H:Hp):(BF h H).objs.size=h.objs.size:=PySem.W.hideAll_size _ _
theorem BE {h:Heap} {H:Hp} {b:Addr} {o:Obj} (e:h.get? b=some o) (n:H b=none):(BF h H).get? b=some o :=
 PySem.W.hideAll_get _ e fun hm=>by
  have q:(H b).isSome=true:=(List.mem_filter.mp hm).2
  rw [n] at q;simp at q
theorem EY {h:Heap} {H:Hp} {b:Addr} {o:Obj} (e:(BF h H).get? b=some o):h.get? b=some o/\H b=none:=by
 have e':h.get? b=some o:=PySem.W.of_hideAll (trk h H) e
 refine ⟨e',?_⟩
 cases q:H b with
 | none=>rfl
 | some x =>
  have hm:b∈trk h H:=List.mem_filter.mpr ⟨List.mem_range.mpr (Heap.lt_size e'),by simp [q]⟩
  have z:(BF h H).get? b=none:=PySem.W.hideAll_none (trk h H) hm
  rw [z] at e;cases e
def Gv (g h:Heap) (L:Addr):List ↥12:=(List.range h.objs.size).filterMap fun a=>if a=L\/(g.get? a).isSome=true then none else (h.get? a).map fun o=>(a,o)
def rest (g h:Heap) (L d:Addr):List ↥12:=(Gv g h L).filter fun p=>decide (p.1≠d)
end L2
namespace L2
open PySem PySem.Spec PyProof.Rows
structure Mod (K:PySem.W.Frag) (mg:Str->Option Value) (base:Heap):Prop where
 kin:K.In base
 glob:base.Ns mainGlobals mg
 blt:∃ mb,base.Ns builtinsNs mb/\∀ x:Str,x≠"__name__"->mb x=bootBuiltins x
 nolimit:base.NoLimit
structure Cx where
 prog:Program
 w:World
 K:PySem.W.Frag
 mg:Str->Option Value
 base:Heap
 A:Around
 N:List Str
 s₀:Shared
 H₀:Hp
 env:Env
 outer:List Env
 stack:List Env
 ex:List Addr
 fn:Str->Bool
 calm:Bool
 pn:List ↥12
 xe:Value->Shared->Prop
def frs (l:List Env):List Addr:=l.filterMap (·.frame)
abbrev Cx.fs (X:Cx):List Addr:=frs X.outer
def Vis (sc:Scope) (x:Str):Prop:=sc.names.lookup x=some .local\/sc.names.lookup x=some .cell\/sc.names.lookup x=some .free
def Loc (sc:Scope) (x:Str):Prop:=sc.names.lookup x=some .local\/sc.names.lookup x=some .cell
def Look (env:Env) (h:Heap) (m:Str->Option Value) (x:Str) (u:Value):Prop :=
 (env.kindOf x=some .local/\m x=some u)\/((env.kindOf x=some .cell\/env.kindOf x=some .free)/\∃ c,env.cells.lookup x=some c/\h.IsCell c (some u))
structure Cx.Ok (X:Cx):Prop where
 mod:Mod X.K X.mg X.base
 kind:X.env.scope.kind=.function
 glob:X.env.globals=mainGlobals
 blt:X.env.builtins=builtinsNs
 above:X.s₀.heap.objs.size<=X.env.locals
 inj:∀ x y c,X.env.cells.lookup x=some c->X.env.cells.lookup y=some c->x=y
 has:∀ x,(X.env.kindOf x=some .cell\/X.env.kindOf x=some .free)->∃ c,X.env.cells.lookup x=some c
 cab:∀ x c,X.fn x=true->X.env.cells.lookup x=some c->X.s₀.heap.objs.size<=c
 hd:X.calm=true->X.A.handled=none
 frames:X.A.frames=some X.stack
 stk:X.stack=X.outer\/(X.stack=X.env::X.outer/\X.env.frame=some X.env.locals)
 exf:∀ b∈X.ex,b≠X.env.locals/\∀ x c,X.env.cells.lookup x=some c->c≠b
 bs:∀ b o,X.base.get? b=some o->X.s₀.heap.get? b=some o/\X.H₀ b=none
 bsz:X.base.objs.size<=X.s₀.heap.objs.size
 noex:∀ b o,X.base.get? b=some o->b∉X.ex
 exfs:∀ b∈X.ex,b∉X.fs
 funs:X.s₀.heap.FunFrames X.base X.outer
 frf:∀ b∈X.fs,X.H₀ b=none
structure Inv (X:Cx) (pins:List ↥12) (σ:List (Option V)) (H:Hp) (s:Shared):Prop where
 ok:X.Ok
 os:s.os=X.s₀.os
 bare:AllBare s.gens
 base:Un X.fs X.ex X.H₀ H X.s₀.heap s.heap
 loc:∃ m,s.heap.Ns X.env.locals m/\∀ (i:Nat) (x:Str) (v:V),X.N[i]? = some x->σ[i]? = some (some v)->Vis X.env.scope x->∃ u,RelV v u/\Look X.env s.heap m x u
 cell:∀ x c,X.env.cells.lookup x=some c->∃ v,s.heap.IsCell c v
 free:H X.env.locals=none
 freeC:∀ x c,X.env.cells.lookup x=some c->H c=none
 pin:∀ p∈X.pn++pins,s.heap.get? p.1=some p.2/\H p.1=none/\p.1≠X.env.locals/\p.1∉X.fs/\∀ v,p.2.data ≠ .cell v
 hok:HOk X.prog X.w H s.heap
 len:σ.length=X.N.length
section
variable {X:Cx} {pins:List ↥12} {σ:List (Option V)} {H H':Hp} {s:Shared} {h':Heap}
theorem Cx.Ok.nofr (ok:X.Ok) {b:Addr} {o:Obj} (e:X.base.get? b=some o):b∉X.fs:=fun hb=>by
 have:=(ok.funs.mem hb).1
 rw [e] at this;cases this
theorem Inv.bs (I:Inv X pins σ H s):∀ b o,X.base.get? b=some o->s.heap.get? b=some o/\H b=none:=fun b o e =>
 ⟨I.base.keep b o (I.ok.bs b o e).1 (I.ok.bs b o e).2 (I.ok.nofr e) (I.ok.noex b o e),I.base.free b o (I.ok.bs b o e).1 (I.ok.bs b o e).2 (I.ok.noex b o e)⟩
theorem Inv.bk (I:Inv X pins σ H s):∀ b o,X.base.get? b=some o->s.heap.get? b=some o:=fun b o e=>(I.bs b o e).1
theorem Inv.mod (I:Inv X pins σ H s):Mod X.K X.mg X.base:=I.ok.mod
theorem Inv.kIn (I:Inv X pins σ H s):X.K.In s.heap:=I.ok.mod.kin.keeps I.bk
theorem Inv.lt (I:Inv X pins σ H s):X.env.locals<s.heap.objs.size:=let ⟨_,hn,_⟩:=I.loc;hn.lt
theorem Inv.sz (I:Inv X pins σ H s):X.s₀.heap.objs.size<=s.heap.objs.size:=Nat.le_trans I.ok.above (Nat.le_of_lt I.lt)
theorem Inv.nofs (I:Inv X pins σ H s) {a:Addr} (h:s.heap.objs.size<=a):a∉X.fs:=fun hb=>by
 obtain ⟨_,o,ho,_⟩:=I.ok.funs.mem hb
 exact absurd (Nat.lt_of_lt_of_le (Heap.lt_size ho) (Nat.le_trans I.sz h)) (Nat.lt_irrefl _)
theorem Inv.cne (I:Inv X pins σ H s):∀ x c,X.env.cells.lookup x=some c->c≠X.env.locals:=fun x c e z=>by
 obtain ⟨v,o,ho,hd⟩:=I.cell x c e
 obtain ⟨m,⟨o',es,ep,ho',hd',_⟩,_⟩:=I.loc
 rw [z,ho'] at ho;cases ho;rw [hd'] at hd;cases hd
theorem Inv.funs (I:Inv X pins σ H s):s.heap.FunFrames X.base X.outer:=by
 have all:∀ (l:List Env),(∀ b∈frs l,b∈X.fs)->X.s₀.heap.FunFrames X.base l->s.heap.FunFrames X.base l:=by
  intro l
  induction l with
  | nil=>intro _ _;trivial
  | cons env r ih =>
   intro hs hl
   obtain ⟨hk,⟨L,o,hf,hn,ho,hd⟩,hr⟩:=hl
   have hL:L∈X.fs:=hs L (by unfold frs;rw [List.filterMap_cons,hf];exact List.mem_cons_self)
   obtain ⟨sl,e⟩:=I.base.slot L o ho (I.ok.frf L hL) hL fun z=>I.ok.exfs L z hL
   exact ⟨hk,⟨L,_,hf,hn,e,hd⟩,ih (fun b hb=>hs b (by unfold frs;rw [List.filterMap_cons,hf];exact List.mem_cons_of_mem _ hb)) hr⟩
 exact all X.outer (fun _ hb=>hb) I.ok.funs
theorem Inv.stack (I:Inv X pins σ H s):s.heap.FunFrames X.base X.stack:=by
 rcases I.ok.stk with e | ⟨e,hf⟩
 ·rw [e];exact I.funs
 ·rw [e]
  obtain ⟨m,hn,_⟩:=I.loc
  refine .cons (by rw [I.ok.kind];decide) hf hn ?_ I.funs
  exact Heap.get?_none_of_le (Nat.le_trans I.ok.bsz I.ok.above)
theorem Inv.stkSub (I:Inv X pins σ H s):∀ b∈frs X.stack,b∈X.env.locals::X.fs:=fun b hb=>by
 rcases I.ok.stk with e | ⟨e,hf⟩
 ·rw [e] at hb;exact List.mem_cons_of_mem _ hb
 ·rw [e] at hb
  unfold frs at hb
  rw [List.filterMap_cons,hf] at hb
  exact hb
theorem Inv.stkFree (I:Inv X pins σ H s):∀ b∈frs X.stack,H b=none:=fun b hb=>by
 rcases List.mem_cons.mp (I.stkSub b hb) with e | hb
 ·rw [e];exact I.free
 ·obtain ⟨_,o,ho,_⟩:=I.ok.funs.mem hb
  exact I.base.free b o ho (I.ok.frf b hb) fun z=>I.ok.exfs b z hb
theorem Inv.step {g':Array GenState} {t':Nat} {d':Drawn} {ch:List Addr} (I:Inv X pins σ H s)
  (hch:∀ b∈ch,(b∈X.ex\/X.s₀.heap.objs.size<=b)/\b≠X.env.locals/\(∀ x c,X.env.cells.lookup x=some c->c≠b)/\∀ p∈X.pn++pins,p.1≠b)
  (keep:∀ b o,b≠X.env.locals->b∉X.fs->b∉ch->s.heap.get? b=some o->H b=none->h'.get? b=some o)
  (slot:∀ b o,b≠X.env.locals->b∈X.fs->b∉ch->s.heap.get? b=some o->H b=none->∃ sl,h'.get? b=some { o with slots:=sl }) (free:∀ b o,b∉ch->s.heap.get? b=some o->H b=none->H' b=none)
  (there:∀ b o,b∉ch->s.heap.get? b=some o->∃ o',h'.get? b=some o')
  (tups:∀ b xs,H b=some (.tup xs)->H' b=some (.tup xs)) (frzs:∀ b o u,H b=some (.frz o u)->H' b=some (.frz o u)) (tbls:∀ b ps,H b=some (.tbl ps)->∃ more,H' b=some (.tbl (ps++more)))
  (ns:∀ m,s.heap.Ns X.env.locals m->h'.Ns X.env.locals m) (hok:HOk X.prog X.w H' h') (hg:AllBare g') :
  Inv X pins σ H' { s with heap:=h',gens:=g',drawn:=d',toks:=t' }:=by
 have neL:∀ b o,X.s₀.heap.get? b=some o->b≠X.env.locals:=fun b o e=>Nat.ne_of_lt (Nat.lt_of_lt_of_le (Heap.lt_size e) I.ok.above)
 have neC:∀ b o,X.s₀.heap.get? b=some o->b∉X.ex->b∉ch:=fun b o e hx hb=>by
  rcases (hch b hb).1 with z | z
  ·exact hx z
  ·exact absurd (Nat.lt_of_lt_of_le (Heap.lt_size e) z) (Nat.lt_irrefl _)
 have cellK:∀ x c,X.env.cells.lookup x=some c->∀ v,s.heap.IsCell c v->h'.IsCell c v:=fun x c e v ⟨o,ho,hd⟩=>by
  have nch:c∉ch:=fun z=>(hch c z).2.2.1 x c e rfl
  by_cases hc:c∈X.fs
  ·obtain ⟨sl,q⟩:=slot c o (I.cne x c e) hc nch ho (I.freeC x c e)
   exact ⟨_,q,hd⟩
  ·exact ⟨o,keep c o (I.cne x c e) hc nch ho (I.freeC x c e),hd⟩
 refine ⟨I.ok,I.os,hg,⟨fun b o e n hb hx => ?_,fun b o e n hb hx => ?_,fun b o e n hx => ?_,fun b o e hx => ?_,fun b xs e=>tups b xs (I.base.tups b xs e),fun b o xs e=>frzs b o xs (I.base.frzs b o xs e),fun b ps e => ?_⟩,?_,fun x c e => ?_,?_,fun x c e => ?_,fun p hp => ?_,hok,I.len⟩
 ·exact keep b o (neL b o e) hb (neC b o e hx) (I.base.keep b o e n hb hx) (I.base.free b o e n hx)
 ·obtain ⟨sl,e1⟩:=I.base.slot b o e n hb hx
  obtain ⟨sl',e2⟩:=slot b _ (neL b o e) hb (neC b o e hx) e1 (I.base.free b o e n hx)
  exact ⟨sl',e2⟩
 ·obtain ⟨o',e1⟩:=I.base.there b o e hx
  exact free b o' (neC b o e hx) e1 (I.base.free b o e n hx)
 ·obtain ⟨o',e1⟩:=I.base.there b o e hx
  exact there b o' (neC b o e hx) e1
 ·obtain ⟨m1,e1⟩:=I.base.tbls b ps e
  obtain ⟨m2,e2⟩:=tbls b _ e1
  exact ⟨m1++m2,by rw [e2,Array.append_assoc]⟩
 ·obtain ⟨m,hn,hl⟩:=I.loc
  refine ⟨m,ns m hn,fun i x v e1 e2 e3 => ?_⟩
  obtain ⟨u,r,l⟩:=hl i x v e1 e2 e3
  refine ⟨u,r,?_⟩
  rcases l with l | ⟨k,c,e,z⟩
  ·exact .inl l
  ·exact .inr ⟨k,c,e,cellK x c e _ z⟩
 ·obtain ⟨v,z⟩:=I.cell x c e
  exact ⟨v,cellK x c e v z⟩
 ·obtain ⟨m,⟨o,_,_,ho,_⟩,_⟩:=I.loc
  exact free _ o (fun z=>(hch _ z).2.1 rfl) ho I.free
 ·obtain ⟨v,o,ho,hd⟩:=I.cell x c e
  exact free c o (fun z=>(hch c z).2.2.1 x c e rfl) ho (I.freeC x c e)
 ·obtain ⟨e,n,ne,nf,d⟩:=I.pin p hp
  have nch:p.1∉ch:=fun z=>(hch p.1 z).2.2.2 p hp rfl
  exact ⟨keep p.1 p.2 ne nf nch e n,free p.1 p.2 nch e n,ne,nf,d⟩
theorem Inv.un {t':Nat} (I:Inv X pins σ H s) (u:Un X.fs [] H H' s.heap h') (hok:HOk X.prog X.w H' h'):Inv X pins σ H' { s with heap:=h',toks:=t' }:=by
 obtain ⟨m,⟨o,es,ep,ho,r⟩,_⟩:=id I.loc
 obtain ⟨sl,hL⟩:=u.any ho I.free (by simp)
 exact I.step (g':=s.gens) (d':=s.drawn) (ch:=[]) (fun _ z=>nomatch z) (fun b o _ hb _ e n=>u.keep b o e n hb (by simp)) (fun b o _ hb _ e n=>u.slot b o e n hb (by simp)) (fun b o _ e n=>u.free b o e n (by simp)) (fun b o _ e=>u.there b o e (by simp)) u.tups u.frzs u.tbls (fun m' hm=>by
  obtain ⟨o',es',ep',ho',r'⟩:=hm
  rw [ho] at ho';cases ho'
  exact ⟨_,es',ep',hL,r'⟩) hok I.bare
theorem Inv.call {g':Array GenState} {t':Nat} {d':Drawn} {ch:List Addr} (I:Inv X pins σ H s) (u:Un (frs X.stack) ch H H' s.heap h') (hok:HOk X.prog X.w H' h') (hg:AllBare g')
  (hch:∀ b∈ch,(b∈X.ex\/X.s₀.heap.objs.size<=b)/\b≠X.env.locals/\(∀ x c,X.env.cells.lookup x=some c->c≠b)/\∀ p∈X.pn++pins,p.1≠b) :
  Inv X pins σ H' { s with heap:=h',gens:=g',drawn:=d',toks:=t' }:=by
 obtain ⟨m,⟨o,es,ep,ho,r⟩,_⟩:=id I.loc
 obtain ⟨sl,hL⟩:=u.any ho I.free fun z=>(hch _ z).2.1 rfl
 exact I.step (ch:=ch) hch (fun b o hL hb hc e n=>u.keep b o e n (fun z=>(List.mem_cons.mp (I.stkSub b z)).elim hL hb) hc) (fun b o _ _ hc e n=>u.any e n hc) (fun b o hc e n=>u.free b o e n hc) (fun b o hc e=>u.there b o e hc) u.tups u.frzs u.tbls (fun m' hm=>by
  obtain ⟨o',es',ep',ho',r'⟩:=hm
  rw [ho] at ho';cases ho'
  exact ⟨_,es',ep',hL,r'⟩) hok hg
theorem Inv.turned {t':Nat} {it:Addr} (I:Inv X pins σ H s) (k:∀ b o,b≠it->s.heap.get? b=some o->h'.get? b=some o) (hn:H it=none) (hL:it≠X.env.locals)
  (h1:it∈X.ex\/X.s₀.heap.objs.size<=it) (h2:∀ x c,X.env.cells.lookup x=some c->c≠it) (h3:∀ p∈X.pn++pins,p.1≠it):Inv X pins σ H { s with heap:=h',toks:=t' }:=by
 have nit:∀ b u,H b=some u->b≠it:=fun b u e z=>by rw [z,hn] at e;cases e
 refine I.step (g':=s.gens) (d':=s.drawn) (ch:=[it]) (fun b hb => ?_) (fun b o _ _ hc e _=>k b o (fun z=>hc (by simp [z])) e) (fun b o _ _ hc e _=>⟨o.slots,k b o (fun z=>hc (by simp [z])) e⟩) (fun _ _ _ _ n=>n)
  (fun b o hc e=>⟨o,k b o (fun z=>hc (by simp [z])) e⟩) (fun _ _ e=>e) (fun _ _ _ e=>e) (fun b ps e=>⟨#[],by rw [e];simp⟩) (fun m hm => ?_) (fun b u e => ?_) I.bare
 ·have e:b=it:=by simpa using hb
  subst e
  exact ⟨h1,hL,h2,h3⟩
 ·obtain ⟨o,es,ep,ho,r⟩:=hm
  exact ⟨o,es,ep,k _ o (Ne.symm hL) ho,r⟩
 ·refine (I.hok b u e).stay (fun c v hc q=>k c v ?_ q) (fun _ q=>q) fun _ _ q=>q
  rcases hc with z | z
  ·rw [z];exact nit b u e
  ·exact nit c _ z
theorem Inv.tok (I:Inv X pins σ H s) (t:Nat):Inv X pins σ H { s with toks:=t }:=I.un (h':=s.heap) (t':=t) Un.refl I.hok
theorem Inv.kept {t':Nat} (I:Inv X pins σ H s) (k:∀ b u,s.heap.get? b=some u->h'.get? b=some u):Inv X pins σ H { s with heap:=h',toks:=t' }:=I.un (Un.kept k) (I.hok.kept k)
theorem Inv.laid {a:Addr} {o:HO} {t':Nat} (I:Inv X pins σ H s) (k:∀ b u,s.heap.get? b=some u->h'.get? b=some u) (hp:s.heap.objs.size<=a) (new:iI X.prog X.w (upd H a o) h' a o) :
  Inv X pins σ (upd H a o) { s with heap:=h',toks:=t' }:=I.un (Un.laid k hp (I.hok.fresh hp)) (I.hok.laid k hp new)
theorem Inv.write {x e:Addr} {o:HO} {t':Nat} (I:Inv X pins σ H s) (mu:Mut (H x)) (he:e=x\/H e=some (.own x)) (k:∀ b u,b≠e->s.heap.get? b=some u->h'.get? b=some u) (heo:∃ u,h'.get? e=some u)
  (new:iI X.prog X.w (upd H x o) h' x o):Inv X pins σ (upd H x o) { s with heap:=h',toks:=t' }:=I.un (Un.write mu he k heo) (I.hok.write mu he k heo new)
theorem Inv.pins_of {pins':List ↥12} (I:Inv X pins σ H s) (h:∀ p∈pins',s.heap.get? p.1=some p.2/\H p.1=none/\p.1≠X.env.locals/\p.1∉X.fs/\∀ v,p.2.data ≠ .cell v):Inv X pins' σ H s :=
 ⟨I.ok,I.os,I.bare,I.base,I.loc,I.cell,I.free,I.freeC,fun p hp=>(List.mem_append.mp hp).elim (fun z=>I.pin p (List.mem_append_left _ z)) (h p),I.hok,I.len⟩
theorem uk {N:List Str} (hN:N.Nodup) {i j:Nat} {x:Str} (a:N[i]? = some x) (b:N[j]? = some x):i=j:=by
 obtain ⟨h1,e1⟩:=List.getElem?_eq_some_iff.mp a
 obtain ⟨h2,e2⟩:=List.getElem?_eq_some_iff.mp b
 exact (List.getElem_inj hN).mp (e1.trans e2.symm)
theorem xc {M:Model} {A:Around} {E:Value->Shared->Prop} {i:Nat} {x:Str} {v:V} {u:Value} {Q:Unit->Shared->Prop} (I:Inv X pins σ H s) (hN:X.N.Nodup) (hi:X.N[i]? = some x) (hx:Loc X.env.scope x) (r:RelV v u)
  (h:∀ s',Inv X pins (σ.set i (some v)) H s'->(∃ a,Heap.SameBut a s.heap s'.heap/\(a=X.env.locals\/X.env.cells.lookup x=some a))->Q () s') (hf:X.fn x=true\/X.env.scope.names.lookup x=some .local:=by first | exact .inl rfl | exact .inr rfl | assumption):wpAny M A (storeName X.env x u) Q E s:=by
 obtain ⟨m,hn,hl⟩:=id I.loc
 have hcls:(X.env.scope.kind == .class||(X.env.scope.kind == .module&&X.env.locals != X.env.globals))=false:=by rw [I.ok.kind];rfl
 have hiσ:i<σ.length:=by rw [I.len];exact (List.getElem?_eq_some_iff.mp hi).1
 have cne:=I.cne
 have tracked:∀ {a:Addr} {h':Heap},(∃ o,s.heap.get? a=some o/\H a=none)->Heap.SameBut a s.heap h'->HOk X.prog X.w H h':=fun {a h'} ha hs b ob e=>by
  obtain ⟨_,_,hfree⟩:=ha
  refine (I.hok b ob e).stay (fun c w' hc q=>(hs.2 c ?_).trans q) (fun _ q=>q) fun _ _ q=>q
  rintro rfl
  rcases hc with rfl | hc
  ·rw [hfree] at e;cases e
  ·rw [hfree] at hc;cases hc
 rcases hx with hk | hk
 ·refine wpAny_storeName_local hk hn (fun h' hn' hs => ?_) hcls
  obtain ⟨oL,_,_,hoL,_⟩:=id hn
  refine h _ ⟨I.ok,I.os,I.bare,⟨fun b o e n hb hx => ?_,fun b o e n hb hx => ?_,I.base.free,fun b o e hx => ?_,I.base.tups,I.base.frzs,I.base.tbls⟩,⟨_,hn',fun j y v' e1 e2 e3 => ?_⟩,fun y c e => ?_,I.free,I.freeC,fun p hp => ?_,tracked ⟨oL,hoL,I.free⟩ hs,by simpa using I.len⟩ ⟨_,hs,.inl rfl⟩
  ·exact (hs.2 b (Nat.ne_of_lt (Nat.lt_of_lt_of_le (Heap.lt_size e) I.ok.above))).trans (I.base.keep b o e n hb hx)
  ·obtain ⟨sl,e1⟩:=I.base.slot b o e n hb hx
   exact ⟨sl,(hs.2 b (Nat.ne_of_lt (Nat.lt_of_lt_of_le (Heap.lt_size e) I.ok.above))).trans e1⟩
  ·obtain ⟨o',e1⟩:=I.base.there b o e hx
   exact ⟨o',(hs.2 b (Nat.ne_of_lt (Nat.lt_of_lt_of_le (Heap.lt_size e) I.ok.above))).trans e1⟩
  ·by_cases hj:j=i
   ·subst hj
    rw [hi] at e1;cases e1
    rw [List.getElem?_set_self hiσ] at e2
    cases e2
    exact ⟨u,r,.inl ⟨hk,by simp⟩⟩
   ·rw [List.getElem?_set_ne (Ne.symm hj)] at e2
    obtain ⟨u',r',q⟩:=hl j y v' e1 e2 e3
    refine ⟨u',r',?_⟩
    rcases q with ⟨k,e⟩ | ⟨k,c,e,z⟩
    ·refine .inl ⟨k,?_⟩
     have:y≠x:=fun e=>hj (uk hN e1 (e▸hi))
     simp [this,e]
    ·exact .inr ⟨k,c,e,z.sameBut hs (cne y c e)⟩
  ·obtain ⟨w',z⟩:=I.cell y c e
   exact ⟨w',z.sameBut hs (cne y c e)⟩
  ·obtain ⟨e,n,ne,nf,d⟩:=I.pin p hp
   exact ⟨(hs.2 p.1 ne).trans e,n,ne,nf,d⟩
 ·have hfn:X.fn x=true:=by
   rcases hf with z | z
   ·exact z
   ·rw [z] at hk;cases hk
  obtain ⟨c,hc⟩:=I.ok.has x (.inl hk)
  obtain ⟨w',z⟩:=I.cell x c hc
  refine wpAny_storeName_cell I.ok.kind hk hc z (fun h' hc' hs => ?_)
  obtain ⟨oc,hoc,hocd⟩:=id z
  refine h { s with heap:=h' } ⟨I.ok,I.os,I.bare,⟨fun b o e n hb hx => ?_,fun b o e n hb hx => ?_,I.base.free,fun b o e hx => ?_,I.base.tups,I.base.frzs,I.base.tbls⟩,⟨m,hn.sameBut hs (Ne.symm (cne x c hc)),fun j y v' e1 e2 e3 => ?_⟩,fun y c' e => ?_,I.free,I.freeC,fun p hp => ?_,tracked ⟨oc,hoc,I.freeC x c hc⟩ hs,by simpa using I.len⟩ ⟨c,hs,.inr hc⟩
  ·exact (hs.2 b (Nat.ne_of_lt (Nat.lt_of_lt_of_le (Heap.lt_size e) (I.ok.cab x c hfn hc)))).trans (I.base.keep b o e n hb hx)
  ·obtain ⟨sl,e1⟩:=I.base.slot b o e n hb hx
   exact ⟨sl,(hs.2 b (Nat.ne_of_lt (Nat.lt_of_lt_of_le (Heap.lt_size e) (I.ok.cab x c hfn hc)))).trans e1⟩
  ·obtain ⟨o',e1⟩:=I.base.there b o e hx
   exact ⟨o',(hs.2 b (Nat.ne_of_lt (Nat.lt_of_lt_of_le (Heap.lt_size e) (I.ok.cab x c hfn hc)))).trans e1⟩
  ·by_cases hj:j=i
   ·subst hj
    rw [hi] at e1;cases e1
    rw [List.getElem?_set_self hiσ] at e2
    cases e2
    exact ⟨u,r,.inr ⟨.inl hk,c,hc,hc'⟩⟩
   ·rw [List.getElem?_set_ne (Ne.symm hj)] at e2
    obtain ⟨u',r',q⟩:=hl j y v' e1 e2 e3
    refine ⟨u',r',?_⟩
    rcases q with q | ⟨k,c',e,z'⟩
    ·exact .inl q
    ·refine .inr ⟨k,c',e,z'.sameBut hs ?_⟩
     rintro rfl
     exact hj (uk hN e1 (I.ok.inj _ _ _ e hc▸hi))
  ·by_cases hcc:c'=c
   ·subst hcc;exact ⟨_,hc'⟩
   ·obtain ⟨w2,z2⟩:=I.cell y c' e
    exact ⟨w2,z2.sameBut hs hcc⟩
  ·obtain ⟨e,n,ne,nf,d⟩:=I.pin p hp
   refine ⟨(hs.2 p.1 ?_).trans e,n,ne,nf,d⟩
   intro q
   rw [q,hoc] at e
   have q':oc=p.2:=Option.some.inj e
   exact d w' (by rw [<- q'];exact hocd)
theorem og {M:Model} {A:Around} {E:Value->Shared->Prop} {i:Nat} {x:Str} {v:V} {u:Value} {Q:Unit->Shared->Prop} (I:Inv X pins σ H s) (hN:X.N.Nodup) (hi:X.N[i]? = some x) (hx:Loc X.env.scope x) (r:RelV v u)
  (h:∀ s',Inv X pins (σ.set i (some v)) H s'->Q () s') (hf:X.fn x=true\/X.env.scope.names.lookup x=some .local:=by first | exact .inl rfl | exact .inr rfl | assumption):wpAny M A (storeName X.env x u) Q E s :=
 xc I hN hi hx r (fun s' I' _=>h s' I') hf
theorem Inv.call' {s':Shared} {ch:List Addr} (I:Inv X pins σ H s) (ho:s'.os=s.os) (u:Un (frs X.stack) ch H H' s.heap s'.heap) (hok:HOk X.prog X.w H' s'.heap) (hg:AllBare s'.gens)
  (hch:∀ b∈ch,(b∈X.ex\/X.s₀.heap.objs.size<=b)/\b≠X.env.locals/\(∀ x c,X.env.cells.lookup x=some c->c≠b)/\∀ p∈X.pn++pins,p.1≠b):Inv X pins σ H' s':=by
 obtain ⟨h',g',d',t',o'⟩:=s'
 have e:o'=s.os:=ho
 subst e
 exact I.call (g':=g') (t':=t') (d':=d') u hok hg hch
end
abbrev XK:=Value->Option Addr->Hp->Prop
abbrev St:=List (Option V)
abbrev VK:=V->Hp->Prop
abbrev TE:=St->Hp->VK->Prop
abbrev TT:=St->Hp->(Bool->Hp->Prop)->Prop
abbrev TA:=St->Hp->(List V->Hp->Prop)->Prop
structure Ends where
 nx:St->Hp->Prop
 rt:VK
 bk:St->Hp->Prop:=fun _ _=>False
 ct:St->Hp->Prop:=fun _ _=>False
abbrev TS:=Ends->St->Hp->Prop
def EP (X:Cx) (pins:List ↥12) (σ:St) (Q:VK) (u:Value) (s':Shared):Prop:=∃ v H',Inv X pins σ H' s'/\RelV v u/\Q v H'
def TP (X:Cx) (pins:List ↥12) (σ:St) (Q:Bool->Hp->Prop) (b:Bool) (s':Shared):Prop:=∃ H',Inv X pins σ H' s'/\Q b H'
def AP (X:Cx) (pins:List ↥12) (σ:St) (Q:List V->Hp->Prop) (us:List Value) (s':Shared):Prop:=∃ vs H',Inv X pins σ H' s'/\Vals vs us/\Q vs H'
def SP (X:Cx) (pins:List ↥12) (D:Ends) (f:Flow) (s':Shared):Prop :=
 match f with
 | .next=>∃ σ' H',Inv X pins σ' H' s'/\D.nx σ' H'
 | .brk=>∃ σ' H',Inv X pins σ' H' s'/\D.bk σ' H'
 | .cont=>∃ σ' H',Inv X pins σ' H' s'/\D.ct σ' H'
 | .ret u=>∃ v σ' H',Inv X pins σ' H' s'/\RelV v u/\D.rt v H'
def PE (X:Cx) (e:Expr) (t:TE):Prop :=
 ∀ (pins:List ↥12) (s:Shared) (σ:St) (H:Hp) (Q:VK),Inv X pins σ H s->t σ H Q->wpAny ↥7 X.A (eval e X.env) (EP X pins σ Q) X.xe s
def PT (X:Cx) (e:Expr) (t:TT):Prop :=
 ∀ (pins:List ↥12) (s:Shared) (σ:St) (H:Hp) (Q:Bool->Hp->Prop),Inv X pins σ H s->t σ H Q->wpAny ↥7 X.A (isTrue e X.env (eval e X.env)) (TP X pins σ Q) X.xe s
def PW (X:Cx) (e:Expr) (t:TT):Prop :=
 ∀ (whole:Sem Value) (pins:List ↥12) (s:Shared) (σ:St) (H:Hp) (Q:Bool->Hp->Prop),Inv X pins σ H s->t σ H Q->wpAny ↥7 X.A (isTrue e X.env whole) (TP X pins σ Q) X.xe s
theorem PW.pt {X:Cx} {e:Expr} {t:TT} (h:PW X e t):PT X e t:=h _
def PA (X:Cx) (es:List Expr) (t:TA):Prop :=
 ∀ (pos:Pos) (pins:List ↥12) (s:Shared) (σ:St) (H:Hp) (Q:List V->Hp->Prop),Inv X pins σ H s->t σ H Q->wpAny ↥7 X.A (spliced (backTo pos (starEach es X.env))) (AP X pins σ Q) X.xe s
def PS (X:Cx) (st:Stmt) (t:TS):Prop :=
 ∀ (pins:List ↥12) (s:Shared) (σ:St) (H:Hp) (D:Ends),Inv X pins σ H s->t D σ H->wpAny ↥7 X.A (exec st X.env) (SP X pins D) X.xe s
def PSs (X:Cx) (st:List Stmt) (t:TS):Prop :=
 ∀ (pins:List ↥12) (s:Shared) (σ:St) (H:Hp) (D:Ends),Inv X pins σ H s->t D σ H->wpAny ↥7 X.A (execs st X.env) (SP X pins D) X.xe s
theorem thn {α:Type} {t:Sem α} {Q Q':α->Shared->Prop} {M:Model} {A:Around} {E:Value->Shared->Prop} {s:Shared} (h:wpAny M A t Q E s) (hQ:∀ a s,Q a s->Q' a s):wpAny M A t Q' E s:=wpAny_mono h hQ fun _ _ x=>x
end L2
namespace L2
open PySem PySem.Spec PyProof.Rows
section
variable {X:Cx}
theorem bin {a b:Expr} {ta tb:TE} (ha:PE X a ta) (hb:PE X b tb) {pins:List ↥12} {s:Shared} {σ:St} {H:Hp} {R:V->V->Hp->Prop} (I:Inv X pins σ H s) (h:ta σ H fun x H1=>tb σ H1 fun y H2=>R x y H2)
  {α:Type} {Q:α->Shared->Prop} {f:Value->Value->Sem α}
  (hf:∀ v u s2 x y H2,Inv X pins σ H2 s2->RelV x v->RelV y u->R x y H2->wpAny ↥7 X.A (f v u) Q X.xe s2) :
  wpAny ↥7 X.A (eval a X.env) (fun v s₁=>wpAny ↥7 X.A (eval b X.env) (fun u s₂=>wpAny ↥7 X.A (f v u) Q X.xe s₂) X.xe s₁) X.xe s:=by
 refine thn (ha pins s σ H _ I h) fun v s1 ⟨x,H1,I1,r1,q1⟩ => ?_
 refine thn (hb pins s1 σ H1 _ I1 q1) fun u s2 ⟨y,H2,I2,r2,q2⟩ => ?_
 exact hf v u s2 x y H2 I2 r1 r2 q2
def Pe (i:Nat):TE:=fun σ H Q=>∃ v,σ[i]? = some (some v)/\Q v H
def tC (v:V):TE:=fun _ H Q=>Q v H
theorem uf {i:Nat} {x:Str} {pos:Pos} (hN:X.N[i]? = some x) (hv:Vis X.env.scope x) (hd:(x == ("__debug__":Str))=false:=by decide) (hcd:(x == ("__classdict__":Str))=false:=by decide):PE X (.Name x pos) (Pe i):=by
 intro pins s σ H Q I h
 obtain ⟨v,e,h⟩:=h
 obtain ⟨m,hn,hl⟩:=I.loc
 obtain ⟨u,r,l⟩:=hl i x v hN e hv
 have fin:EP X pins σ Q u s:=⟨v,H,I,r,h⟩
 rcases l with ⟨hk,hm⟩ | ⟨hk,c,hc,hcell⟩
 ·exact wpAny_Name (wpAny_loadName_local I.ok.kind hk hn hm fin) hd
 ·rcases hk with hk | hk
  ·exact wpAny_Name (wpAny_loadName_cell I.ok.kind hk hc hcell fin) hd
  ·exact wpAny_Name (wpAny_loadName_free I.ok.kind hk hc hcell fin hcd) hd
theorem Ig {i j pos}:PE X (.Constant (.int i) j pos) (tC (.int i)):=fun _ _ _ H _ I h=>wpAny_Constant_int ⟨.int i,H,I.tok _,⟨_,rfl⟩,h⟩
theorem Ld {b j pos}:PE X (.Constant (.bool b) j pos) (tC (.bl b)):=fun _ _ _ H _ I h=>Constant_bool ⟨.bl b,H,I,rfl,h⟩
theorem Ib {j pos}:PE X (.Constant .none j pos) (tC .non):=fun _ _ _ H _ I h=>Constant_none ⟨.non,H,I,rfl,h⟩
theorem Cy {x j pos}:PE X (.Constant (.str x) j pos) (tC (.str x)):=fun _ _ _ H _ I h=>Calls.Constant_str ⟨.str x,H,I.tok _,⟨_,rfl⟩,h⟩
def Gl (X:Cx) (x:Str):Prop:=X.env.kindOf x=some .globalImplicit
theorem oS {E:Value->Shared->Prop} {pins:List ↥12} {s:Shared} {σ:St} {H:Hp} {x:Str} {u:Value} {pos:Pos} {Q:Value->Shared->Prop} (I:Inv X pins σ H s) (hg:Gl X x) (hm:X.mg x=some u) (h:Q u s)
  (hd:(x == ("__debug__":Str))=false:=by decide):wpAny ↥7 X.A (eval (.Name x pos) X.env) Q E s :=
 Calls.Name_function_global I.ok.kind hg (Calls.loadGlobal_global (by rw [I.ok.glob];exact I.mod.glob.keeps I.bk) hm h) hd
theorem qq {E:Value->Shared->Prop} {pins:List ↥12} {s:Shared} {σ:St} {H:Hp} {x:Str} {u:Value} {pos:Pos} {Q:Value->Shared->Prop} (I:Inv X pins σ H s) (hg:Gl X x) (hm:X.mg x=none) (hv:bootBuiltins x=some u) (h:Q u s)
  (hn:x≠"__name__":=by decide) (hd:(x == ("__debug__":Str))=false:=by decide):wpAny ↥7 X.A (eval (.Name x pos) X.env) Q E s:=by
 obtain ⟨mb,h1,h2⟩:=I.mod.blt
 exact Calls.Name_function_global I.ok.kind hg (Calls.loadGlobal_builtin (by rw [I.ok.glob];exact I.mod.glob.keeps I.bk) hm (by rw [I.ok.blt];exact h1.keeps I.bk) ((h2 x hn).trans hv) h) hd
theorem xJ {x:Str} {v:V} {u:Value} {pos:Pos} (hg:Gl X x) (hm:X.mg x=some u) (r:RelV v u) (hd:(x == ("__debug__":Str))=false:=by decide):PE X (.Name x pos) (tC v) :=
 fun _ _ _ H _ I h=>oS I hg hm ⟨v,H,I,r,h⟩ hd
theorem EG {x:Str} {v:V} {u:Value} {pos:Pos} (hg:Gl X x) (hm:X.mg x=none) (hv:bootBuiltins x=some u) (r:RelV v u) (hn:x≠"__name__":=by decide) (hd:(x == ("__debug__":Str))=false:=by decide):PE X (.Name x pos) (tC v) :=
 fun _ _ _ H _ I h=>qq I hg hm hv ⟨v,H,I,r,h⟩ hn hd
variable {a b:Expr} {ta tb:TE} {pos:Pos}
def tB (t:TE):TT:=fun σ H Q=>t σ H fun x H1=>∃ c,x=.bl c/\Q c H1
theorem HR {e:Expr} {t:TE} (h:PE X e t) (he:∀ whole,isTrue e X.env whole=(do let v<-whole;standAt e.pos;holding [v] (truthy v)):=by intro _;rfl):PT X e (tB t):=by
 intro pins s σ H Q I hw
 refine isTrue_plain (thn (h pins s σ H _ I hw) fun v s1 ⟨x,H1,I1,r1,q1⟩ => ?_) (he _)
 obtain ⟨d,rfl,q⟩:=q1
 cases r1
 exact wpAny_truthy_bool ⟨H1,I1,q⟩
variable {tA tB':TT} {rest:List Expr}
def Pu (t u:TT):TT:=fun σ H Q=>t σ H fun c H1=>if c=true then u σ H1 Q else Q false H1
def tOr (t u:TT):TT:=fun σ H Q=>t σ H fun c H1=>if c=true then Q true H1 else u σ H1 Q
def Pk (t:TT):TT:=fun σ H Q=>t σ H fun c H1=>Q (!c) H1
theorem EA (ha:PT X a tA):PW X (.BoolOp .And [a] pos) tA:=by
 intro wh pins s σ H Q I h
 refine isTrue_and (thn (ha pins s σ H Q I h) fun c s1 e => ?_)
 cases c with
 | true=>exact isTrue_and_nil e
 | false=>exact e
theorem HN (ha:PT X a tA):PW X (.BoolOp .Or [a] pos) tA:=by
 intro wh pins s σ H Q I h
 refine isTrue_or (thn (ha pins s σ H Q I h) fun c s1 e => ?_)
 cases c with
 | false=>exact isTrue_or_nil e
 | true=>exact e
theorem HP (ha:PT X a tA) (hb:PW X (.BoolOp .And (b::rest) pos) tB'):PW X (.BoolOp .And (a::b::rest) pos) (Pu tA tB'):=by
 intro wh pins s σ H Q I h
 refine isTrue_and (thn (ha pins s σ H _ I h) fun c s1 ⟨H1,I1,q1⟩ => ?_)
 cases c with
 | true=>exact hb wh pins s1 σ H1 Q I1 q1
 | false=>exact ⟨H1,I1,q1⟩
theorem K3 (ha:PT X a tA) (hb:PW X (.BoolOp .Or (b::rest) pos) tB'):PW X (.BoolOp .Or (a::b::rest) pos) (tOr tA tB'):=by
 intro wh pins s σ H Q I h
 refine isTrue_or (thn (ha pins s σ H _ I h) fun c s1 ⟨H1,I1,q1⟩ => ?_)
 cases c with
 | true=>exact ⟨H1,I1,q1⟩
 | false=>exact hb wh pins s1 σ H1 Q I1 q1
theorem HS (ha:PT X a tA):PT X (.UnaryOp .Not a pos) (Pk tA):=by
 intro pins s σ H Q I h
 exact isTrue_not (ha pins s σ H (fun c H1=>Q (!c) H1) I h)
def KP (ta tb:TE):TE:=fun σ H Q=>ta σ H fun x H1=>∃ c,x=.bl c/\if c=true then tb σ H1 Q else Q (.bl false) H1
def Pj (ta tb:TE):TE:=fun σ H Q=>ta σ H fun x H1=>∃ c,x=.bl c/\if c=true then Q ↥36 H1 else tb σ H1 Q
def KI (ta:TE):TE:=fun σ H Q=>ta σ H fun x H1=>∃ c,x=.bl c/\Q (.bl (!c)) H1
theorem H4 {op} {t:TE} (h:PE X a t):PE X (.BoolOp op [a] pos) t:=fun pins s σ H Q I hw=>BoolOp_one (h pins s σ H Q I hw)
theorem Ij (ha:PE X a ta) (hb:PE X (.BoolOp .And (b::rest) pos) tb):PE X (.BoolOp .And (a::b::rest) pos) (KP ta tb):=by
 intro pins s σ H Q I h
 refine BoolOp_and (thn (ha pins s σ H _ I h) fun v s1 ⟨x,H1,I1,r1,q1⟩ => ?_)
 obtain ⟨c,rfl,q1⟩:=q1
 cases r1
 refine wpAny_truthy_bool ?_
 cases c with
 | true=>exact hb pins s1 σ H1 Q I1 q1
 | false=>exact ⟨.bl false,H1,I1,rfl,q1⟩
theorem K9 (ha:PE X a ta) (hb:PE X (.BoolOp .Or (b::rest) pos) tb):PE X (.BoolOp .Or (a::b::rest) pos) (Pj ta tb):=by
 intro pins s σ H Q I h
 refine BoolOp_or (thn (ha pins s σ H _ I h) fun v s1 ⟨x,H1,I1,r1,q1⟩ => ?_)
 obtain ⟨c,rfl,q1⟩:=q1
 cases r1
 refine wpAny_truthy_bool ?_
 cases c with
 | false=>exact hb pins s1 σ H1 Q I1 q1
 | true=>exact ⟨.bl true,H1,I1,rfl,q1⟩
theorem Ia (ha:PE X a ta):PE X (.UnaryOp .Not a pos) (KI ta):=by
 intro pins s σ H Q I h
 refine UnaryOp_ (thn (ha pins s σ H _ I h) fun v s1 ⟨x,H1,I1,r1,q1⟩ => ?_)
 obtain ⟨c,rfl,q1⟩:=q1
 cases r1
 exact not_of (wpAny_truthy_bool ⟨.bl (!c),H1,I1,rfl,q1⟩)
def tIf (t:TT) (ta tb:TE):TE:=fun σ H Q=>t σ H fun c H1=>if c=true then ta σ H1 Q else tb σ H1 Q
theorem AX {c:Expr} (hc:PT X c tA) (ha:PE X a ta) (hb:PE X b tb):PE X (.IfExp c a b pos) (tIf tA ta tb):=by
 intro pins s σ H Q I h
 refine wpAny_IfExp (thn (hc pins s σ H _ I h) fun d s1 ⟨H1,I1,q1⟩ => ?_)
 cases d with
 | true=>exact ha pins s1 σ H1 Q I1 q1
 | false=>exact hb pins s1 σ H1 Q I1 q1
end
end L2
namespace L2
open PySem PySem.Spec PyProof.Rows
def SqL (K:PySem.W.Frag) (H:Hp) (a:Addr) (xs:List V):Prop :=
 Rd H a (.lst xs) \/
  ∃ (o:Obj) (its:Array Value) (n:Nat),K.lookup a=some o/\o.cls=.type "list"/\o.dict=none/\o.data=.seq its n/\its.size<=sizeLine/\Vals xs its.toList
def SqT (K:PySem.W.Frag) (H:Hp) (a:Addr) (xs:List V):Prop :=
 Rd H a (.tup xs) \/
  ∃ (o:Obj) (its:Array Value) (n:Nat),K.lookup a=some o/\o.cls=.type "tuple"/\o.data=.seq its n/\its.size<=sizeLine/\Vals xs its.toList
def Ru:Value->Option V
 | .none=>some .non
 | .bool b=>some (.bl b)
 | .int i _=>some (.int i)
 | .str x _=>some (.str x)
 | .bytes b _=>some (.byt b)
 | .float b _=>some (.flt b)
 | .ref a=>some (.ref a)
 | .type n=>some (.ty n)
 | _=>none
theorem RelV.abs {x:V} {u:Value} (r:RelV x u):Ru u=some x:=by
 cases x with
 | non=>cases r;rfl
 | bl _=>cases r;rfl
 | int _=>obtain ⟨t,rfl⟩:=r;rfl
 | str _=>obtain ⟨t,rfl⟩:=r;rfl
 | byt _=>obtain ⟨t,rfl⟩:=r;rfl
 | flt _=>obtain ⟨t,rfl⟩:=r;rfl
 | ref _=>cases r;rfl
 | ty _=>cases r;rfl
theorem RelV.inj {x y:V} {u:Value} (r:RelV x u) (q:RelV y u):x=y:=Option.some.inj (r.abs.symm.trans q.abs)
theorem Vals.inj:∀ {xs ys:List V} {us:List Value},Vals xs us->Vals ys us->xs=ys
 | _,_,_,.nil,.nil=>rfl
 | _,_,_,.cons r t,.cons r' t'=>by rw [r.inj r',Vals.inj t t']
section
variable {X:Cx} {pins:List ↥12} {σ:St} {H:Hp} {s:Shared} {a:Addr} {xs ys:List V}
theorem SqL.of {K:PySem.W.Frag} (h:H a=some (.lst xs)):SqL K H a xs:=.inl (.inl h)
theorem SqT.of {K:PySem.W.Frag} (h:H a=some (.tup xs)):SqT K H a xs:=.inl (.inl h)
theorem Inv.list (I:Inv X pins σ H s) (h:SqL X.K H a xs):∃ its:List Value,Vals xs its/\PlainL s.heap a its.toArray/\xs.length<=sizeLine:=by
 rcases h with h | ⟨o,its,n,hk,hc,hd,hs,hz,r⟩
 ·obtain ⟨z,its,n,r,e⟩:=h.ok I.hok
  exact ⟨its,r,⟨_,n,e,rfl,rfl,rfl⟩,z⟩
 ·refine ⟨its.toList,r,⟨o,n,I.kIn a o hk,hc,hd,by simpa using hs⟩,?_⟩
  have e:=r.length
  simp only [Array.length_toList] at e
  omega
theorem Inv.tuple (I:Inv X pins σ H s) (h:SqT X.K H a xs):∃ its:List Value,Vals xs its/\IsTup s.heap a its.toArray/\xs.length<=sizeLine:=by
 rcases h with h | ⟨o,its,n,hk,hc,hs,hz,r⟩
 ·obtain ⟨z,its,r,p⟩:=h.ok I.hok
  exact ⟨its,r,p,z⟩
 ·refine ⟨its.toList,r,⟨o,I.kIn a o hk,hc,n,by simpa using hs⟩,?_⟩
  have e:=r.length
  simp only [Array.length_toList] at e
  omega
theorem Inv.list_inj (I:Inv X pins σ H s) (h:SqL X.K H a xs) (h':SqL X.K H a ys):xs=ys:=by
 obtain ⟨its,r,⟨o,n,e,_,_,d⟩,_⟩:=I.list h
 obtain ⟨its',r',⟨o',n',e',_,_,d'⟩,_⟩:=I.list h'
 rw [e] at e';cases e'
 rw [d] at d'
 injection d' with d1 _
 have:its=its':=by simpa using congrArg Array.toList d1
 subst this
 exact r.inj r'
theorem Inv.tuple_inj (I:Inv X pins σ H s) (h:SqT X.K H a xs) (h':SqT X.K H a ys):xs=ys:=by
 obtain ⟨its,r,⟨o,e,_,n,d⟩,_⟩:=I.tuple h
 obtain ⟨its',r',⟨o',e',_,n',d'⟩,_⟩:=I.tuple h'
 rw [e] at e';cases e'
 rw [d] at d'
 injection d' with d1 _
 have:its=its':=by simpa using congrArg Array.toList d1
 subst this
 exact r.inj r'
end
abbrev Cx.wish (X:Cx) (E:Value->Shared->Prop):Cx:={ X with xe:=E }
abbrev Cx.nox (X:Cx):Cx:=X.wish fun _ _=>False
theorem Cx.Ok.wish {X:Cx} (ok:X.Ok) (E:Value->Shared->Prop):(X.wish E).Ok :=
 ⟨ok.mod,ok.kind,ok.glob,ok.blt,ok.above,ok.inj,ok.has,ok.cab,ok.hd,ok.frames,ok.stk,ok.exf,ok.bs,ok.bsz,ok.noex,ok.exfs,ok.funs,ok.frf⟩
theorem Cx.Ok.unwish {X:Cx} {E:Value->Shared->Prop} (ok:(X.wish E).Ok):X.Ok :=
 ⟨ok.mod,ok.kind,ok.glob,ok.blt,ok.above,ok.inj,ok.has,ok.cab,ok.hd,ok.frames,ok.stk,ok.exf,ok.bs,ok.bsz,ok.noex,ok.exfs,ok.funs,ok.frf⟩
section
variable {X:Cx} {pins:List ↥12} {σ:St} {H:Hp} {s:Shared} {E:Value->Shared->Prop}
theorem Inv.wish (I:Inv X pins σ H s) (E:Value->Shared->Prop):Inv (X.wish E) pins σ H s:=⟨I.ok.wish E,I.os,I.bare,I.base,I.loc,I.cell,I.free,I.freeC,I.pin,I.hok,I.len⟩
theorem Inv.unwish (I:Inv (X.wish E) pins σ H s):Inv X pins σ H s:=⟨I.ok.unwish,I.os,I.bare,I.base,I.loc,I.cell,I.free,I.freeC,I.pin,I.hok,I.len⟩
theorem SP.unwish {D:Ends} {f:Flow} {s':Shared} (h:SP (X.wish E) pins D f s'):SP X pins D f s':=by
 cases f with
 | next=>obtain ⟨σ',H',I,q⟩:=h;exact ⟨σ',H',I.unwish,q⟩
 | brk=>obtain ⟨σ',H',I,q⟩:=h;exact ⟨σ',H',I.unwish,q⟩
 | cont=>obtain ⟨σ',H',I,q⟩:=h;exact ⟨σ',H',I.unwish,q⟩
 | ret u=>obtain ⟨v,σ',H',I,r,q⟩:=h;exact ⟨v,σ',H',I.unwish,r,q⟩
theorem PSs.nox {st:List Stmt} {t:TS} (h:PSs X.nox st t):PSs X st t:=fun pins s σ H D I hw =>
 wpAny_mono (h pins s σ H D (I.wish _) hw) (fun _ _ q=>q.unwish) fun _ _ z=>False.elim z
end
section
variable {X:Cx} {st:Stmt} {rest:List Stmt} {t u:TS} {e:Expr} {te:TE} {pos:Pos}
def KJ:TS:=fun D σ H=>D.nx σ H
def Pg (t u:TS):TS:=fun D σ H=>t { D with nx:=u D } σ H
theorem EB:PSs X [] KJ:=fun _ _ σ H _ I h=>wpAny_execs_nil ⟨σ,H,I,h⟩
theorem AV (h1:PS X st t) (h2:PSs X rest u):PSs X (st::rest) (Pg t u):=by
 intro pins s σ H D I h
 refine wpAny_execs_cons (thn (h1 pins s σ H { D with nx:=u D } I h) fun f s1 q => ?_)
 cases f with
 | next =>
  obtain ⟨σ',H',I',q⟩:=q
  exact h2 pins s1 σ' H' D I' q
 | ret v=>exact q
 | brk=>exact q
 | cont=>exact q
theorem xE (h1:PS X st t):PSs X [st] t:=by
 intro pins s σ H D I h
 refine wpAny_execs_cons (thn (h1 pins s σ H D I h) fun f s1 q => ?_)
 cases f with
 | next=>exact wpAny_execs_nil q
 | ret v=>exact q
 | brk=>exact q
 | cont=>exact q
theorem Inv.quiet {pins:List ↥12} {σ:St} {H:Hp} {s:Shared} (I:Inv X pins σ H s):interactive X.env=false:=by simp [interactive,I.ok.kind]
def KN (te:TE):TS:=fun D σ H=>te σ H fun _ H1=>D.nx σ H1
theorem xF (he:PE X e te) (hs:swapsWith e none pos.line X.env=pure false:=by rfl):PS X (.Expr e pos) (KN te):=by
 intro pins s σ H D I h
 exact wpAny_Expr_any (thn (he pins s σ H _ I h) fun v s1 ⟨x,H1,I1,r1,q1⟩=>⟨σ,H1,I1,q1⟩) I.quiet hs
def Ph (te:TE):TS:=fun D σ H=>te σ H D.rt
theorem HV (he:PE X e te):PS X (.Return (some e) pos) (Ph te):=by
 intro pins s σ H D I h
 exact wpAny_Return_some (thn (he pins s σ H _ I h) fun v s1 ⟨x,H1,I1,r1,q1⟩=>⟨x,σ,H1,I1,r1,q1⟩)
def Po (c:TT) (t u:TS):TS:=fun D σ H=>c σ H fun b H1=>if b=true then t D σ H1 else u D σ H1
theorem HW {c:Expr} {a b:List Stmt} {tc:TT} (hc:PT X c tc) (ha:PSs X a t) (hb:PSs X b u):PS X (.If c a b pos) (Po tc t u):=by
 intro pins s σ H D I h
 refine wpAny_If (thn (hc pins s σ H _ I h) fun d s1 ⟨H1,I1,q1⟩ => ?_)
 cases d with
 | true=>exact ha pins s1 σ H1 D I1 q1
 | false=>exact hb pins s1 σ H1 D I1 q1
end
abbrev TG:=V->St->Hp->(St->Hp->Prop)->Prop
abbrev TGs:=List V->St->Hp->(St->Hp->Prop)->Prop
def PG (X:Cx) (target:Expr) (t:TG):Prop :=
 ∀ (pins:List ↥12) (s:Shared) (σ:St) (H:Hp) (v:V) (u:Value) (Q:St->Hp->Prop),Inv X pins σ H s->RelV v u->t v σ H Q ->
  wpAny ↥7 X.A (assign target X.env u) (fun _ s'=>∃ σ' H',Inv X pins σ' H' s'/\Q σ' H') X.xe s
section
variable {X:Cx} {pos:Pos}
def vU (i:Nat):TG:=fun v σ H Q=>Q (σ.set i (some v)) H
theorem sv {i:Nat} {x:Str} (hN:X.N.Nodup) (hi:X.N[i]? = some x) (hx:Loc X.env.scope x) (hf:X.fn x=true\/X.env.scope.names.lookup x=some .local:=by first | exact .inl rfl | exact .inr rfl | assumption):PG X (.Name x pos) (vU i):=by
 intro pins s σ H v u Q I r h
 exact wpAny_assign_Name (og I hN hi hx r (fun s' I'=>⟨_,H,I',h⟩) hf)
def Ra:TGs:=fun vs σ H Q=>vs=[]/\Q σ H
def LH (t:TG) (u:TGs):TGs:=fun vs σ H Q=>∃ v r,vs=v::r/\t v σ H fun σ' H'=>u r σ' H' Q
def Pt (te:TE) (g:TG):TS:=fun D σ H=>te σ H fun x H1=>g x σ H1 D.nx
theorem HU {i:Nat} {x:Str} {e:Expr} {te:TE} {pos':Pos} (hN:X.N.Nodup) (hi:X.N[i]? = some x) (hx:Loc X.env.scope x) (he:PE X e te) (hs:swapsWith e (some (.Name x pos')) pos.line X.env=pure false:=by rfl) (hf:X.fn x=true\/X.env.scope.names.lookup x=some .local:=by first | exact .inl rfl | exact .inr rfl | assumption) :
  PS X (.Assign [.Name x pos'] e pos) (Pt te (vU i)):=by
 intro pins s σ H D I h
 refine wpAny_Assign_Name (thn (he pins s σ H _ I h) fun v s1 ⟨y,H1,I1,r1,q1⟩ => ?_) hs
 exact og I1 hN hi hx r1 (fun s2 I2=>⟨_,H1,I2,q1⟩) hf
end
section
variable {X:Cx} {pos:Pos}
def Co (c:TT) (tb:TS):TS:=fun D σ H=>∃ W:Nat->St->Hp->Prop,(∃ m,W m σ H)/\∀ m σ H,W m σ H ->
 c σ H fun b H1=>if b=true then ∃ N:St->Hp->Prop,(∀ σ' H',N σ' H'->∃ m',m'<m/\W m' σ' H')/\tb { D with nx:=N,ct:=N,bk:=D.nx } σ H1 else D.nx σ H1
theorem AW {c:Expr} {body:List Stmt} {tc:TT} {tb:TS} (hp:PassesOwn ↥7 X.A X.env X.xe) (hc:PT X c tc) (hb:PSs X body tb):PS X (.While c body [] pos) (Co tc tb):=by
 intro pins s σ H D I h
 obtain ⟨W,⟨m0,w0⟩,turn⟩:=h
 refine wpAny_While (codeAny_whileLoop (fun n s'=>∃ σ' H',Inv X pins σ' H' s'/\W n σ' H') ?_ m0 ⟨σ,H,I,w0⟩)
 rintro n s1 ⟨σ1,H1,I1,w1⟩
 refine wpAny_passesOwn hp (thn (hc pins s1 σ1 H1 _ I1 (turn n σ1 H1 w1)) fun b s2 ⟨H2,I2,q2⟩ => ?_)
 cases b with
 | true =>
  obtain ⟨N,hN,q2⟩:=q2
  rw [if_pos rfl]
  refine wpAny_passesOwn hp (thn (hb pins s2 σ1 H2 _ I2 q2) fun f s3 q3 => ?_)
  cases f with
  | next =>
   obtain ⟨σ3,H3,I3,n3⟩:=q3
   obtain ⟨m',hm,w3⟩:=hN σ3 H3 n3
   exact ⟨m',hm,σ3,H3,I3,w3⟩
  | cont =>
   obtain ⟨σ3,H3,I3,n3⟩:=q3
   obtain ⟨m',hm,w3⟩:=hN σ3 H3 n3
   exact ⟨m',hm,σ3,H3,I3,w3⟩
  | brk=>exact q3
  | ret v=>exact q3
 | false =>
  rw [if_neg Bool.false_ne_true]
  exact wpAny_execs_nil ⟨σ1,H2,I2,q2⟩
end
structure It where
 go:Nat->Hp->Prop
 yld:Nat->Hp->V->Hp->Prop
 stop:Nat->Hp->Prop
def wm (X:Cx) (pins:List ↥12) (H:Hp) (b:Addr):Prop :=
 H b=none/\b≠X.env.locals/\b∉X.fs/\(b∈X.ex\/X.s₀.heap.objs.size<=b)/\(∀ x c,X.env.cells.lookup x=some c->c≠b)/\∀ p∈X.pn++pins,p.1≠b
theorem Inv.fpOk {X:Cx} {pins:List ↥12} {σ:St} {H H':Hp} {s:Shared} {b:Addr} (I:Inv X pins σ H s) (hb:s.heap.objs.size<=b) (hn:H' b=none):wm X pins H' b:=by
 refine ⟨hn,Nat.ne_of_gt (Nat.lt_of_lt_of_le I.lt hb),I.nofs hb,.inr (Nat.le_trans I.sz hb),fun x c e z => ?_,fun p hp z => ?_⟩
 ·obtain ⟨v,q⟩:=I.cell x c e
  exact absurd (Nat.lt_of_lt_of_le q.lt (by rw [z];exact hb)) (Nat.lt_irrefl _)
 ·exact absurd (Nat.lt_of_lt_of_le (Heap.lt_size (I.pin p hp).1) (by rw [z];exact hb)) (Nat.lt_irrefl _)
structure Turn (P:Program) (w:World) (K:PySem.W.Frag) (tg:Expr) (J:It) (fp:List Addr) (it:Addr) (tn:Nat->Heap->Prop):Prop where
 mem:it∈fp
 obj:∀ i h,tn i h->∀ b∈fp,∃ o,h.get? b=some o/\∀ v,o.data ≠ .cell v
 keep:∀ i h h',tn i h->(∀ b∈fp,∀ o,h.get? b=some o->h'.get? b=some o)->tn i h'
 item:∀ (X:Cx),X.prog=P->X.w=w->X.K=K->X.calm=true->∀ (i:Nat) (pins:List ↥12) (s:Shared) (σ:St) (H:Hp) (E:Value->Shared->Prop),Inv X pins σ H s->(∀ b∈fp,wm X pins H b)->tn i s.heap->J.go i H ->
  wpAny (model P w) X.A (pyNext (.ref it)) (fun r s1=>∃ u,r=some u /\
   wpAny (model P w) X.A (letOwnedTupleGo tg (.ref it) u) (fun _ s2=>∃ x H',Inv X pins σ H' s2/\RelV x u/\J.yld i H x H'/\tn (i+1) s2.heap/\∀ b∈fp,H' b=none) E s1) E s
 done:∀ (X:Cx),X.prog=P->X.w=w->X.K=K->X.calm=true->∀ (i:Nat) (pins:List ↥12) (s:Shared) (σ:St) (H:Hp) (E:Value->Shared->Prop),Inv X pins σ H s->(∀ b∈fp,wm X pins H b)->tn i s.heap->J.stop i H ->
  wpAny (model P w) X.A (pyNext (.ref it)) (fun r s1=>r=none/\Inv X pins σ H s1) E s
 self:∀ (A:Around) (i:Nat) (s:Shared) (Q:Value->Shared->Prop) (E:Value->Shared->Prop),tn i s.heap->Q (.ref it) s->wpAny (model P w) A (pyIter (.ref it)) Q E s
abbrev TI:=St->Hp->(It->Hp->Prop)->Prop
def PIE (X:Cx) (pins:List ↥12) (σ:St) (tg:Expr) (R:It->Hp->Prop) (itv:Value) (s2:Shared):Prop :=
 ∃ (it:Addr) (fp:List Addr) (tn:Nat->Heap->Prop) (J:It) (H':Hp),itv=.ref it/\Inv X pins σ H' s2/\Turn X.prog X.w X.K tg J fp it tn/\tn 0 s2.heap/\(∀ b∈fp,wm X pins H' b)/\R J H'
def PI (X:Cx) (tg iter:Expr) (wi:TI):Prop :=
 ∀ (pins:List ↥12) (s:Shared) (σ:St) (H:Hp) (R:It->Hp->Prop),Inv X pins σ H s->wi σ H R ->
  wpAny ↥7 X.A (eval iter X.env) (fun v s1=>wpAny ↥7 X.A (pyIter v) (PIE X pins σ tg R) X.xe s1) X.xe s
theorem FD {M:Model} {A:Around} {E:Value->Shared->Prop} {s:Shared} {tg:Expr} {it:Addr} {u:Value} {o:Obj} {n:String} {vs:Array Value} {Q:Unit->Shared->Prop} (ho:s.heap.get? it=some o) (hc:o.cls=.type n) (hd:o.data=.fields vs)
  (hn:["enumerate","zip","dict_itemiterator","dict_reverseitemiterator","odict_iterator","itertools.zip_longest","itertools.pairwise"].contains n=false) (hQ:Q () s):wpAny M A (letOwnedTupleGo tg (.ref it) u) Q E s:=by
 unfold letOwnedTupleGo
 cases tg<;>first
  | exact wpAny_pure hQ
  | (cases u<;>first
    | exact wpAny_pure hQ
    | (refine wpAny_bind (wpAny_load ho ?_)
       rw [hc,hd]
       show wpAny M A (if (["enumerate","zip","dict_itemiterator","dict_reverseitemiterator","odict_iterator","itertools.zip_longest","itertools.pairwise"].contains n&&vs[0]? == some (rawInt _))=true then _ else _) Q E s
       rw [if_neg (by intro h;rw [hn,Bool.false_and] at h;cases h)]
       exact wpAny_pure hQ))
def Itl (K:PySem.W.Frag) (a:Addr):It :=
 ⟨fun i H=>∃ xs x,SqL K H a xs/\xs[i]? = some x,fun i H x H'=>H'=H/\∀ xs,SqL K H a xs->xs[i]? = some x,fun i H=>∃ xs,SqL K H a xs/\xs.length<=i⟩
def Itt (K:PySem.W.Frag) (a:Addr):It :=
 ⟨fun i H=>∃ xs x,SqT K H a xs/\xs[i]? = some x,fun i H x H'=>H'=H/\∀ xs,SqT K H a xs->xs[i]? = some x,fun i H=>∃ xs,SqT K H a xs/\xs.length<=i⟩
theorem wV {P:Program} {w:World} {K:PySem.W.Frag} {tg:Expr} (a it:Addr):Turn P w K tg (Itl K a) [it] it (fun i h=>h.IsListIter it a i) where
 mem:=by simp
 obj:=fun i h st b hb=>by
  have e:b=it:=by simpa using hb
  subst e
  obtain ⟨o,e,c,d⟩:=st
  exact ⟨o,e,fun v z=>by rw [d] at z;cases z⟩
 keep:=fun i h h' st k=>st.at fun o e=>k it (by simp) o e
 item:=by
  intro X hP hw hK hc i pins s σ H E I hf st hg
  subst hP hw hK
  obtain ⟨xs,x,hq,hx⟩:=hg
  obtain ⟨its,rv,p,hz⟩:=I.list hq
  obtain ⟨u,hu,ru⟩:=rv.get hx
  obtain ⟨f0,f1,f2,f3,f4,f5⟩:=hf it (by simp)
  refine wpAny_pyNext_list_item st p.isList (x:=u) (by simpa using hu) fun h' st' sb => ?_
  have I1:Inv X pins σ H { s with heap:=h' }:=I.turned (t':=s.toks) (fun b o hb e=>(sb.2 b hb).trans e) f0 f1 f3 f4 f5
  obtain ⟨o,e,c,d⟩:=id st'
  exact ⟨u,rfl,FD (s:={ s with heap:=h' }) e c d ↥1 ⟨x,H,I1,ru,⟨rfl,fun ys hy=>by rw [I.list_inj hy hq];exact hx⟩,st',fun b hb=>(hf b hb).1⟩⟩
 done:=by
  intro X hP hw hK hc i pins s σ H E I hf st hg
  subst hP hw hK
  obtain ⟨xs,hq,hx⟩:=hg
  obtain ⟨its,rv,p,hz⟩:=I.list hq
  obtain ⟨f0,f1,f2,f3,f4,f5⟩:=hf it (by simp)
  have hl:=rv.length
  exact wpAny_pyNext_list_end (I.ok.hd hc) st p.isList (by simp;omega) fun h' eb=>⟨rfl,I.turned (t':=s.toks) (fun b o hb e=>eb b o hb e) f0 f1 f3 f4 f5⟩
 self:=fun _ _ _ _ _ st h=>wpAny_pyIter_listiter st h
theorem vi {P:Program} {w:World} {K:PySem.W.Frag} {tg:Expr} (a it:Addr):Turn P w K tg (Itt K a) [it] it (fun i h=>h.IsTupleIter it a i) where
 mem:=by simp
 obj:=fun i h st b hb=>by
  have e:b=it:=by simpa using hb
  subst e
  obtain ⟨o,e,c,d⟩:=st
  exact ⟨o,e,fun v z=>by rw [d] at z;cases z⟩
 keep:=fun i h h' st k=>st.at fun o e=>k it (by simp) o e
 item:=by
  intro X hP hw hK hc i pins s σ H E I hf st hg
  subst hP hw hK
  obtain ⟨xs,x,hq,hx⟩:=hg
  obtain ⟨its,rv,p,hz⟩:=I.tuple hq
  obtain ⟨u,hu,ru⟩:=rv.get hx
  obtain ⟨f0,f1,f2,f3,f4,f5⟩:=hf it (by simp)
  refine wpAny_pyNext_tuple_item st (show s.heap.IsTuple a its.toArray from p) (x:=u) (by simpa using hu) fun h' st' sb => ?_
  have I1:Inv X pins σ H { s with heap:=h' }:=I.turned (t':=s.toks) (fun b o hb e=>(sb.2 b hb).trans e) f0 f1 f3 f4 f5
  obtain ⟨o,e,c,d⟩:=id st'
  exact ⟨u,rfl,FD (s:={ s with heap:=h' }) e c d ↥1 ⟨x,H,I1,ru,⟨rfl,fun ys hy=>by rw [I.tuple_inj hy hq];exact hx⟩,st',fun b hb=>(hf b hb).1⟩⟩
 done:=by
  intro X hP hw hK hc i pins s σ H E I hf st hg
  subst hP hw hK
  obtain ⟨xs,hq,hx⟩:=hg
  obtain ⟨its,rv,p,hz⟩:=I.tuple hq
  obtain ⟨f0,f1,f2,f3,f4,f5⟩:=hf it (by simp)
  have hl:=rv.length
  exact wpAny_pyNext_tuple_end (I.ok.hd hc) st (show s.heap.IsTuple a its.toArray from p) (by simp;omega) fun h' eb=>⟨rfl,I.turned (t':=s.toks) (fun b o hb e=>eb b o hb e) f0 f1 f3 f4 f5⟩
 self:=fun _ _ _ _ _ st h=>wpAny_pyIter_tupleiter st h
end L2
namespace L2
open PySem PySem.Spec PyProof.Rows
section
variable {X:Cx} {tg:Expr}
def LG (K:PySem.W.Frag) (tl:TE):TI:=fun σ H R=>tl σ H fun x H1=>∃ a,x=.ref a/\(∃ xs,SqL K H1 a xs)/\R (Itl K a) H1
def Q9 (K:PySem.W.Frag) (tl:TE):TI:=fun σ H R=>tl σ H fun x H1=>∃ a,x=.ref a/\(∃ xs,SqT K H1 a xs)/\R (Itt K a) H1
theorem ED {l:Expr} {tl:TE} (hl:PE X l tl):PI X tg l (LG X.K tl):=by
 intro pins s σ H R I h
 refine thn (hl pins s σ H _ I h) fun v s1 ⟨x,H1,I1,r1,q1⟩ => ?_
 obtain ⟨a,e,⟨xs,hq⟩,q⟩:=q1
 subst e
 cases r1
 obtain ⟨its,rv,p,hz⟩:=I1.list hq
 refine wpAny_pyIter_list p.isList ?_
 refine ⟨s1.heap.objs.size,[s1.heap.objs.size],_,_,H1,rfl,I1.kept (t':=s1.toks) fun b o e=>Heap.get?_push_of_some _ e,wV a _,⟨_,Heap.get?_push_size _ rfl,rfl,rfl⟩,fun b hb => ?_,q⟩
 have e:b=s1.heap.objs.size:=by simpa using hb
 subst e
 exact I1.fpOk ↥37 (I1.hok.fresh ↥37)
theorem HZ {l:Expr} {tl:TE} (hl:PE X l tl):PI X tg l (Q9 X.K tl):=by
 intro pins s σ H R I h
 refine thn (hl pins s σ H _ I h) fun v s1 ⟨x,H1,I1,r1,q1⟩ => ?_
 obtain ⟨a,e,⟨xs,hq⟩,q⟩:=q1
 subst e
 cases r1
 obtain ⟨its,rv,p,hz⟩:=I1.tuple hq
 refine wpAny_pyIter_tuple (show s1.heap.IsTuple a its.toArray from p) ?_
 refine ⟨s1.heap.objs.size,[s1.heap.objs.size],_,_,H1,rfl,I1.kept (t':=s1.toks) fun b o e=>Heap.get?_push_of_some _ e,vi a _,⟨_,Heap.get?_push_size _ rfl,rfl,rfl⟩,fun b hb => ?_,q⟩
 have e:b=s1.heap.objs.size:=by simpa using hb
 subst e
 exact I1.fpOk ↥37 (I1.hok.fresh ↥37)
def Pp (wi:TI) (g:TG) (tb:TS):TS:=fun D σ H=>wi σ H fun J H1=>∃ W:Nat->Nat->St->Hp->Prop,(∃ m,W 0 m σ H1)/\∀ i m σ H,W i m σ H ->
 (J.stop i H/\D.nx σ H)\/(J.go i H/\∃ N:St->Hp->Prop,(∀ σ' H',N σ' H'->∃ m',m'<m/\W (i+1) m' σ' H')/\∀ x H',J.yld i H x H'->g x σ H' fun σ2 H2=>tb { D with nx:=N,ct:=N,bk:=D.nx } σ2 H2)
def mW (fp:List Addr) (h:Heap):List ↥12:=fp.filterMap fun b=>(h.get? b).map fun o=>(b,o)
theorem dH {fp:List Addr} {h:Heap} {b:Addr} {o:Obj} (hb:b∈fp) (e:h.get? b=some o):(b,o)∈mW fp h:=List.mem_filterMap.mpr ⟨b,hb,by rw [e];rfl⟩
theorem qj {fp:List Addr} {h:Heap} {p:Addr×Obj} (hp:p∈mW fp h):p.1∈fp/\h.get? p.1=some p.2:=by
 obtain ⟨b,hb,e⟩:=List.mem_filterMap.mp hp
 cases q:h.get? b with
 | none=>rw [q] at e;cases e
 | some o =>
  rw [q] at e
  have e':(b,o)=p:=Option.some.inj e
  subst e'
  exact ⟨hb,q⟩
theorem Inv.pinned {pins:List ↥12} {σ:St} {H:Hp} {s:Shared} {fp:List Addr} (I:Inv X pins σ H s) (hf:∀ b∈fp,wm X pins H b) (ho:∀ b∈fp,∃ o,s.heap.get? b=some o/\∀ v,o.data ≠ .cell v):Inv X (pins++mW fp s.heap) σ H s :=
 I.pins_of fun p hp=>(List.mem_append.mp hp).elim (fun z=>I.pin p (List.mem_append_right _ z)) fun z=>by
  obtain ⟨hb,e⟩:=qj z
  obtain ⟨f0,f1,f2,_⟩:=hf p.1 hb
  obtain ⟨o,e',d⟩:=ho p.1 hb
  rw [e] at e';cases e'
  exact ⟨e,f0,f1,f2,d⟩
theorem Inv.unpinned {pins pl:List ↥12} {σ:St} {H:Hp} {s:Shared} (I:Inv X (pins++pl) σ H s):Inv X pins σ H s:=I.pins_of fun p hp=>I.pin p (List.mem_append_right _ (List.mem_append_left _ hp))
theorem HX {iter:Expr} {body:List Stmt} {wi:TI} {g:TG} {tb:TS} {pos:Pos} (hp:PassesOwn ↥7 X.A X.env X.xe) (hc:X.calm=true) (hi:PI X tg iter wi) (hg:PG X tg g) (hb:PSs X body tb)
  (hs:∀ x,foldedSetIterable iter X.env x=pure x:=by intro _;rfl):PS X (.For tg iter body [] pos) (Pp wi g tb):=by
 intro pins s σ H D I h
 refine wpAny_For (thn (hi pins s σ H _ I h) fun v s1 h1=>thn h1 fun itv s2 h2 => ?_) hs
 obtain ⟨it,fp,tn,J,H2,e,I2,T,st2,f2,W,⟨m0,w0⟩,turn⟩:=h2
 subst e
 have stat:∀ {H':Hp},(∀ b∈fp,H' b=none)->∀ b∈fp,wm X pins H' b:=fun hn b hb=>⟨hn b hb,(f2 b hb).2⟩
 refine codeAny_forLoop_any (fun n s'=>∃ i σ' H',Inv X pins σ' H' s'/\tn i s'.heap/\(∀ b∈fp,H' b=none)/\W i n σ' H') ?_ m0 ⟨0,σ,H2,I2,st2,fun b hb=>(f2 b hb).1,w0⟩
 rintro n s3 ⟨i,σ3,H3,I3,st3,fr3,w3⟩
 rcases turn i n σ3 H3 w3 with ⟨stop,qn⟩ | ⟨go,N,hN,step⟩
 ·refine wpAny_passesOwn hp (thn (T.done X rfl rfl rfl hc i pins s3 σ3 H3 X.xe I3 (stat fr3) st3 stop) fun r s4 ⟨hr,I4⟩ => ?_)
  subst hr
  exact wpAny_execs_nil ⟨σ3,H3,I4,qn⟩
 ·refine wpAny_passesOwn hp (thn (T.item X rfl rfl rfl hc i pins s3 σ3 H3 X.xe I3 (stat fr3) st3 go) fun r s4 ⟨u,hr,h4⟩ => ?_)
  subst hr
  refine wpAny_passesOwn hp (thn h4 fun _ s5 ⟨x,H5,I5,r5,y5,st5,fr5⟩ => ?_)
  have I5':=I5.pinned (stat fr5) (T.obj _ _ st5)
  refine wpAny_passesOwn hp (thn (hg _ s5 σ3 H5 x u _ I5' r5 (step x H5 y5)) fun _ s6 ⟨σ6,H6,I6,q6⟩ => ?_)
  refine wpAny_passesOwn hp (thn (hb _ s6 σ6 H6 _ I6 q6) fun f s7 q7 => ?_)
  have again:∀ {σ7:St} {H7:Hp},Inv X (pins++mW fp s5.heap) σ7 H7 s7->N σ7 H7->∃ m,m<n/\∃ i σ' H',Inv X pins σ' H' s7/\tn i s7.heap/\(∀ b∈fp,H' b=none)/\W i m σ' H':=fun {σ7 H7} I7 n7=>by
   obtain ⟨m',hm,w7⟩:=hN σ7 H7 n7
   refine ⟨m',hm,i+1,σ7,H7,I7.unpinned,T.keep _ _ _ st5 fun b hb o e=>(I7.pin (b,o) (List.mem_append_right _ (List.mem_append_right _ (dH hb e)))).1,fun b hb => ?_,w7⟩
   obtain ⟨o,e,d⟩:=T.obj _ _ st5 b hb
   exact (I7.pin (b,o) (List.mem_append_right _ (List.mem_append_right _ (dH hb e)))).2.1
  cases f with
  | next=>obtain ⟨σ7,H7,I7,n7⟩:=q7;exact again I7 n7
  | cont=>obtain ⟨σ7,H7,I7,n7⟩:=q7;exact again I7 n7
  | brk=>obtain ⟨σ7,H7,I7,q7⟩:=q7;exact ⟨σ7,H7,I7.unpinned,q7⟩
  | ret v=>obtain ⟨x7,σ7,H7,I7,r7,q7⟩:=q7;exact ⟨x7,σ7,H7,I7.unpinned,r7,q7⟩
end
theorem tV {c:TT} {tb:TS} {D:Ends} {σ:St} {H:Hp} (Pv:St->Hp->Prop) (μ:St->Hp->Nat) (h0:Pv σ H)
  (hs:∀ σ H,Pv σ H->c σ H fun b H1=>if b=true then tb { D with nx:=fun σ' H'=>Pv σ' H'/\μ σ' H'<μ σ H,ct:=fun σ' H'=>Pv σ' H'/\μ σ' H'<μ σ H,bk:=D.nx } σ H1 else D.nx σ H1)
  (mono:∀ σ H Q Q',(∀ b H1,Q b H1->Q' b H1)->c σ H Q->c σ H Q'):Co c tb D σ H:=by
 refine ⟨fun m σ H=>m=μ σ H/\Pv σ H,⟨_,rfl,h0⟩,?_⟩
 rintro m σ H ⟨rfl,p⟩
 refine mono σ H _ _ (fun b H1 q => ?_) (hs σ H p)
 cases b with
 | true=>exact ⟨_,fun σ' H' ⟨p',l⟩=>⟨_,l,rfl,p'⟩,q⟩
 | false=>exact q
end L2
namespace L2
open PySem PySem.Spec PyProof.Rows
abbrev R2:=V->V->Hp->VK->Prop
def OpR (X:Cx) (f:Value->Value->Sem Value) (r:R2):Prop :=
 ∀ (pins:List ↥12) (s:Shared) (σ:St) (H:Hp) (x y:V) (v u:Value) (Q:VK),Inv X pins σ H s->RelV x v->RelV y u->r x y H Q ->
  wpAny ↥7 X.A (f v u) (EP X pins σ Q) X.xe s
def UnR (X:Cx) (f:Value->Sem Value) (r:V->Hp->VK->Prop):Prop :=
 ∀ (pins:List ↥12) (s:Shared) (σ:St) (H:Hp) (x:V) (v:Value) (Q:VK),Inv X pins σ H s->RelV x v->r x H Q ->
  wpAny ↥7 X.A (f v) (EP X pins σ Q) X.xe s
def iJ (X:Cx) (f:Value) (r:List V->Hp->VK->Prop):Prop :=
 ∀ (pins:List ↥12) (s:Shared) (σ:St) (H:Hp) (xs:List V) (us:List Value) (Q:VK),Inv X pins σ H s->Vals xs us->r xs H Q ->
  wpAny ↥7 X.A (call f us) (EP X pins σ Q) X.xe s
def tOp (r:R2) (ta tb:TE):TE:=fun σ H Q=>ta σ H fun x H1=>tb σ H1 fun y H2=>r x y H2 Q
def tUn (r:V->Hp->VK->Prop) (ta:TE):TE:=fun σ H Q=>ta σ H fun x H1=>r x H1 Q
def rI (C:Int->Int->Prop) (g:Int->Int->V):R2:=fun x y H Q=>∃ i j,x=.int i/\y=.int j/\C i j/\Q (g i j) H
def rI0 (g:Int->Int->V):R2:=fun x y H Q=>∃ i j,x=.int i/\y=.int j/\Q (g i j) H
def rU (g:Int->V):V->Hp->VK->Prop:=fun x H Q=>∃ i,x=.int i/\Q (g i) H
section
variable {X:Cx} {a b c:Expr} {ta tb tc:TE} {pos:Pos}
theorem LU (ha:PE X a ta) (hb:PE X b tb) {pins:List ↥12} {s:Shared} {σ:St} {H:Hp} {R:V->V->Hp->Prop} (I:Inv X pins σ H s)
  (h:ta σ H fun x H1=>tb σ H1 fun y H2=>R x y H2) {Q:Value->Shared->Prop} {f:Value->Value->Sem Value}
  (hf:∀ v u s2 x y H2,Inv X pins σ H2 s2->RelV x v->RelV y u->R x y H2->wpAny ↥7 X.A (f v u) Q X.xe s2) :
  wpAny ↥7 X.A (eval a X.env) (fun v s₁=>wpAny ↥7 X.A (eval b X.env) (fun u s₂=>wpAny ↥7 X.A (f v u) Q X.xe s₂) X.xe s₁) X.xe s:=by
 refine thn (ha pins s σ H _ I h) fun v s1 ⟨x,H1,I1,r1,q1⟩ => ?_
 refine thn (hb pins s1 σ H1 _ I1 q1) fun u s2 ⟨y,H2,I2,r2,q2⟩ => ?_
 exact hf v u s2 x y H2 I2 r1 r2 q2
theorem La {op:Operator} {r:R2} (ho:OpR X (binaryOp op) r) (ha:PE X a ta) (hb:PE X b tb):PE X (.BinOp a op b pos) (tOp r ta tb):=by
 intro pins s σ H Q I h
 exact wpAny_BinOp (LU ha hb I h fun v u s2 x y H2 I2 rx ry q=>ho pins s2 σ H2 x y v u Q I2 rx ry q)
theorem K8 {op:UnaryOp} {r:V->Hp->VK->Prop} (ho:UnR X (unaryOp op) r) (ha:PE X a ta):PE X (.UnaryOp op a pos) (tUn r ta):=by
 intro pins s σ H Q I h
 exact UnaryOp_ (thn (ha pins s σ H _ I h) fun v s1 ⟨x,H1,I1,r1,q1⟩=>ho pins s1 σ H1 x v Q I1 r1 q1)
theorem opI {f:Value->Value->Sem Value} {C:Int->Int->Prop} {g:Int->Int->Int}
  (rule:∀ (i j:Int) (t u:Tok) (s:Shared) (Q:Value->Shared->Prop) (E:Value->Shared->Prop),C i j->Q (.int (g i j) s.toks) { s with toks:=s.toks+1 }->wpAny ↥7 X.A (f (.int i t) (.int j u)) Q E s) :
  OpR X f (rI C fun i j=>.int (g i j)):=by
 intro pins s σ H x y v u Q I rx ry h
 obtain ⟨i,j,rfl,rfl,hc,q⟩:=h
 obtain ⟨t,rfl⟩:=rx
 obtain ⟨t',rfl⟩:=ry
 exact rule i j t t' s _ _ hc ⟨.int (g i j),H,I.tok _,⟨_,rfl⟩,q⟩
theorem II {f:Value->Value->Sem Value} {g:Int->Int->Int}
  (rule:∀ (i j:Int) (t u:Tok) (s:Shared) (Q:Value->Shared->Prop) (E:Value->Shared->Prop),Q (.int (g i j) s.toks) { s with toks:=s.toks+1 }->wpAny ↥7 X.A (f (.int i t) (.int j u)) Q E s) :
  OpR X f (rI0 fun i j=>.int (g i j)):=by
 intro pins s σ H x y v u Q I rx ry h
 obtain ⟨i,j,rfl,rfl,q⟩:=h
 obtain ⟨t,rfl⟩:=rx
 obtain ⟨t',rfl⟩:=ry
 exact rule i j t t' s _ _ ⟨.int (g i j),H,I.tok _,⟨_,rfl⟩,q⟩
theorem Lm {f:Value->Value->Sem Value} {g:Int->Int->Bool}
  (rule:∀ (i j:Int) (t u:Tok) (s:Shared) (Q:Value->Shared->Prop) (E:Value->Shared->Prop),Q (.bool (g i j)) s->wpAny ↥7 X.A (f (.int i t) (.int j u)) Q E s) :
  OpR X f (rI0 fun i j=>.bl (g i j)):=by
 intro pins s σ H x y v u Q I rx ry h
 obtain ⟨i,j,rfl,rfl,q⟩:=h
 obtain ⟨t,rfl⟩:=rx
 obtain ⟨t',rfl⟩:=ry
 exact rule i j t t' s _ _ ⟨.bl (g i j),H,I,rfl,q⟩
theorem vh (k:Nat):(0:Int)<=2^k:=by
 rw [two_pow_cast]
 exact Int.natCast_nonneg _
theorem IH:OpR X (binaryOp .Add) (rI0 fun i j=>.int (i+j)):=II fun _ _ _ _ _ _ _ q=>add_int q
theorem Iz:OpR X (binaryOp .Sub) (rI0 fun i j=>.int (i - j)):=II fun _ _ _ _ _ _ _ q=>sub_int q
theorem IC:OpR X (binaryOp .Mod) (rI (fun _ j=>0<j) fun i j=>.int (i%j)):=opI fun i j _ _ _ _ _ hc q=>by
 have h1:(0:Int)<j:=hc
 exact mod_int' ⋯ (by rw [Int.fmod_eq_emod_of_nonneg i ⋯];exact q)
theorem IA:OpR X (binaryOp .RShift) (rI (fun _ j=>0<=j) fun i j=>.int (i / 2^j.toNat)):=opI fun i j _ _ _ _ _ hc q =>
 rshift_int hc (by rw [Int.fdiv_eq_ediv_of_nonneg i (vh _)];exact q)
theorem IG:OpR X (binaryOp .BitAnd) (rI0 fun i j=>.int (Builtin.bitAnd i j)):=II fun _ _ _ _ _ _ _ q=>and_int q
theorem Lf:OpR X (binaryOp .BitOr) (rI0 fun i j=>.int (Builtin.bitOr i j)):=II fun _ _ _ _ _ _ _ q=>or_int q
theorem Iw:OpR X (binaryOp .BitXor) (rI0 fun i j=>.int (Builtin.bitXor i j)):=II fun _ _ _ _ _ _ _ q=>xor_int q
theorem unI {f:Value->Sem Value} {g:Int->Int}
  (rule:∀ (i:Int) (t:Tok) (s:Shared) (Q:Value->Shared->Prop) (E:Value->Shared->Prop),Q (.int (g i) s.toks) { s with toks:=s.toks+1 }->wpAny ↥7 X.A (f (.int i t)) Q E s) :
  UnR X f (rU fun i=>.int (g i)):=by
 intro pins s σ H x v Q I rx h
 obtain ⟨i,rfl,q⟩:=h
 obtain ⟨t,rfl⟩:=rx
 exact rule i t s _ _ ⟨.int (g i),H,I.tok _,⟨_,rfl⟩,q⟩
theorem GY:UnR X (unaryOp .USub) (rU fun i=>.int (-i)):=unI fun _ _ _ _ _ q=>neg_int q
end
def Ka:V->V->Bool
 | .non,.non=>true | .non,.int _=>true | .int _,.non=>true | .non,.bl _=>true | .bl _,.non=>true | .non,.str _=>true | .str _,.non=>true
 | .int _,.int _=>true | .bl _,.bl _=>true | .str _,.str _=>true | .byt _,.byt _=>true
 | .int _,.str _=>true | .str _,.int _=>true | .bl _,.str _=>true | .str _,.bl _=>true
 | _,_=>false
def rEq:R2:=fun x y H Q=>Ka x y=true/\Q (.bl (decide (x=y))) H
def rNe:R2:=fun x y H Q=>Ka x y=true/\Q (.bl (!decide (x=y))) H
theorem tf {i j:Int}:decide (V.int i=V.int j)=(i == j):=by
 rw [Bool.eq_iff_iff]
 simp
theorem za {i j:Bool}:decide (V.bl i=V.bl j)=(i == j):=by
 rw [Bool.eq_iff_iff]
 simp
theorem td {i j:Str}:decide (V.str i=V.str j)=(i == j):=by
 rw [Bool.eq_iff_iff]
 simp
theorem yZ {i j:Array UInt8}:decide (V.byt i=V.byt j)=(i.toList == j.toList):=by
 rw [Bool.eq_iff_iff]
 cases i
 cases j
 simp
section
variable {X:Cx} {a b c:Expr} {ta tb tc:TE} {pos:Pos}
theorem fh {pins:List ↥12} {σ:St} {H:Hp} {s:Shared} {Q:VK} {k k':Bool} (I:Inv X pins σ H s) (q:Q (.bl k) H) (e:k=k'):EP X pins σ Q (.bool k') s:=by
 subst e
 exact ⟨.bl k,H,I,rfl,q⟩
theorem Ll:OpR X (compareOp .Eq) rEq:=by
 intro pins s σ H x y v u Q I rx ry h
 obtain ⟨hs,q⟩:=h
 cases x with
 | non =>
  cases rx
  cases y with
  | non=>cases ry;exact PySem.EqNone.eq_none_none ↥21
  | bl j=>cases ry;exact PySem.EqNone.eq_none_bool ↥21
  | int j=>obtain ⟨t',rfl⟩:=ry;exact PySem.EqNone.eq_none_int ↥21
  | str j=>obtain ⟨t',rfl⟩:=ry;exact PySem.EqNone.eq_none_str ↥21
  | _=>exact absurd (show false=true from hs) Bool.false_ne_true
 | bl i =>
  cases rx
  cases y with
  | non=>cases ry;exact PySem.EqNone.eq_bool_none ↥21
  | bl j=>cases ry;exact eq_bool (fh I q za)
  | str j=>obtain ⟨t',rfl⟩:=ry;exact PySem.EqMixed.eq_bool_str ↥21
  | _=>exact absurd (show false=true from hs) Bool.false_ne_true
 | int i =>
  obtain ⟨t,rfl⟩:=rx
  cases y with
  | non=>cases ry;exact PySem.EqNone.eq_int_none ↥21
  | int j=>obtain ⟨t',rfl⟩:=ry;exact eq_int (fh I q tf)
  | str j=>obtain ⟨t',rfl⟩:=ry;exact PySem.EqMixed.eq_int_str ↥21
  | _=>exact absurd (show false=true from hs) Bool.false_ne_true
 | str i =>
  obtain ⟨t,rfl⟩:=rx
  cases y with
  | non=>cases ry;exact PySem.EqNone.eq_str_none ↥21
  | bl j=>cases ry;exact PySem.EqMixed.eq_str_bool ↥21
  | int j=>obtain ⟨t',rfl⟩:=ry;exact PySem.EqMixed.eq_str_int ↥21
  | str j=>obtain ⟨t',rfl⟩:=ry;exact eq_str (fh I q td)
  | _=>exact absurd (show false=true from hs) Bool.false_ne_true
 | byt i =>
  obtain ⟨t,rfl⟩:=rx
  cases y with
  | byt j=>obtain ⟨t',rfl⟩:=ry;exact PySem.W.eq_bytes (fh I q yZ)
  | _=>exact absurd (show false=true from hs) Bool.false_ne_true
 | _=>cases y<;>exact absurd (show false=true from hs) Bool.false_ne_true
theorem Lg:OpR X (compareOp .NotEq) rNe:=by
 intro pins s σ H x y v u Q I rx ry h
 obtain ⟨hs,q⟩:=h
 cases x with
 | non =>
  cases rx
  cases y with
  | non=>cases ry;exact PySem.EqNone.ne_none_none ↥21
  | bl j=>cases ry;exact PySem.EqNone.ne_none_bool ↥21
  | int j=>obtain ⟨t',rfl⟩:=ry;exact PySem.EqNone.ne_none_int ↥21
  | str j=>obtain ⟨t',rfl⟩:=ry;exact PySem.EqNone.ne_none_str ↥21
  | _=>exact absurd (show false=true from hs) Bool.false_ne_true
 | bl i =>
  cases rx
  cases y with
  | non=>cases ry;exact PySem.EqNone.ne_bool_none ↥21
  | bl j=>cases ry;exact ne_bool (fh I q (congrArg not za))
  | str j=>obtain ⟨t',rfl⟩:=ry;exact PySem.EqMixed.ne_bool_str ↥21
  | _=>exact absurd (show false=true from hs) Bool.false_ne_true
 | int i =>
  obtain ⟨t,rfl⟩:=rx
  cases y with
  | non=>cases ry;exact PySem.EqNone.ne_int_none ↥21
  | int j=>obtain ⟨t',rfl⟩:=ry;exact ne_int (fh I q (congrArg not tf))
  | str j=>obtain ⟨t',rfl⟩:=ry;exact PySem.EqMixed.ne_int_str ↥21
  | _=>exact absurd (show false=true from hs) Bool.false_ne_true
 | str i =>
  obtain ⟨t,rfl⟩:=rx
  cases y with
  | non=>cases ry;exact PySem.EqNone.ne_str_none ↥21
  | bl j=>cases ry;exact PySem.EqMixed.ne_str_bool ↥21
  | int j=>obtain ⟨t',rfl⟩:=ry;exact PySem.EqMixed.ne_str_int ↥21
  | str j=>obtain ⟨t',rfl⟩:=ry;exact ne_str (fh I q (congrArg not td))
  | _=>exact absurd (show false=true from hs) Bool.false_ne_true
 | byt i =>
  obtain ⟨t,rfl⟩:=rx
  cases y with
  | byt j=>obtain ⟨t',rfl⟩:=ry;exact PySem.W.ne_bytes (fh I q (congrArg not yZ))
  | _=>exact absurd (show false=true from hs) Bool.false_ne_true
 | _=>cases y<;>exact absurd (show false=true from hs) Bool.false_ne_true
theorem Lh:OpR X (compareOp .Lt) (rI0 fun i j=>.bl (decide (i<j))):=Lm fun _ _ _ _ _ _ _ q=>lt_int q
theorem Li:OpR X (compareOp .Gt) (rI0 fun i j=>.bl (decide (j<i))):=Lm fun _ _ _ _ _ _ _ q=>gt_int q
theorem Lj:OpR X (compareOp .GtE) (rI0 fun i j=>.bl (decide (j<=i))):=Lm fun _ _ _ _ _ _ _ q=>ge_int q
theorem xP:OpR X (compareOp .In) (fun x y H Q=>∃ i j,x=.str i/\y=.str j/\Q (.bl (!(Builtin.Str.occurrences j i 0 j.length 1).isEmpty)) H):=by
 intro pins s σ H x y v u Q I rx ry h
 obtain ⟨i,j,rfl,rfl,q⟩:=h
 obtain ⟨t,rfl⟩:=rx
 obtain ⟨t',rfl⟩:=ry
 exact in_str (fh I q rfl)
theorem ID:OpR X (compareOp .Is) (fun x y H Q=>y=.non/\Q (.bl (decide (x=.non))) H):=by
 intro pins s σ H x y v u Q I rx ry h
 obtain ⟨rfl,q⟩:=h
 cases ry
 refine is_none_gen (fh I q ?_)
 cases x<;>first
  | (cases rx;rfl)
  | (obtain ⟨t,rfl⟩:=rx;rfl)
def isObj:HO->Bool
 | .lst _=>true
 | .ins _ _ _=>true
 | _=>false
theorem ql {pins:List ↥12} {s:Shared} {σ:St} {H:Hp} {a:Addr} {o:HO} (I:Inv X pins σ H s) (h:H a=some o) (p:isObj o=true):∃ ob,s.heap.get? a=some ob/\ob.cls ≠ .type "tuple":=by
 cases o with
 | lst xs =>
  obtain ⟨_,its,n,_,e⟩:xs.length<=sizeLine/\∃ (its:List Value) (n:Nat),Vals xs its/\s.heap.get? a=some { cls:=.type "list",data:=.seq its.toArray n }:=I.hok a _ h
  exact ⟨_,e,(by show Value.type "list" ≠ .type "tuple";decide +kernel)⟩
 | ins C dx fs =>
  have x:=I.hok a _ h
  obtain ⟨_,_,_,e,_⟩:=x
  exact ⟨_,e,(by show Value.ref C ≠ .type "tuple";exact fun z=>by cases z)⟩
 | _=>exact absurd (show false=true from p) Bool.false_ne_true
theorem iZ (b:Expr) {op:CmpOp} (h:op ≠ .In:=by decide) (h2:op ≠ .NotIn:=by decide):behindInMarks op b=false:=by
 have e1:(op == CmpOp.In)=false:=by cases op<;>first | rfl | exact absurd rfl h
 have e2:(op == CmpOp.NotIn)=false:=by cases op<;>first | rfl | exact absurd rfl h2
 cases b<;>simp [behindInMarks,e1,e2]
theorem EF {op:CmpOp} {r:R2} (ho:OpR X (compareOp op) r) (ha:PE X a ta) (hb:PE X b tb) (hm:behindInMarks op b=false):PE X (.Compare a [op] [b] pos) (tOp r ta tb):=by
 intro pins s σ H Q I h
 exact wpAny_Compare1 (LU ha hb I h fun v u s2 x y H2 I2 rx ry q=>ho pins s2 σ H2 x y v u Q I2 rx ry q) hm
def KH (t:TE):TT:=fun σ H Q=>t σ H fun x H'=>∃ k,x=.bl k/\Q k H'
theorem xC {op:CmpOp} {r:R2} (ho:OpR X (compareOp op) r) (ha:PE X a ta) (hb:PE X b tb) (hm:behindInMarks op b=false):PT X (.Compare a [op] [b] pos) (KH (tOp r ta tb)):=by
 intro pins s σ H Q I h
 refine wpAny_isTrue_Compare1 (thn (ha pins s σ H _ I h) fun v s1 ⟨x,H1,I1,r1,q1⟩=>thn (hb pins s1 σ H1 _ I1 q1) fun u s2 ⟨y,H2,I2,r2,q2⟩ =>
  thn (ho pins s2 σ H2 x y v u _ I2 r1 r2 q2) fun c s3 ⟨z,H3,I3,r3,k,e,q3⟩ => ?_) hm
 subst e
 cases r3
 exact wpAny_truthy_bool ⟨H3,I3,q3⟩
theorem qp:(sizeLine:Nat)<2^63:=by rw [sizeLine_eq];decide
theorem vC:OpR X (binaryOp .Add) (fun x y H Q=>∃ i j,x=.str i/\y=.str j/\i.length+j.length<=sizeLine/\Q (.str (i++j)) H):=by
 intro pins s σ H x y v u Q I rx ry h
 obtain ⟨i,j,rfl,rfl,hz,q⟩:=h
 obtain ⟨t,rfl⟩:=rx
 obtain ⟨t',rfl⟩:=ry
 exact add_str (fun t' tk=>⟨.str (i++j),H,I.tok _,⟨_,rfl⟩,q⟩) hz
theorem vals1 {x:V} {us:List Value} (r:Vals [x] us):∃ u,us=[u]/\RelV x u:=by
 cases r with
 | cons r1 r2=>cases r2;exact ⟨_,rfl,r1⟩
theorem vals2 {x y:V} {us:List Value} (r:Vals [x,y] us):∃ u w',us=[u,w']/\RelV x u/\RelV y w':=by
 cases r with
 | cons r1 r2 =>
  cases r2 with
  | cons r3 r4=>cases r4;exact ⟨_,_,rfl,r1,r3⟩
theorem BX:iJ X (.builtin "abs") (fun xs H Q=>∃ i,xs=[.int i]/\Q (.int (if i<0 then -i else i)) H):=by
 intro pins s σ H xs us Q I r h
 obtain ⟨i,rfl,q⟩:=h
 obtain ⟨u,rfl,t,rfl⟩:=vals1 r
 exact call_abs_int fun u tk=>⟨.int (if i<0 then -i else i),H,I.tok _,⟨_,rfl⟩,q⟩
theorem zg (hc:X.calm=true):iJ X (.builtin "max") (fun xs H Q=>∃ i j,xs=[.int i,.int j]/\Q (.int (if j>i then j else i)) H):=by
 intro pins s σ H xs us Q I r h
 obtain ⟨i,j,rfl,q⟩:=h
 obtain ⟨u,w',rfl,⟨t,rfl⟩,⟨t',rfl⟩⟩:=vals2 r
 refine max_two_ints (I.ok.hd hc) fun h' tk k=>⟨_,H,I.kept k,?_,q⟩
 by_cases hj:j>i
 ·rw [if_pos hj,if_pos hj];exact ⟨_,rfl⟩
 ·rw [if_neg hj,if_neg hj];exact ⟨_,rfl⟩
theorem ze (hc:X.calm=true):iJ X (.builtin "min") (fun xs H Q=>∃ i j,xs=[.int i,.int j]/\Q (.int (if j<i then j else i)) H):=by
 intro pins s σ H xs us Q I r h
 obtain ⟨i,j,rfl,q⟩:=h
 obtain ⟨u,w',rfl,⟨t,rfl⟩,⟨t',rfl⟩⟩:=vals2 r
 refine min_two_ints (I.ok.hd hc) fun h' tk k=>⟨_,H,I.kept k,?_,q⟩
 by_cases hj:j<i
 ·rw [if_pos hj,if_pos hj];exact ⟨_,rfl⟩
 ·rw [if_neg hj,if_neg hj];exact ⟨_,rfl⟩
end
end L2
namespace L2
open PySem PySem.Spec PyProof.Rows
structure ObjM (h:Heap) (x dx C:Addr) (mA:Str->Option Value):Prop where
 obj:h.get? x=some (PySem.W.instObj C dx)
 ns:h.Ns1 dx mA
 ne:dx≠x
theorem yC {h:Heap} {dx:Addr} {mA:Str->Option Value} (n:h.Ns1 dx mA):∃ od,h.get? dx=some od/\∀ name,PySem.W.lookIn name od=some (mA name):=by
 obtain ⟨o,es,ep,ho,hd,hk,_,hm⟩:=n
 refine ⟨o,ho,fun name => ?_⟩
 have e:=hm name
 unfold nsFind findBy at e
 rw [<- Array.find?_toList] at e
 unfold PySem.W.lookIn
 rw [hd]
 dsimp only
 split
 ·rename_i y q
  rw [q] at e
  exact congrArg some e
 ·rename_i q
  rw [q] at e
  have a:es.toList.any (·.refKey)=false:=by
   rw [List.any_eq_false]
   intro y hy
   obtain ⟨z,t,hkey⟩:=hk y (Array.mem_toList_iff.mp hy)
   simp [DictEntry.refKey,hkey]
  have a':¬ es.toList.any (·.refKey)=true:=by rw [a];exact Bool.false_ne_true
  rw [if_neg a']
  exact congrArg some e
theorem ObjM.look {h:Heap} {x dx C:Addr} {mA:Str->Option Value} (I:ObjM h x dx C mA):∃ od,PySem.W.InstAt h x (PySem.W.instObj C dx) C (some od)/\∀ name,PySem.W.lookIn name od=some (mA name) :=
 let ⟨od,ho,hl⟩:=yC I.ns
 ⟨od,⟨I.obj,rfl,rfl,ho⟩,hl⟩
section
variable {prog:Program} {w:World} {A:Around} {E:Value->Shared->Prop} {s:Shared} {K:PySem.W.Frag} {x dx C f:Addr} {mA:Str->Option Value} {name:Str} {v:Value}
theorem get_map {expr:Bool} {Q:Value->Shared->Prop} (X:K.In s.heap) (I:ObjM s.heap x dx C mA) (hg:PySem.W.plainGet K C name=true) (hh:PySem.W.hasDictIn K C=true)
  (ha:PySem.W.findIn K (.ref C) name=some none) (hv:mA name=some v) (hv':PySem.W.handedIn v=true) (h:Q v { s with toks:=s.toks+1 }) :
  wpAny ↥22 A (getAttr (.ref x) name expr) Q E s:=by
 obtain ⟨od,J,hl⟩:=I.look
 exact PySem.W.get_value X J (PySem.W.plainGet_of hg).1 (PySem.W.findObj_own hh ha rfl (by rw [hl,hv])) hv' h
theorem BG {pl:Sem Bool} {Q:Value×List Value->Shared->Prop} (X:K.In s.heap) (I:ObjM s.heap x dx C mA) (hg:PySem.W.plainGet K C name=true)
  (hf:PySem.W.findIn K (.ref C) name=some (some (.ref f))) (ht:PySem.W.isFn K (.ref f)=true) (hv:mA name=none) (h:Q (.ref f,[.ref x]) s) :
  wpAny ↥22 A (getMethod (.ref x) name pl) Q E s:=by
 obtain ⟨od,J,hl⟩:=I.look
 exact PySem.W.method_fn X J (PySem.W.plainGet_of hg).1 (PySem.W.plainGet_of hg).2 hf (beq_iff_eq.mp ht) (by show (PySem.W.lookIn name od).map (·.isSome)=some false;rw [hl,hv];rfl) h
theorem Ef {ns:List Str} {Q:Unit->Shared->Prop} (X:K.In s.heap) (I:ObjM s.heap x dx C mA)
  (hs:PySem.W.findIn K (.ref C) "__setattr__"=some (some (.builtin "object.__setattr__"))) (hp:PySem.W.plainOver K C=true) (ht:PySem.W.takerIn K C name=some none) (hh:PySem.W.hasDictIn K C=true)
  (hw:PySem.Within mA ns) (hsz:ns.length<=sizeLine)
  (h:∀ h',ObjM h' x dx C (fun y=>if y=name then some v else mA y)->Heap.SameBut dx s.heap h'->Q () { s with heap:=h',toks:=s.toks+2 }) :
  wpAny ↥22 A (setAttr (.ref x) name v) Q E s:=by
 obtain ⟨od,J,hl⟩:=I.look
 refine PySem.W.set_plain X J hs (PySem.W.osa_open (s:={ s with toks:=s.toks+1 }) (r:=none) X J hp ht fun b => ?_)
 obtain ⟨cd,hc,hd'⟩:=PySem.W.any_some hh
 have hx:s.heap.get? x=some ⟨.ref C,some dx,.plain,#[]⟩:=I.obj
 refine wpAny_bind (wpAny_pure (wpAny_bind (wpAny_bind (wpAny_loadPart hx (wpAny_bind (PySem.W.Looks.here (s:={ s with toks:=s.toks+1 }) (PySem.W.looks_clsIn X hc) ?_))))))
 rw [hd']
 refine wpAny_pure (a:=some dx) (wpAny_bind (wpAny_pure (wpAny_bind ?_)))
 refine wpAny_nsSet1 (s:={ s with toks:=s.toks+1 }) I.ns fun h' hn2 hs2 => ?_
 obtain ⟨oD,esD,epD,hoD,hdD,hcD⟩:=hn2.count (PySem.Within.cons name v hw)
 refine wpAny_bind (wpAny_lookBehind hoD (by rw [hdD];exact pastItsLine_dict (Nat.le_trans hcD (by rw [List.length_cons];omega))) ?_)
 exact wpAny_pure (h _ ⟨(hs2.2 _ (Ne.symm I.ne)).trans I.obj,hn2,I.ne⟩ hs2)
theorem Bx {R:Result->Shared->Prop} {vs:List Value} {kw:List (Str×Value)} (X:K.In s.heap) (hm:PySem.W.makesIn K C=true)
  (hi:PySem.W.findIn K (.ref C) "__init__"=some (some (.ref f))) (hf:PySem.W.typeIn K (.ref f)=some (.type "function"))
  (h:codeAny ↥22 (A.under (.builtin "type.__call__" ⟨.ref C::vs,kw⟩)) (.call (.ref f) ⟨.ref ↥34::vs,kw⟩) (PySem.W.InitBack ↥34 R)
   { s with heap:=(s.heap.push PySem.W.emptyDict).push (PySem.W.instObj C s.heap.objs.size) }) :
  codeAny ↥22 A (.call (.ref C) ⟨vs,kw⟩) R s:=by
 obtain ⟨hh,g,d,t,os⟩:=s
 exact PySem.W.make_core (PySem.W.makes_of X hm) (PySem.W.looks_findIn X hi) (fun self=>PySem.W.bind_fn X self hf) (.inl rfl) h
end
def rE (f:Str) (v:V):List (Str×V)->List (Str×V)
 | []=>[(f,v)]
 | (g,x)::r=>if g=f then (g,v)::r else (g,x)::rE f v r
theorem lQ (f g:Str) (v:V):∀ fs:List (Str×V),(rE f v fs).lookup g=if g=f then some v else fs.lookup g
 | []=>by
  show List.lookup g [(f,v)]=_
  by_cases h:g=f
  ·have hb:(g == f)=true:=beq_iff_eq.mpr h
   simp only [List.lookup,hb,if_pos h]
  ·have hb:(g == f)=false:=beq_eq_false_iff_ne.mpr h
   simp only [List.lookup,hb,if_neg h]
 | (k,x)::r=>by
  have ih:=lQ f g v r
  rw [show rE f v ((k,x)::r)=(if k=f then (k,v)::r else (k,x)::rE f v r) from rfl]
  by_cases hk:k=f
  ·rw [if_pos hk]
   by_cases h:g=k
   ·have hb:(g == k)=true:=beq_iff_eq.mpr h
    simp only [List.lookup,hb,if_pos (h.trans hk)]
   ·have hb:(g == k)=false:=beq_eq_false_iff_ne.mpr h
    simp only [List.lookup,hb,if_neg (fun e:g=f=>h (e.trans hk.symm))]
  ·rw [if_neg hk]
   by_cases h:g=k
   ·have hb:(g == k)=true:=beq_iff_eq.mpr h
    simp only [List.lookup,hb,if_neg (fun e:g=f=>hk (h.symm.trans e))]
   ·have hb:(g == k)=false:=beq_eq_false_iff_ne.mpr h
    simp only [List.lookup,hb]
    exact ih
theorem lT (f:Str) (v:V):∀ fs:List (Str×V),f∈(rE f v fs).map (·.1)/\∀ g,g∈fs.map (·.1)->g∈(rE f v fs).map (·.1)
 | []=>⟨by simp [rE],fun g h=>by simp at h⟩
 | (k,x)::r=>by
  obtain ⟨i1,i2⟩:=lT f v r
  rw [show rE f v ((k,x)::r)=(if k=f then (k,v)::r else (k,x)::rE f v r) from rfl]
  by_cases hk:k=f
  ·rw [if_pos hk]
   subst hk
   exact ⟨by simp,fun g h=>by simpa using h⟩
  ·rw [if_neg hk]
   refine ⟨?_,fun g h => ?_⟩
   ·rw [List.map_cons]
    exact List.mem_cons_of_mem _ i1
   ·rw [List.map_cons] at h ⊢
    rcases List.mem_cons.mp h with e | e
    ·exact List.mem_cons.mpr (.inl e)
    ·exact List.mem_cons_of_mem _ (i2 g e)
theorem lR (f:Str) (v:V):∀ fs:List (Str×V),(rE f v fs).length<=fs.length+1
 | []=>by simp [rE]
 | (k,x)::r=>by
  have ih:=lR f v r
  rw [show rE f v ((k,x)::r)=(if k=f then (k,v)::r else (k,x)::rE f v r) from rfl]
  by_cases hk:k=f
  ·rw [if_pos hk,List.length_cons,List.length_cons];omega
  ·rw [if_neg hk,List.length_cons,List.length_cons];omega
theorem zT.some_of {v:V} {o:Option Value} (r:zT (some v) o):∃ u,o=some u/\RelV v u:=by
 cases o with
 | none=>exact (show False from r).elim
 | some u=>exact ⟨u,rfl,r⟩
theorem zT.none_of {o:Option Value} (r:zT none o):o=none:=by
 cases o with
 | none=>rfl
 | some u=>exact (show False from r).elim
theorem yM {v:V} {u:Value} (r:RelV v u):PySem.W.handedIn u=true:=by
 cases v with
 | non=>cases (show u=Value.none from r);rfl
 | bl b=>cases (show u=Value.bool b from r);rfl
 | int i=>obtain ⟨t,e⟩:=(show ∃ t,u=Value.int i t from r);cases e;rfl
 | str x=>obtain ⟨t,e⟩:=(show ∃ t,u=Value.str x t from r);cases e;rfl
 | byt b=>obtain ⟨t,e⟩:=(show ∃ t,u=Value.bytes b t from r);cases e;rfl
 | flt b=>obtain ⟨t,e⟩:=(show ∃ t,u=Value.float b t from r);cases e;rfl
 | ref a=>cases (show u=Value.ref a from r);rfl
 | ty n=>cases (show u=Value.type n from r);rfl
section
variable {P:Program} {w:World} {H H':Hp} {h h':Heap} {a C dx:Addr} {fs fs':List (Str×V)}
theorem sW (hok:HOk P w H h) (e:H a=some (.ins C dx fs)):∃ mA,ObjM h a dx C mA/\(∀ f,zT (fs.lookup f) (mA f))/\PySem.Within mA (fs.map (·.1))/\fs.length<=1000/\H dx=some (.own a):=by
 obtain ⟨d,z,ne,ob,mA,n,r,q⟩:=(show iI P w H h a (.ins C dx fs) from hok a _ e)
 exact ⟨mA,⟨ob,n,ne⟩,r,q,z,d⟩
end
structure Cls (K:PySem.W.Frag) (C:Addr):Prop where
 pg:PySem.W.plainGet K C Str.empty=true
 hd:PySem.W.hasDictIn K C=true
 po:PySem.W.plainOver K C=true
 sa:PySem.W.findIn K (.ref C) "__setattr__"=some (some (.builtin "object.__setattr__"))
theorem Cls.get {K:PySem.W.Frag} {C:Addr} (c:Cls K C) (f:Str):PySem.W.plainGet K C f=true:=c.pg
def js (K:PySem.W.Frag) (C:Addr) (f:Str):Prop:=PySem.W.findIn K (.ref C) f=some none
theorem js.taker {K:PySem.W.Frag} {C:Addr} {f:Str} (n:js K C f):PySem.W.takerIn K C f=some none:=by
 unfold PySem.W.takerIn
 rw [show PySem.W.findIn K (.ref C) f=some none from n]
 rfl
structure Con (K:PySem.W.Frag) (C:Addr) (f:Str) (v:V) (u:Value):Prop where
 at_:PySem.W.findIn K (.ref C) f=some (some u)
 rel:RelV v u
 get:PySem.W.specialIn K u "__get__"=some none
 cp:PySem.W.copiedNames.contains f=false
structure Meth (K:PySem.W.Frag) (C:Addr) (m:Str) (f:Addr):Prop where
 at_:PySem.W.findIn K (.ref C) m=some (some (.ref f))
 fn:PySem.W.isFn K (.ref f)=true
 kp:PySem.W.keepIn K (.ref f)=true
section
variable {X:Cx} {pins:List ↥12} {σ:St} {H:Hp} {s:Shared} {a C dx:Addr} {fs:List (Str×V)} {f:Str} {v:V} {A:Around} {E:Value->Shared->Prop}
theorem vT {b:Bool} {Q:Value->Shared->Prop} (I:Inv X pins σ H s) (e:H a=some (.ins C dx fs)) (c:Cls X.K C) (n:js X.K C f) (l:fs.lookup f=some v)
  (h:∀ u s',Inv X pins σ H s'->RelV v u->Q u s'):wpAny ↥7 A (getAttr (.ref a) f b) Q E s:=by
 obtain ⟨mA,O,r,_,_,_⟩:=sW I.hok e
 obtain ⟨u,hu,ru⟩:=zT.some_of (v:=v) (o:=mA f) (by rw [<- l];exact r f)
 exact get_map I.kIn O (c.get f) c.hd n hu (yM ru) (h u _ (I.tok _) ru)
theorem vR {m:Str} {g:Addr} {pl:Sem Bool} {Q:Value×List Value->Shared->Prop} (I:Inv X pins σ H s) (e:H a=some (.ins C dx fs)) (c:Cls X.K C) (k:Meth X.K C m g) (l:fs.lookup m=none)
  (h:Q (.ref g,[.ref a]) s):wpAny ↥7 A (getMethod (.ref a) m pl) Q E s:=by
 obtain ⟨mA,O,r,_,_,_⟩:=sW I.hok e
 have hn:mA m=none:=zT.none_of (by rw [<- l];exact r m)
 exact BG I.kIn O (c.get m) k.at_ k.fn hn h
theorem vk {y:V} {u:Value} {Q:Unit->Shared->Prop} (I:Inv X pins σ H s) (e:H a=some (.ins C dx fs)) (c:Cls X.K C) (n:js X.K C f) (hl:fs.length<1000) (ry:RelV y u)
  (h:∀ s',Inv X pins σ (upd H a (.ins C dx (rE f y fs))) s'->Q () s'):wpAny ↥7 A (setAttr (.ref a) f u) Q E s:=by
 obtain ⟨mA,O,r,wi,_,ho⟩:=sW I.hok e
 have hz:(fs.map (·.1)).length<=sizeLine:=by rw [List.length_map,sizeLine_eq];omega
 refine Ef I.kIn O c.sa c.po n.taker c.hd wi hz fun h' O' sb=>h _ ?_
 have hd:∃ o,h'.get? dx=some o:=let ⟨o,_,_,e',_⟩:=O'.ns;⟨o,e'⟩
 refine I.write (x:=a) (e:=dx) (by rw [e];exact True.intro) (.inr ho) (fun b q hb z=>(sb.2 b hb).trans z) hd ?_
 refine ⟨by rw [bB O.ne];exact ho,?_,O.ne,O'.obj,_,O'.ns,fun g => ?_,fun g hg => ?_⟩
 ·have:=lR f y fs;omega
 ·show zT ((rE f y fs).lookup g) (if g=f then some u else mA g)
  rw [lQ]
  by_cases q:g=f
  ·rw [if_pos q,if_pos q];exact ry
  ·rw [if_neg q,if_neg q];exact r g
 ·by_cases q:g=f
  ·rw [q];exact (lT f y fs).1
  ·refine (lT f y fs).2 g (wi g fun z=>hg ?_)
   show (if g=f then some u else mA g)=none
   rw [if_neg q];exact z
theorem Inv.made (I:Inv X pins σ H s):Inv X pins σ (upd (upd H s.heap.objs.size (.own ↥34)) ↥34 (.ins C s.heap.objs.size []))
  { s with heap:=(s.heap.push PySem.W.emptyDict).push (PySem.W.instObj C s.heap.objs.size) }:=by
 have e1:(s.heap.push PySem.W.emptyDict).get? s.heap.objs.size=some PySem.W.emptyDict:=Heap.get?_push_size s.heap rfl
 have e2:((s.heap.push PySem.W.emptyDict).push (PySem.W.instObj C s.heap.objs.size)).get? ↥34=some (PySem.W.instObj C s.heap.objs.size):=by
  have:=Heap.get?_push_size (s.heap.push PySem.W.emptyDict) (o:=PySem.W.instObj C s.heap.objs.size) rfl
  rwa [Heap.size_push] at this
 have e3:(s.heap.push PySem.W.emptyDict).Ns s.heap.objs.size (fun _=>none):=⟨PySem.W.emptyDict,#[],_,e1,rfl,(fun e he=>absurd he (by simp)),fun _=>rfl⟩
 have I1:=I.laid (a:=s.heap.objs.size) (o:=.own ↥34) (h':=s.heap.push PySem.W.emptyDict) (t':=s.toks) (fun b u q=>Heap.get?_push_of_some _ q) ↥37 ⟨_,e1⟩
 refine I1.laid (a:=s.heap.objs.size+1) (o:=.ins C s.heap.objs.size []) (t':=s.toks) (fun b u q=>Heap.get?_push_of_some _ q) (Nat.le_of_eq (Heap.size_push _ _)) ?_
 have ne:s.heap.objs.size≠s.heap.objs.size+1:=Nat.ne_of_lt (Nat.lt_succ_self _)
 refine ⟨by rw [bB ne,bO],Nat.zero_le _,ne,e2,fun _=>none,(Heap.Ns1.of_empty e3).at fun o q=>Heap.get?_push_of_some _ q,fun _=>True.intro,fun y hy=>absurd rfl hy⟩
theorem Gj {prog:Program} {w:World} {env:Env} {e:Expr} {f:Str} {pos:Pos} {s:Shared} {Q:Value->Shared->Prop} (hb:attributeBase e f env (eval e env)=eval e env)
  (h:wpAny ↥22 A (eval e env) (fun o s₁=>wpAny ↥22 A (getAttr o f true) Q E s₁) E s):wpAny ↥22 A (eval (.Attribute e f pos) env) Q E s :=
 Attribute_any_ h (by rw [arm_eval_Attribute,hb])
end
def Pq (K:PySem.W.Frag) (ta:TE) (f:Str):TE:=fun σ H Q=>ta σ H fun x H1=>∃ a C dx fs v,x=.ref a/\H1 a=some (.ins C dx fs)/\Cls K C/\js K C f/\fs.lookup f=some v/\Q v H1
def Px (K:PySem.W.Frag) (ta tv:TE) (f:Str):TS:=fun D σ H=>tv σ H fun y H1=>ta σ H1 fun x H2=>∃ a C dx fs,x=.ref a/\H2 a=some (.ins C dx fs)/\Cls K C/\js K C f/\fs.length<1000 /\
 D.nx σ (upd H2 a (.ins C dx (rE f y fs)))
section
variable {X:Cx} {o e value:Expr} {f:Str} {pos pos' tpos:Pos} {ta tv:TE}
theorem Ih (he:PE X e ta) (hb:attributeBase e f X.env (eval e X.env)=eval e X.env):PE X (.Attribute e f pos) (Pq X.K ta f):=by
 intro pins s σ H Q I h
 refine Gj hb (thn (he pins s σ H _ I h) fun u s1 ⟨x,H1,I1,rx,a,C,dx,fs,v,ex,ea,c,n,l,q⟩ => ?_)
 subst ex
 obtain rfl:u=Value.ref a:=rx
 exact vT I1 ea c n l fun u' s2 I2 ru=>⟨v,H1,I2,ru,q⟩
theorem HY (ha:PE X o ta) (hv:PE X value tv) (hs:swapsWith value (some (.Attribute o f pos')) pos.line X.env=pure false):PS X (.Assign [.Attribute o f pos'] value pos) (Px X.K ta tv f):=by
 intro pins s σ H D I h
 refine plainObj_wpAny_Assign_Attribute (thn (hv pins s σ H _ I h) fun u s1 ⟨y,H1,I1,ry,q⟩=>thn (ha pins s1 σ H1 _ I1 q) fun ov s2 ⟨x,H2,I2,rx,a,C,dx,fs,ex,ea,c,n,l,q2⟩ => ?_) hs
 subst ex
 obtain rfl:ov=Value.ref a:=rx
 exact vk I2 ea c n l ry fun s3 I3=>⟨σ,_,I3,q2⟩
end
section
variable {X:Cx} {pins:List ↥12} {σ:St} {H:Hp} {s:Shared} {A:Around} {E:Value->Shared->Prop} {Q:Value->Shared->Prop} {c:Value} {b:Bool}
inductive TyOf (K:PySem.W.Frag) (H:Hp):V->Value->Prop where
 | non:TyOf K H .non (.type "NoneType")
 | bl (x:Bool):TyOf K H (.bl x) (.type "bool")
 | int (i:Int):TyOf K H (.int i) (.type "int")
 | str (x:Str):TyOf K H (.str x) (.type "str")
 | flt (x:UInt64):TyOf K H (.flt x) (.type "float")
 | lst {a:Addr} {xs:List V} (e:H a=some (.lst xs)):TyOf K H (.ref a) (.type "list")
 | frz {a:Addr} {o:Obj} {xs:List V} (e:H a=some (.frz o (.lst xs))):TyOf K H (.ref a) (.type "list")
 | tup {a:Addr} {xs:List V} (e:H a=some (.tup xs)):TyOf K H (.ref a) ↥6
 | dK {a:Addr} {kvs:List (Key×V)} (e:H a=some (.dK kvs)):TyOf K H (.ref a) (.type "dict")
 | dT {a:Addr} {kvs:List (List Key×V)} (e:H a=some (.dT kvs)):TyOf K H (.ref a) (.type "dict")
 | ins {a C dx:Addr} {fs:List (Str×V)} (e:H a=some (.ins C dx fs)) (cl:Cls K C) (ha:PySem.W.findIn K (.ref C) "__class__"=some (some (.builtin "object.__class__")))
   (hn:PySem.W.specialIn K (.builtin "object.__class__") "__get__"=some (some (.builtin "getset_descriptor.__get__"))) (htk:PySem.W.takesIn K (.builtin "object.__class__")=some true)
   (hm:PySem.W.mroIn K C (.type "object")=some true):TyOf K H (.ref a) (.ref C)
end
end L2
namespace L2
open PySem PySem.Spec PyProof.Rows
structure Room (k:Nat) (A:Around):Prop where
 hd:A.handled=none
 dp:A.depth+3*k+5<recursionLimit
 un:A.units+16*k+200<cLine
theorem Room.mono {j k:Nat} {A:Around} (r:Room k A) (h:j<=k):Room j A:=⟨r.hd,by have:=r.dp;omega,by have:=r.un;omega⟩
theorem Room.deeper {k:Nat} {A:Around} (r:Room (k+1) A) (env:Env):Room k (A.deeper env) :=
 ⟨r.hd,by have:=r.dp;show A.depth+1+3*k+5<_;omega,by have:=r.un;show A.units+3+16*k+200<_;omega⟩
theorem vL {A:Around} {C:Addr} {us:List Value} {kw:List (Str×Value)}:(A.under (.builtin "type.__call__" ⟨.ref C::us,kw⟩)).depth=A.depth+1:=by
 first | rfl | simp [Around.under,Code.weight,Code.isCreation,Code.isGuard,Code.isCaller,Code.frames,Code.isFrame,guardIds]
theorem vK {A:Around} {C:Addr} {us:List Value} {kw:List (Str×Value)}:(A.under (.builtin "type.__call__" ⟨.ref C::us,kw⟩)).units=A.units+1:=by
 first | rfl | simp [Around.under,Code.cUnits,Code.frames,Code.isFrame]
theorem Room.make {k:Nat} {A:Around} (r:Room (k+1) A) (C:Addr) (us:List Value) (kw:List (Str×Value)):Room k (A.under (.builtin "type.__call__" ⟨.ref C::us,kw⟩)) :=
 ⟨r.hd,by have:=r.dp;rw [vL];omega,by have:=r.un;rw [vK];omega⟩
theorem Room.depth {k:Nat} {A:Around} (r:Room k A):A.depth<recursionLimit:=by have:=r.dp;omega
theorem Room.units {k:Nat} {A:Around} (r:Room k A):A.units+64<cLine:=by have:=r.un;omega
def Pm:TA:=fun _ H Q=>Q [] H
def KO (ta:TE) (tr:TA):TA:=fun σ H Q=>ta σ H fun x H1=>tr σ H1 fun xs H2=>Q (x::xs) H2
section
variable {X:Cx} {e:Expr} {es:List Expr} {te:TE} {t:TA} {pos:Pos}
theorem uh:PA X [] Pm:=fun _ _ _ _ H Q I h=>Calls.spliced_nil ⟨[],H,I,.nil,h⟩
theorem oH (ha:PE X e te) (hr:PA X es t) (hs:starEach (e::es) X.env=↥38::starEach es X.env:=by rfl):PA X (e::es) (KO te t):=by
 intro pos pins s σ H Q I h
 rw [hs]
 show wpAny _ _ (spliced (↥38::backTo pos (starEach es X.env))) _ _ s
 refine Calls.spliced_cons (thn (ha pins s σ H _ I h) fun u s1 ⟨x,H1,I1,r1,q1⟩ => ?_)
 exact thn (hr pos pins s1 σ H1 _ I1 q1) fun us s2 ⟨xs,H2,I2,r2,q2⟩=>⟨x::xs,H2,I2,.cons r1 r2,q2⟩
def Pf (t:TA):TE:=fun σ H Q=>t σ H fun xs H1=>xs.length<=sizeLine/\∀ p,H1 p=none->Q (.ref p) (upd H1 p (.tup xs))
def Pn (t:TA):TE:=fun σ H Q=>t σ H fun xs H1=>xs.length<=sizeLine/\∀ p,H1 p=none->Q (.ref p) (upd H1 p (.lst xs))
theorem H0 {x1} (h:PA X es t):PE X (.Tuple es x1 pos) (Pf t):=by
 intro pins s σ H Q I hq
 refine wpAny_Tuple_spliced (thn (h pos pins s σ H _ I hq) fun us s1 ⟨xs,H1,I1,r,z,q⟩=>⟨by rw [<- r.length];exact z,?_⟩)
 have hf:H1 s1.heap.objs.size=none:=I1.hok.fresh ↥37
 refine ⟨.ref s1.heap.objs.size,upd H1 s1.heap.objs.size (.tup xs),I1.laid (t':=s1.toks) (fun b u e=>Heap.get?_push_of_some _ e) ↥37 ?_,rfl,q _ hf⟩
 exact ⟨z,us,r,⟨_,Heap.get?_push_size _ rfl,rfl,_,rfl⟩⟩
theorem Ie (h:PA X es t):PE X (.List es pos) (Pn t):=by
 intro pins s σ H Q I hq
 refine wpAny_List_spliced (thn (h pos pins s σ H _ I hq) fun us s1 ⟨xs,H1,I1,r,z,q⟩=>⟨by rw [<- r.length];exact z,?_⟩)
 have hf:H1 s1.heap.objs.size=none:=I1.hok.fresh ↥37
 refine ⟨.ref s1.heap.objs.size,upd H1 s1.heap.objs.size (.lst xs),I1.laid (t':=s1.toks) (fun b u e=>Heap.get?_push_of_some _ e) ↥37 ?_,rfl,q _ hf⟩
 exact ⟨z,us,0,r,Heap.get?_push_size _ rfl⟩
end
abbrev Sp:=List V->Hp->VK->XK->Prop
abbrev CXT:=List Env->Hp->Shared->XK->Value->Shared->Prop
structure Env0 (P:Program) (w:World) (K:PySem.W.Frag) (mg:Str->Option Value) (base:Heap) (A:Around) (outer:List Env) (s:Shared) (H:Hp):Prop where
 frames:A.frames=some outer
 mod:Mod K mg base
 bs:∀ b o,base.get? b=some o->s.heap.get? b=some o/\H b=none
 bsz:base.objs.size<=s.heap.objs.size
 funs:s.heap.FunFrames base outer
 frf:∀ b∈frs outer,H b=none
 hok:HOk P w H s.heap
 bare:AllBare s.gens
def CE (outer:List Env) (P:Program) (w:World) (H:Hp) (s:Shared) (Q:VK) (u:Value) (s':Shared):Prop :=
 ∃ v H',s'.os=s.os/\AllBare s'.gens/\Un (frs outer) [] H H' s.heap s'.heap/\HOk P w H' s'.heap/\RelV v u/\Q v H'
def CR (CX:CXT) (outer:List Env) (P:Program) (w:World) (H:Hp) (s:Shared) (Q:VK) (E:XK) (r:Result) (s':Shared):Prop :=
 match r with
 | .ok (.ret u)=>CE outer P w H s Q u s'
 | .ok _=>False
 | .error e=>CX outer H s E e s'
structure FnOk (P:Program) (w:World) (K:PySem.W.Frag) (mg:Str->Option Value) (base:Heap) (CX:CXT) (k:Nat) (f:Addr) (fd:FuncData) (ps:List Str) (sp:Sp):Prop where
 len:∀ vs H Q E,sp vs H Q E->vs.length=ps.length
 run:∀ (A:Around) (outer:List Env) (s:Shared) (H:Hp) (args:Args) (us:List Value) (vs:List V) (Q:VK) (E:XK),Room k A->Env0 P w K mg base A outer s H->BindsTo s fd args (ps.zip us)->Vals vs us->sp vs H Q E ->
  codeAny (model P w) A (.call (.ref f) args) (CR CX outer P w H s Q E) s
theorem Env0.make {P:Program} {w:World} {K:PySem.W.Frag} {mg:Str->Option Value} {base:Heap} {A:Around} {outer:List Env} {s:Shared} {H:Hp} (e:Env0 P w K mg base A outer s H) (C:Addr) (us:List Value) (kw:List (Str×Value)) :
  Env0 P w K mg base (A.under (.builtin "type.__call__" ⟨.ref C::us,kw⟩)) outer s H:=⟨by first | exact e.frames | (simpa [Around.under,Code.envs,Code.isFrame,pushEnvs] using e.frames),e.mod,e.bs,e.bsz,e.funs,e.frf,e.hok,e.bare⟩
section
variable {X:Cx} {pins:List ↥12} {σ:St} {H:Hp} {s s':Shared}
theorem Inv.env0 (I:Inv X pins σ H s):Env0 X.prog X.w X.K X.mg X.base X.A X.stack s H :=
 ⟨I.ok.frames,I.ok.mod,I.bs,Nat.le_trans I.ok.bsz I.sz,I.stack,I.stkFree,I.hok,I.bare⟩
theorem Inv.after {Q:VK} {u:Value} (I:Inv X pins σ H s) (h:CE X.stack X.prog X.w H s Q u s'):EP X pins σ Q u s':=by
 obtain ⟨v,H',os,bare,un,hok,r,q⟩:=h
 obtain ⟨hh,g,d,t,os'⟩:=s'
 obtain rfl:os'=s.os:=os
 exact ⟨v,H',I.call (h':=hh) (g':=g) (d':=d) (t':=t) (ch:=[]) un hok bare (fun b z=>absurd z (by simp)),r,q⟩
end
def KL (C:Addr) (sp:Sp) (dvs:List V) (E:XK) (t:TA):TE:=fun σ H Q=>t σ H fun vs H1=>∀ x dx,H1 x=none->H1 dx=none->dx≠x ->
 sp (.ref x::(vs++dvs)) (upd (upd H1 dx (.own x)) x (.ins C dx [])) (fun v H2=>v=.non/\Q (.ref x) H2) E
def Binds (K:PySem.W.Frag) (fd:FuncData) (ps:List Str) (ds:List Value):Prop :=
 ∀ (s:Shared) (us:List Value),K.In s.heap->(us++ds).length=ps.length->BindsTo s fd ⟨us,[]⟩ (ps.zip (us++ds))
theorem Binds.all {K:PySem.W.Frag} {fd:FuncData} {ps:List Str} (h:∀ us:List Value,us.length=ps.length->bindArgs fd ⟨us,[]⟩=pure (ps.zip us)):Binds K fd ps []:=fun s us _ hl=>by
 rw [List.append_nil] at hl ⊢
 exact .of_eq (h us hl)
def Passes (CX:CXT) (X:Cx) (E:XK):Prop:=∀ (pins:List ↥12) (σ:St) (H:Hp) (s:Shared) (e:Value) (s':Shared),Inv X pins σ H s->CX X.stack H s E e s'->X.xe e s'
section
variable {X:Cx} {CX:CXT} {k:Nat} {f C:Addr} {fd:FuncData} {ps:List Str} {sp:Sp} {dvs:List V} {ds:List Value} {E:XK} {x m:Str} {p pos apos:Pos} {e o:Expr} {es:List Expr} {ta:TE} {t:TA}
structure Mk (K:PySem.W.Frag) (C f:Addr):Prop where
 makes:PySem.W.makesIn K C=true
 init:PySem.W.findIn K (.ref C) "__init__"=some (some (.ref f))
 fn:PySem.W.isFn K (.ref f)=true
 kp:PySem.W.keepIn K (.ref C)=true
theorem AN {pins:List ↥12} {σ:St} {H:Hp} {s:Shared} {Q:VK} {us:List Value} {vs:List V} (M:Mk X.K C f) (F:FnOk X.prog X.w X.K X.mg X.base CX k f fd ps sp) (hr:Room (k+1) X.A) (hb:Binds X.K fd ps ds) (hd:Vals dvs ds)
  (hx:Passes CX X E) (I:Inv X pins σ H s) (r:Vals vs us)
  (h:∀ x dx,H x=none->H dx=none->dx≠x->sp (.ref x::(vs++dvs)) (upd (upd H dx (.own x)) x (.ins C dx [])) (fun v H2=>v=.non/\Q (.ref x) H2) E) :
  wpAny ↥7 X.A (call (.ref C) us) (EP X pins σ Q) X.xe s:=by
 have hq:=h ↥34 s.heap.objs.size (I.hok.fresh (Nat.le_succ _)) (I.hok.fresh ↥37) (Nat.ne_of_lt (Nat.lt_succ_self _))
 have I2:=Inv.made (C:=C) I
 have r2:Vals (V.ref ↥34::(vs++dvs)) (Value.ref ↥34::(us++ds)):=.cons rfl (r.append hd)
 have hl:(Value.ref ↥34::us++ds).length=ps.length:=by
  have e:=r2.length
  rw [F.len _ _ _ _ hq] at e
  exact e.symm
 refine wpAny_call (Bx (f:=f) I.kIn M.makes M.init (beq_iff_eq.mp M.fn) (codeAny_mono (F.run _ X.stack _ _ ⟨Value.ref ↥34::us,[]⟩ (Value.ref ↥34::(us++ds)) _ _ E (hr.make C us [])
  (I2.env0.make C us []) (hb _ (Value.ref ↥34::us) I2.kIn hl) r2 hq) fun r s' hq' => ?_))
 cases r with
 | error e=>exact hx pins σ _ _ e s' I2 hq'
 | ok fl =>
  cases fl with
  | ret u =>
   obtain ⟨v,H',I3,rv,ev,q3⟩:=I2.after hq'
   subst ev
   exact ⟨rv,⟨V.ref ↥34,H',I3,rfl,q3⟩⟩
  | next=>exact False.elim hq'
  | brk=>exact False.elim hq'
  | cont=>exact False.elim hq'
theorem EE (M:Mk X.K C f) (F:FnOk X.prog X.w X.K X.mg X.base CX k f fd ps sp) (hr:Room (k+1) X.A) (hg:Gl X x) (hm:X.mg x=some (.ref C)) (hb:Binds X.K fd ps ds) (hd:Vals dvs ds) (hx:Passes CX X E)
  (ha:PA X (e::es) t) (hdb:(x == ("__debug__":Str))=false:=by decide) (he:starEach (e::es) X.env=↥38::starEach es X.env:=by rfl) (hpl:(backTo pos (starEach es X.env)).any (·.1)=false:=by rfl) :
  PE X (.Call (.Name x p) (e::es) [] pos) (KL C sp dvs E t):=by
 intro pins s σ H Q I h
 refine wpAny_Call_Name_kw (oS I hg hm ?_ hdb)
 refine PySem.W.callWith_K (h₀:=X.base) I.ok.mod.kin M.kp (thn (ha pos pins s σ H _ I h) fun us s1 ⟨vs,H1,I1,r,q⟩=>⟨I1.kIn,?_⟩) he hpl
 exact AN M F hr hb hd hx I1 r q
end
section
variable {X:Cx} {CX:CXT} {k:Nat} {f C:Addr} {fd:FuncData} {ps ks:List Str} {sp:Sp} {E:XK} {x m:Str} {p pos apos kpos:Pos} {e o:Expr} {es:List Expr} {kws:List Keyword} {te ta:TE} {t tk:TA} {nm:Option Str}
structure KBinds (K:PySem.W.Frag) (fd:FuncData) (ps ks:List Str) (g:List Value->List Value->List Value) (gV:List V->List V->List V):Prop where
 to:∀ (s:Shared) (us ws:List Value),K.In s.heap->(g us ws).length=ps.length->BindsTo s fd ⟨us,ks.zip ws⟩ (ps.zip (g us ws))
 rel:∀ {vs:List V} {us:List Value} {zs:List V} {ws:List Value},Vals vs us->Vals zs ws->Vals (gV vs zs) (g us ws)
variable {g:List Value->List Value->List Value} {gV:List V->List V->List V}
end
structure FnScope (N P:List Str) (sc:Scope):Prop where
 kind:sc.kind=.function
 co:sc.isCoroutine=false
 gen:sc.isGenerator=false
 nd:N.Nodup
 pre:N.take P.length=P
 par:∀ x∈P,sc.names.lookup x=some .local\/sc.names.lookup x=some .cell
 nofree:∀ y∈sc.names,y.2 ≠ .free
theorem qI {kindOf:Str->Option NameKind} {x:Str}:∀ {binds:List (Str×Value)} {m:Str->Option Value},(∀ v,(x,v)∉binds)->bindL kindOf binds m x=m x
 | [],_,_=>rfl
 | (n,v)::r,m,h=>by
  unfold bindL
  rw [qI fun w hw=>h w (List.mem_cons_of_mem _ hw)]
  split
  ·have:x≠n:=by rintro rfl;exact h v List.mem_cons_self
   simp [this]
  ·rfl
theorem qK {kindOf:Str->Option NameKind} {x:Str}:∀ {binds:List (Str×Value)} {m:Str->Option Value},(∀ v,(x,v)∉binds)->bindC kindOf binds m x=m x
 | [],_,_=>rfl
 | (n,v)::r,m,h=>by
  unfold bindC
  rw [qK fun w hw=>h w (List.mem_cons_of_mem _ hw)]
  split
  ·rfl
  ·have:x≠n:=by rintro rfl;exact h v List.mem_cons_self
   simp [this]
theorem qJ {kindOf:Str->Option NameKind} {x:Str} {v:Value}:∀ {P:List Str} {vs:List Value} {i:Nat} {m:Str->Option Value},P.Nodup->P[i]? = some x->vs[i]? = some v->kindOf x=some .local ->
  bindL kindOf (P.zip vs) m x=some v
 | [],_,_,_,_,h,_,_=>by simp at h
 | _::_,[],_,_,_,_,h,_=>by simp at h
 | p::P,w::vs,0,m,nd,h1,h2,hk=>by
  simp at h1 h2;subst h1;subst h2
  show bindL kindOf ((p,w)::P.zip vs) m p=_
  unfold bindL
  rw [qI fun v hv=>(List.nodup_cons.mp nd).1 (List.of_mem_zip hv).1,if_pos hk]
  simp
 | p::P,w::vs,i+1,m,nd,h1,h2,hk=>by
  show bindL kindOf ((p,w)::P.zip vs) m x=_
  unfold bindL
  exact qJ (i:=i) (List.nodup_cons.mp nd).2 (by simpa using h1) (by simpa using h2) hk
theorem qL {kindOf:Str->Option NameKind} {x:Str} {v:Value}:∀ {P:List Str} {vs:List Value} {i:Nat} {m:Str->Option Value},P.Nodup->P[i]? = some x->vs[i]? = some v->kindOf x≠some .local ->
  bindC kindOf (P.zip vs) m x=some v
 | [],_,_,_,_,h,_,_=>by simp at h
 | _::_,[],_,_,_,_,h,_=>by simp at h
 | p::P,w::vs,0,m,nd,h1,h2,hk=>by
  simp at h1 h2;subst h1;subst h2
  show bindC kindOf ((p,w)::P.zip vs) m p=_
  unfold bindC
  rw [qK fun v hv=>(List.nodup_cons.mp nd).1 (List.of_mem_zip hv).1,if_neg hk]
  simp
 | p::P,w::vs,i+1,m,nd,h1,h2,hk=>by
  show bindC kindOf ((p,w)::P.zip vs) m x=_
  unfold bindC
  exact qL (i:=i) (List.nodup_cons.mp nd).2 (by simpa using h1) (by simpa using h2) hk
def start (N:List Str) (vs:List V):St:=vs.map some++List.replicate (N.length - vs.length) none
def zb (CX:CXT) (P:Program) (w:World) (K:PySem.W.Frag) (mg:Str->Option Value) (base:Heap) (N:List Str) (qual:Str) (scope:Scope) (f:Addr) (cd:Value) (A:Around) (outer:List Env) (s:Shared) (H:Hp) (E:XK):Cx where
 prog:=P
 w:=w
 K:=K
 mg:=mg
 base:=base
 A:=A.deeper (envOfC qual scope s.heap.objs.size f cd)
 N:=N
 s₀:=s
 H₀:=H
 env:=envOfC qual scope s.heap.objs.size f cd
 outer:=outer
 stack:=envOfC qual scope s.heap.objs.size f cd::outer
 ex:=[]
 calm:=true
 fn:=fun _=>true
 pn:=[]
 xe:=fun e s'=>wpAny (model P w) (A.deeper (envOfC qual scope s.heap.objs.size f cd)) (leaving (envOfC qual scope s.heap.objs.size f cd) e) (fun _ s''=>CX outer H s E e s'') (fun e' s''=>CX outer H s E e' s'') s'
theorem uH {sc:Scope} {n:Nat} {x:Str} (h:sc.names.lookup x=some .cell):∃ c,(cellsFrom n sc.names []).lookup x=some c:=by
 have q:=PySem.W.cellsFrom_some sc.names n [] (.inl h)
 exact Option.isSome_iff_exists.mp q
theorem yH {CX:CXT} {P:Program} {w:World} {K:PySem.W.Frag} {mg:Str->Option Value} {base:Heap} {N ps:List Str} {qual:Str} {scope:Scope} {f:Addr} {cd:Value} {A:Around} {outer:List Env} {s s1:Shared} {H:Hp} {E:XK} {us:List Value} {vs:List V}
  (S:FnScope N ps scope) (hd:A.handled=none) (e0:Env0 P w K mg base A outer s H) (hl:vs.length=ps.length) (r:Vals vs us)
  (x:InCallC s s.heap.objs.size (bindL (envOfC qual scope s.heap.objs.size f cd).kindOf (ps.zip us) fun _=>none) (cellsFrom ↥34 scope.names []) (bindC (envOfC qual scope s.heap.objs.size f cd).kindOf (ps.zip us) fun _=>none) s1) :
  Inv (zb CX P w K mg base N qual scope f cd A outer s H E) [] (start N vs) H s1:=by
 have hpl:ps.length<=N.length:=by have:=congrArg List.length S.pre;rw [List.length_take] at this;omega
 obtain ⟨h1,tk,rfl,hk⟩:=x.done
 have noA:∀ b:Addr,b∉(zb CX P w K mg base N qual scope f cd A outer s H E).ex:=fun b z=>absurd (show b∈([]:List Addr) from z) (by simp)
 refine ⟨⟨e0.mod,S.kind,rfl,rfl,Nat.le_refl _,fun y z c h1 h2 => ?_,fun y hy => ?_,fun y c _ h => ?_,fun _=>hd,Around.frames_deeper e0.frames,.inr ⟨rfl,rfl⟩,fun b z=>absurd z (noA b),e0.bs,e0.bsz,fun b _ _=>noA b,fun b z=>absurd z (noA b),e0.funs,e0.frf⟩,
  rfl,e0.bare,Un.kept hk,⟨_,x.toInCall.ns,fun i y v h1 h2 h3 => ?_⟩,fun y c h=>⟨_,x.cell y c h⟩,e0.hok.fresh ↥37,fun y c h => ?_,fun p hp=>absurd (show p∈([]:List ↥12) from hp) (by simp),e0.hok.kept hk,?_⟩
 ·exact name_of_addr x.apart (PySem.mem_of_lookup h1) (PySem.mem_of_lookup h2)
 ·have hy:scope.names.lookup y=some .cell\/scope.names.lookup y=some .free:=hy
  rcases hy with hy | hy
  ·exact uH hy
  ·exact absurd rfl (S.nofree _ (PySem.mem_of_lookup hy))
 ·exact Nat.le_of_lt (x.above y c (PySem.mem_of_lookup h))
 ·have hi:i<vs.length:=by
   unfold start at h2
   by_cases hi:i<vs.length
   ·exact hi
   ·rw [List.getElem?_append_right (by simpa using hi)] at h2
    rw [List.getElem?_replicate] at h2
    split at h2<;>cases h2
  have ha:vs[i]? = some v:=by
   unfold start at h2
   rw [List.getElem?_append_left (by simpa using hi),List.getElem?_map] at h2
   cases e:vs[i]? with
   | none=>rw [e] at h2;cases h2
   | some a=>rw [e] at h2;cases h2;rfl
  obtain ⟨u,hu,rv⟩:=r.get ha
  have hp:ps[i]? = some y:=by
   rw [<- S.pre,List.getElem?_take_of_lt ⋯];exact h1
  have ndP:ps.Nodup:=by rw [<- S.pre];exact S.nd.sublist (List.take_sublist _ _)
  refine ⟨u,rv,?_⟩
  rcases S.par y (List.mem_of_getElem? hp) with k | k
  ·exact .inl ⟨k,qJ ndP hp hu k⟩
  ·obtain ⟨c,e⟩:=uH (n:=s.heap.objs.size+1) k
   refine .inr ⟨.inl k,c,e,?_⟩
   have q:=x.cell y c e
   rw [qL ndP hp hu (by show scope.names.lookup y≠_;rw [k];decide)] at q
   exact q
 ·exact e0.hok.fresh (Nat.le_of_lt (x.above y c (PySem.mem_of_lookup h)))
 ·unfold start
  show _=N.length
  rw [List.length_append,List.length_map,List.length_replicate]
  omega
theorem Jy {CX:CXT} {P:Program} {w:World} {K:PySem.W.Frag} {mg:Str->Option Value} {base:Heap} {k:Nat} {f:Addr} {name qual:Str} {params:Arguments} {body:List Stmt} {scope:Scope} {dV kV doc pm cdv ct oc:Value} {an od:Option Addr}
  {osl:Array (Option Value)} {N ps:List Str} {sp:Sp} (lk:K.lookup f=some ⟨oc,od,.func (PySem.W.fnOf name qual params body scope dV kV doc pm an cdv ct),osl⟩) (hcd:PySem.W.codeIn K cdv qual=true) (S:FnScope N ps scope)
  (len:∀ vs H Q E,sp vs H Q E->vs.length=ps.length)
  (hbody:∀ (A:Around) (outer:List Env) (s:Shared) (H:Hp) (vs:List V) (Q:VK) (E:XK),Room k (A.deeper (envOfC qual scope s.heap.objs.size f cdv))->sp vs H Q E ->
   ∃ t,PSs (zb CX P w K mg base N qual scope f cdv A outer s H E) body t/\t { nx:=fun _ H'=>Q .non H',rt:=Q } (start N vs) H) :
  FnOk P w K mg base CX (k+1) f (PySem.W.fnOf name qual params body scope dV kV doc pm an cdv ct) ps sp:=by
 refine ⟨len,fun A outer s H args us vs Q E hr e0 hb r hsp => ?_⟩
 have hl:=len _ _ _ _ hsp
 have KX:K.In s.heap:=e0.mod.kin.keeps fun b o e=>(e0.bs b o e).1
 have lim:s.heap.NoLimit:=e0.mod.nolimit.keeps fun b o e=>(e0.bs b o e).1
 have hkind:∀ y∈ps.zip us,scope.names.lookup y.1=some .local\/(scope.names.lookup y.1=some .cell/\((cellsFrom ↥34 scope.names []).lookup y.1).isSome=true):=fun ⟨n,v⟩ hy=>by
  rcases S.par n (List.of_mem_zip hy).1 with q | q
  ·exact .inl q
  ·exact .inr ⟨q,PySem.W.cellsFrom_some _ _ _ (.inl q)⟩
 refine codeAny_call_function hr.depth (KX _ _ lk) rfl S.co S.gen rfl (PySem.W.codeRec_of KX hcd) (hb _ _ _ _ ?_)
 refine wpAny_newFunctionEnv_cells S.kind hkind fun env he s1 x => ?_
 subst he
 refine ⟨lim.keeps x.toInCall.keep,codeAny_func ?_⟩
 obtain ⟨t,ht,hq⟩:=hbody A outer s H vs Q E (hr.deeper _) hsp
 have I:Inv (zb CX P w K mg base N qual scope f cdv A outer s H E) [] (start N vs) H s1:=yH S hr.hd e0 hl r x
 refine wpAny_mono (ht [] s1 (start N vs) H _ I hq) (fun fl s' hs => ?_) fun e s' hs=>hs
 have fin:∀ {σ':St} {H':Hp} {v:V} {u:Value},Inv (zb CX P w K mg base N qual scope f cdv A outer s H E) [] σ' H' s'->RelV v u->Q v H'->CE outer P w H s Q u s' :=
  fun {σ' H' v u} J rv q=>⟨v,H',J.os,J.bare,J.base,J.hok,rv,q⟩
 cases fl with
 | ret u =>
  obtain ⟨v,σ',H',J,rv,q⟩:=hs
  exact fin J rv q
 | next =>
  obtain ⟨σ',H',J,q⟩:=hs
  exact fin (v:=V.non) (u:=Value.none) J rfl q
 | brk =>
  obtain ⟨_,_,_,q⟩:=hs
  exact False.elim q
 | cont =>
  obtain ⟨_,_,_,q⟩:=hs
  exact False.elim q
end L2
namespace L2
open PySem PySem.Spec PyProof.Rows
section
variable {X:Cx} {x:Str} {p pos:Pos} {e:Expr} {es:List Expr} {t:TA} {id T:String} {r:List V->Hp->VK->Prop}
def tCB (r:List V->Hp->VK->Prop) (t:TA):TE:=fun σ H Q=>t σ H fun vs H1=>r vs H1 Q
theorem ug (hc:iJ X (.builtin id) r) (hg:Gl X x) (hm:X.mg x=none) (hv:bootBuiltins x=some (.builtin id)) (ha:PA X (e::es) t) (hn:x≠"__name__":=by decide) (hdb:(x == ("__debug__":Str))=false:=by decide)
  (he:starEach (e::es) X.env=↥38::starEach es X.env:=by rfl) (hpl:(backTo pos (starEach es X.env)).any (·.1)=false:=by rfl):PE X (.Call (.Name x p) (e::es) [] pos) (tCB r t):=by
 intro pins s σ H Q I h
 refine wpAny_Call_Name_kw (qq I hg hm hv ?_ hn hdb)
 exact PyProof.Rows.callWith_builtin1 (thn (ha pos pins s σ H _ I h) fun us s1 ⟨vs,H1,I1,r1,q1⟩=>hc pins s1 σ H1 vs us Q I1 r1 q1) he hpl
theorem xK (hc:iJ X (.type T) r) (hg:Gl X x) (hm:X.mg x=none) (hv:bootBuiltins x=some (.type T)) (ha:PA X (e::es) t) (hn:x≠"__name__":=by decide) (hdb:(x == ("__debug__":Str))=false:=by decide)
  (he:starEach (e::es) X.env=↥38::starEach es X.env:=by rfl) (hpl:(backTo pos (starEach es X.env)).any (·.1)=false:=by rfl):PE X (.Call (.Name x p) (e::es) [] pos) (tCB r t):=by
 intro pins s σ H Q I h
 refine wpAny_Call_Name_kw (qq I hg hm hv ?_ hn hdb)
 exact PyProof.Rows.callWith_type1 (thn (ha pos pins s σ H _ I h) fun us s1 ⟨vs,H1,I1,r1,q1⟩=>hc pins s1 σ H1 vs us Q I1 r1 q1) he hpl
end
end L2
namespace HT
open PySem PyProof.Rows
section
open PySem.SeqAt
open PySem.AutoSeq1 (wpAny_loadPart')
open PySem.MeetsSeq PySem.MeetsSeq2 PySem.MeetsSeq3
end
section
variable {prog:Program} {w:World} {A:Around} {E:Value->Shared->Prop} {s:Shared}
theorem FZ {t b:Addr} {vs ws:List Value} {Q:Value->Shared->Prop} (ht:IsTup s.heap t vs.toArray) (hb:IsTup s.heap b ws.toArray) (hv:vs≠[])
  (h1:ws=[]->Q (.ref t) s) (h2:ws≠[]->Q (.ref s.heap.objs.size) { s with heap:=s.heap.push { cls:=.type "tuple",data:=.seq (vs++ws).toArray } })
  (hsz:vs.length+ws.length<=sizeLine):wpAny ↥22 A (binaryOp .Add (.ref t) (.ref b)) Q E s:=by
 obtain ⟨⟨cls,dd,data,sl⟩,ho,hc,n,hd⟩:=id ht
 obtain ⟨⟨cls2,dd2,data2,sl2⟩,ho2,hc2,n2,hd2⟩:=id hb
 simp only at hc hd hc2 hd2
 subst hc hd hc2 hd2
 have e:vs.toArray++ws.toArray=(vs++ws).toArray:=by simp
 by_cases hw:ws=[]
 ·exact concat_meets ⟨_,ho,rfl⟩ ⟨_,ho2,rfl⟩ noFill_tuple_add seq_tuple_add PySem.F.slot_tuple_add PySem.F.entry_tuple_add (PySem.F.args_tuple_add_2 _ _)
   (tuple_addW1 t b vs.toArray ws.toArray n n2 dd dd2 sl sl2 (by simpa using hv) (by simp [hw])) ⟨ho,ho2,h1 hw⟩
 ·refine concat_meets ⟨_,ho,rfl⟩ ⟨_,ho2,rfl⟩ noFill_tuple_add seq_tuple_add PySem.F.slot_tuple_add PySem.F.entry_tuple_add (PySem.F.args_tuple_add_2 _ _)
   (tuple_addW2 t b vs.toArray ws.toArray n n2 dd dd2 sl sl2 (by simpa using hv) (by simpa using hw) (by rw [List.size_toArray,List.size_toArray];exact hsz)) ⟨ho,ho2,?_⟩
  rw [e]
  exact h2 hw
def sIx (n d:Nat):Option Int->Nat
 | none=>d
 | some v=>if v<0 then (v+(n:Int)).toNat else min v.toNat n
end
end HT
namespace L2
open PySem PySem.Spec PyProof.Rows
abbrev TO:=St->Hp->(Option Int->Hp->Prop)->Prop
def PO (X:Cx) (e:Option Expr) (t:TO):Prop :=
 ∀ (pins:List ↥12) (s:Shared) (σ:St) (H:Hp) (Q:Option Int->Hp->Prop),Inv X pins σ H s->t σ H Q ->
  wpAny ↥7 X.A (evalPart e X.env) (fun u s'=>∃ o H',Inv X pins σ H' s'/\IsPart u o/\Q o H') X.xe s
section
variable {X:Cx} {e:Expr} {te:TE} {lo hi:Option Expr} {tl th:TO} {pos p2:Pos}
def KZ (K:PySem.W.Frag):R2:=fun x y H Q=>∃ a b xs ys,x=.ref a/\y=.ref b/\SqT K H a xs/\SqT K H b ys/\xs≠[]/\xs.length+ys.length<=sizeLine /\
 (ys=[]->Q (.ref a) H)/\(ys≠[]->∀ p,H p=none->Q (.ref p) (upd H p (.tup (xs++ys))))
theorem Vals.nil_iff {xs:List V} {us:List Value} (r:Vals xs us):us=[]↔xs=[]:=by
 cases r with
 | nil=>simp
 | cons _ _=>simp
theorem EO:OpR X (binaryOp .Add) (KZ X.K):=by
 intro pins s σ H x y v u Q I rx ry h
 obtain ⟨a,b,xs,ys,rfl,rfl,ha,hb,hx,hz,q1,q2⟩:=h
 cases rx
 cases ry
 obtain ⟨its,r1,p1,_⟩:=I.tuple ha
 obtain ⟨its2,r2,p2,_⟩:=I.tuple hb
 refine HT.FZ p1 p2 (fun z=>hx (r1.nil_iff.mp z)) (fun z=>⟨.ref a,H,I,rfl,q1 (r2.nil_iff.mp z)⟩) (fun z => ?_) (by rw [<- r1.length,<-r2.length];exact hz)
 refine ⟨.ref s.heap.objs.size,_,I.laid (t':=s.toks) (o:=.tup (xs++ys)) (fun b ob q=>Heap.get?_push_of_some _ q) ↥37 ?_,rfl,q2 (fun w=>z (r2.nil_iff.mpr w)) _ (I.hok.fresh ↥37)⟩
 exact ⟨by rw [List.length_append];exact hz,_,r1.append r2,IsTup.new _ _⟩
end
end L2
namespace L2
open PySem PySem.Spec PyProof.Rows
def ixN (n:Nat) (i:Int):Option Nat:=if 0<=i then (if i<n then some i.toNat else none) else if -(n:Int)<=i then some (i+n).toNat else none
def atI {α:Type} (xs:List α) (i:Int):Option α:=(ixN xs.length i).bind fun j=>xs[j]?
theorem Fw {n:Nat} {i:Int} {j:Nat} (h:ixN n i=some j):seqIndex? i n=some j/\j<n /\ -(n:Int)<=i/\i<n:=by
 unfold ixN at h
 by_cases h0:0<=i
 ·rw [if_pos h0] at h
  by_cases h1:i<n
  ·rw [if_pos h1] at h
   have e:i.toNat=j:=Option.some.inj h
   exact ⟨by rw [seqIndex_of h0 h1,e],⋯,⋯,h1⟩
  ·rw [if_neg h1] at h;cases h
 ·rw [if_neg h0] at h
  by_cases h1 : -(n:Int)<=i
  ·rw [if_pos h1] at h
   have e:(i+n).toNat=j:=Option.some.inj h
   exact ⟨by rw [seqIndex_neg ⋯ h1,e],⋯,h1,⋯⟩
  ·rw [if_neg h1] at h;cases h
theorem tN {α:Type} {xs:List α} {i:Int} {v:α} (h:atI xs i=some v):∃ j,seqIndex? i xs.length=some j/\xs[j]? = some v/\j<xs.length /\ -(xs.length:Int)<=i/\i<xs.length:=by
 unfold atI at h
 cases e:ixN xs.length i with
 | none=>rw [e] at h;cases h
 | some j =>
  rw [e] at h
  obtain ⟨h1,h2,h3,h4⟩:=Fw e
  exact ⟨j,h1,h,h2,h3,h4⟩
def zC (b:Expr):Prop:=∀ o i,subscripted b false o i=operate [o,i] (getItem o i)
def IxR (X:Cx) (r:R2):Prop :=
 ∀ (value slice:Expr) (pins:List ↥12) (s:Shared) (σ:St) (H:Hp) (x y:V) (v u:Value) (Q:VK),Inv X pins σ H s->RelV x v->RelV y u->r x y H Q ->
  subscripted slice false v u=operate [v,u] (getItem v u)->wpAny ↥7 X.A (subscriptTail value slice v u) (EP X pins σ Q) X.xe s
def MtR (X:Cx) (id:String) (r:V->List V->Hp->VK->Prop):Prop :=
 ∀ (pins:List ↥12) (s:Shared) (σ:St) (H:Hp) (x:V) (xs:List V) (v:Value) (us:List Value) (Q:VK),Inv X pins σ H s->RelV x v->Vals xs us->r x xs H Q ->
  wpAny ↥7 X.A (call (.builtin id) (v::us)) (EP X pins σ Q) X.xe s
section
variable {X:Cx} {a b:Expr} {ta tb:TE} {pos:Pos}
theorem Lb {r:R2} (hr:IxR X r) (ha:PE X a ta) (hb:PE X b tb) (hs:zC b):PE X (.Subscript a b pos) (tOp r ta tb):=by
 intro pins s σ H Q I h
 exact Subscript_ (LU ha hb I h fun v u s2 x y H2 I2 rx ry q=>hr a b pins s2 σ H2 x y v u Q I2 rx ry q (hs _ _))
def PD (K:PySem.W.Frag):R2:=fun x y H Q=>∃ p xs i v,x=.ref p/\y=.int i/\SqL K H p xs/\atI xs i=some v/\Q v H
def PB (K:PySem.W.Frag):R2:=fun x y H Q=>∃ p xs i v,x=.ref p/\y=.int i/\SqT K H p xs/\atI xs i=some v/\Q v H
def PC:R2:=fun x y H Q=>∃ z i c,x=.str z/\y=.int i/\z.length<=sizeLine/\atI z.cps.toList i=some c/\Q (.str ⟨#[c]⟩) H
theorem Fv:IxR X (PD X.K):=by
 intro value slice pins s σ H x y v u Q I rx ry h hs
 obtain ⟨p,xs,i,z,rfl,rfl,hq,he,q⟩:=h
 cases rx
 obtain ⟨t,rfl⟩:=ry
 obtain ⟨its,r,pl,hz⟩:=I.list hq
 obtain ⟨j,h1,h2,h3,h4,h5⟩:=tN he
 obtain ⟨w,ew,rw'⟩:=r.get h2
 have hl:=r.length
 have hn:=qp
 have fin:EP X pins σ Q w s:=⟨z,H,I,rw',q⟩
 by_cases h0:0<=i
 ·have hj:i.toNat=j:=by
   rw [seqIndex_of h0 h5] at h1
   exact Option.some.inj h1
  exact item_listR pl.isList h0 ⋯ (by rw [hj];simpa using ew) fin hs
 ·have hj:(i+(its.toArray.size:Int)).toNat=j:=by
   rw [seqIndex_neg ⋯ h4] at h1
   rw [List.size_toArray,<-hl]
   exact Option.some.inj h1
  exact subscriptTail_builtinR (x:=w) pl.isList.typeIs slot_list_getitem.lookup
   (wpAny_getItem_list_neg (Q:=fun r s'=>r=w/\EP X pins σ Q r s') pl.isList ⋯ (by rw [List.size_toArray]<;>omega) ⋯ (by rw [hj];simpa using ew) ⟨rfl,fin⟩) hs
theorem m7:IxR X (PB X.K):=by
 intro value slice pins s σ H x y v u Q I rx ry h hs
 obtain ⟨p,xs,i,z,rfl,rfl,hq,he,q⟩:=h
 cases rx
 obtain ⟨t,rfl⟩:=ry
 obtain ⟨its,r,pl,hz⟩:=I.tuple hq
 obtain ⟨j,h1,h2,h3,h4,h5⟩:=tN he
 obtain ⟨w,ew,rw'⟩:=r.get h2
 have hl:=r.length
 have hn:=qp
 have fin:EP X pins σ Q w s:=⟨z,H,I,rw',q⟩
 exact subscriptTail_builtinR (x:=w) pl.typeIs slot_tuple_getitem.lookup
  (getItem_tuple (j:=j) (Q:=fun r s'=>r=w/\EP X pins σ Q r s') pl ⋯ ⋯ (by rw [List.size_toArray,<-hl];exact h1) (by simpa using ew) ⟨rfl,fin⟩) hs
theorem Jk:IxR X PC:=by
 intro value slice pins s σ H x y v u Q I rx ry h hs
 obtain ⟨z,i,c,rfl,rfl,hz,he,q⟩:=h
 obtain ⟨t,rfl⟩:=rx
 obtain ⟨t',rfl⟩:=ry
 obtain ⟨j,h1,h2,h3,h4,h5⟩:=tN he
 have hl:z.cps.toList.length=z.length:=by simp [Str.length]
 rw [hl] at h1 h4 h5
 have hn:=qp
 exact tail_any (typeIs_str s z t) slot_str_getitem.lookup (getItem_str (c:=c) (by
  have e1:decide (i < -(2^63:Int))=false:=decide_eq_false ⋯
  have e2:decide (i>=2^63)=false:=decide_eq_false ⋯
  rw [e1,e2,Bool.or_false]) (by rw [h1];simpa using h2) ⟨.str ⟨#[c]⟩,H,I.tok _,⟨_,rfl⟩,q⟩) hs
def mP:V->Bool
 | .non=>true
 | .bl _=>true
 | .int _=>true
 | .str _=>true
 | _=>false
def eqV:V->V->Bool
 | .non,.non=>true
 | .bl a,.bl b=>a == b
 | .bl a,.int b=>(if a then 1 else 0) == b
 | .int a,.bl b=>a == (if b then 1 else 0)
 | .int a,.int b=>a == b
 | .str a,.str b=>a == b
 | _,_=>false
theorem JD {A:Around} {s:Shared} {y x:V} {u v:Value} (ry:RelV y u) (rx:RelV x v) (fy:mP y=true) (fx:mP x=true):SeqAt.EqAt A s u v (eqV y x):=by
 cases y with
 | non =>
  cases ry
  cases x with
  | non=>cases rx;exact SeqAt.EqAt.same _
  | bl b=>cases rx;exact SeqAt.EqAt.none_bool b
  | int b=>obtain ⟨t,rfl⟩:=rx;exact SeqAt.EqAt.none_int b t
  | str b=>obtain ⟨t,rfl⟩:=rx;exact SeqAt.EqAt.none_str b t
  | _=>exact absurd (show false=true from fx) Bool.false_ne_true
 | bl a =>
  cases ry
  cases x with
  | non=>cases rx;exact SeqAt.EqAt.bool_none a
  | bl b=>cases rx;exact SeqAt.EqAt.bool_bool a b
  | int b=>obtain ⟨t,rfl⟩:=rx;exact SeqAt.EqAt.bool_int a b t
  | str b=>obtain ⟨t,rfl⟩:=rx;exact SeqAt.EqAt.bool_str a b t
  | _=>exact absurd (show false=true from fx) Bool.false_ne_true
 | int a =>
  obtain ⟨t',rfl⟩:=ry
  cases x with
  | non=>cases rx;exact SeqAt.EqAt.int_none a t'
  | bl b=>cases rx;exact SeqAt.EqAt.int_bool a t' b
  | int b=>obtain ⟨t,rfl⟩:=rx;exact SeqAt.EqAt.int_int a t' b t
  | str b=>obtain ⟨t,rfl⟩:=rx;exact SeqAt.EqAt.int_str a t' b t
  | _=>exact absurd (show false=true from fx) Bool.false_ne_true
 | str a =>
  obtain ⟨t',rfl⟩:=ry
  cases x with
  | non=>cases rx;exact SeqAt.EqAt.str_none a t'
  | bl b=>cases rx;exact SeqAt.EqAt.str_bool a t' b
  | int b=>obtain ⟨t,rfl⟩:=rx;exact SeqAt.EqAt.str_int a t' b t
  | str b=>obtain ⟨t,rfl⟩:=rx;exact SeqAt.EqAt.str_str a t' b t
  | _=>exact absurd (show false=true from fx) Bool.false_ne_true
 | _=>exact absurd (show false=true from fy) Bool.false_ne_true
def eqU (x:V) (u:Value):Bool:=match u with
 | .none=>eqV .non x
 | .bool b=>eqV (.bl b) x
 | .int i _=>eqV (.int i) x
 | .str z _=>eqV (.str z) x
 | _=>false
theorem CK {x y:V} {u:Value} (r:RelV y u) (f:mP y=true):eqU x u=eqV y x:=by
 cases y with
 | non=>cases r;rfl
 | bl b=>cases r;rfl
 | int i=>obtain ⟨t,rfl⟩:=r;rfl
 | str z=>obtain ⟨t,rfl⟩:=r;rfl
 | _=>exact absurd (show false=true from f) Bool.false_ne_true
theorem mh {x:V}:∀ {xs:List V} {us:List Value},Vals xs us->xs.all mP=true->us.any (eqU x)=xs.any fun y=>eqV y x
 | _,_,.nil,_=>rfl
 | y::xs,u::us,.cons r t,f=>by
  rw [List.all_cons,Bool.and_eq_true] at f
  rw [List.any_cons,List.any_cons,CK r f.1,mh t f.2]
theorem i8 {A:Around} {s:Shared} {x:V} {v:Value} (rx:RelV x v) (fx:mP x=true):∀ {xs:List V} {us:List Value},Vals xs us->xs.all mP=true->∀ u∈us,SeqAt.EqAt A s u v (eqU x u)
 | _,_,.nil,_=>fun u hu=>by cases hu
 | y::xs,u::us,.cons r t,f=>fun u' hu=>by
  rw [List.all_cons,Bool.and_eq_true] at f
  rcases List.mem_cons.mp hu with rfl | hu
  ·rw [CK r f.1];exact JD r rx f.1 fx
  ·exact i8 rx fx t f.2 u' hu
def inV (x:V) (xs:List V):Bool:=xs.any fun y=>eqV y x
def rIn (K:PySem.W.Frag) (neg:Bool):R2:=fun x y H Q=>∃ p xs,y=.ref p/\(SqL K H p xs\/SqT K H p xs)/\mP x=true/\xs.all mP=true/\Q (.bl (if neg then !inV x xs else inV x xs)) H
theorem xQ:OpR X (compareOp .In) (rIn X.K false):=by
 intro pins s σ H x y v u Q I rx ry h
 obtain ⟨p,xs,rfl,hq,fx,fs,q⟩:=h
 cases ry
 rcases hq with hq | hq
 ·obtain ⟨its,r,pl,hz⟩:=I.list hq
  refine SeqAt.in_listAt (eqU x) pl.isList (fun w hw=>i8 rx fx r fs w (by simpa using hw)) ⟨.bl _,H,I,rfl,?_⟩
  rw [show its.toArray.any (eqU x)=its.any (eqU x) by simp,mh r fs]
  exact q
 ·obtain ⟨its,r,pl,hz⟩:=I.tuple hq
  refine SeqAt.in_tupleAt (eqU x) pl (fun w hw=>i8 rx fx r fs w (by simpa using hw)) ⟨.bl _,H,I,rfl,?_⟩
  rw [show its.toArray.any (eqU x)=its.any (eqU x) by simp,mh r fs]
  exact q
theorem qi:OpR X (compareOp .NotIn) (rIn X.K true):=by
 intro pins s σ H x y v u Q I rx ry h
 obtain ⟨p,xs,rfl,hq,fx,fs,q⟩:=h
 cases ry
 rcases hq with hq | hq
 ·obtain ⟨its,r,pl,hz⟩:=I.list hq
  refine SeqAt.notIn_listAt (eqU x) pl.isList (fun w hw=>i8 rx fx r fs w (by simpa using hw)) ⟨.bl _,H,I,rfl,?_⟩
  rw [show its.toArray.any (eqU x)=its.any (eqU x) by simp,mh r fs]
  exact q
 ·obtain ⟨its,r,pl,hz⟩:=I.tuple hq
  refine SeqAt.notIn_tupleAt (eqU x) pl (fun w hw=>i8 rx fx r fs w (by simpa using hw)) ⟨.bl _,H,I,rfl,?_⟩
  rw [show its.toArray.any (eqU x)=its.any (eqU x) by simp,mh r fs]
  exact q
theorem qh:OpR X (compareOp .NotIn) (fun x y H Q=>∃ i j,x=.str i/\y=.str j/\Q (.bl (!(!(Builtin.Str.occurrences j i 0 j.length 1).isEmpty))) H):=by
 intro pins s σ H x y v u Q I rx ry h
 obtain ⟨i,j,rfl,rfl,q⟩:=h
 obtain ⟨t,rfl⟩:=rx
 obtain ⟨t',rfl⟩:=ry
 exact notIn_str ⟨.bl _,H,I,rfl,q⟩
theorem j4:iJ X (.builtin "len") (fun xs H Q=>∃ p ys,xs=[.ref p]/\(SqL X.K H p ys\/SqT X.K H p ys)/\Q (.int ys.length) H):=by
 intro pins s σ H xs us Q I r h
 obtain ⟨p,ys,rfl,hq,q⟩:=h
 obtain ⟨u,rfl,rx⟩:=vals1 r
 cases rx
 have hn:=qp
 rcases hq with hq | hq
 ·obtain ⟨its,r',pl,hz⟩:=I.list hq
  have hlen:=r'.length
  exact Calls.call_len_list pl.isList (by simp only [List.size_toArray]<;>omega) ⟨.int ys.length,H,I.tok _,⟨s.toks+1,by rw [List.size_toArray,hlen]⟩,q⟩
 ·obtain ⟨its,r',pl,hz⟩:=I.tuple hq
  have hlen:=r'.length
  exact len_tuple pl (by simp only [List.size_toArray]<;>omega) ⟨.int ys.length,H,I.tok _,⟨s.toks+1,by rw [List.size_toArray,hlen]⟩,q⟩
theorem qG:iJ X (.builtin "len") (fun xs H Q=>∃ z,xs=[.str z]/\z.length<=sizeLine/\Q (.int z.length) H):=by
 intro pins s σ H xs us Q I r h
 obtain ⟨z,rfl,hz,q⟩:=h
 obtain ⟨u,rfl,t,rfl⟩:=vals1 r
 have hn:=qp
 exact len_str ⋯ ⟨.int z.length,H,I.tok _,⟨_,rfl⟩,q⟩
theorem qE:iJ X (.type "list") (fun xs H Q=>∃ p ys,xs=[.ref p]/\(SqL X.K H p ys\/SqT X.K H p ys)/\∀ l,H l=none->Q (.ref l) (upd H l (.lst ys))):=by
 intro pins s σ H xs us Q I r h
 obtain ⟨p,ys,rfl,hq,q⟩:=h
 obtain ⟨u,rfl,rx⟩:=vals1 r
 cases rx
 have fin:∀ (its:List Value),Vals ys its->ys.length<=sizeLine->∀ (h':Heap) (c':Nat),(∀ b o',s.heap.get? b=some o'->h'.get? b=some o') ->
   h'.get? s.heap.objs.size=some { cls:=.type "list",dict:=none,data:=.seq its.toArray c',slots := #[] }->EP X pins σ Q (.ref s.heap.objs.size) { s with heap:=h' }:=fun its r' hz h' c' kp e =>
  ⟨.ref s.heap.objs.size,_,I.laid (t':=s.toks) kp ↥37 (show iI X.prog X.w _ h' _ (.lst ys) from ⟨hz,its,c',r',e⟩),rfl,q _ (I.hok.fresh ↥37)⟩
 rcases hq with hq | hq
 ·obtain ⟨its,r',pl,hz⟩:=I.list hq
  have hlen:=r'.length
  obtain ⟨o,ho,hc,n,hd⟩:=pl.isList
  exact call_list_seq p (.inl rfl) ho hc hd (fun h' c' kp e=>fin its r' hz h' c' kp e) (by simp only [List.size_toArray]<;>omega)
 ·obtain ⟨its,r',pl,hz⟩:=I.tuple hq
  have hlen:=r'.length
  obtain ⟨o,ho,hc,n,hd⟩:=pl
  exact call_list_seq p (.inr rfl) ho hc hd (fun h' c' kp e=>fin its r' hz h' c' kp e) (by simp only [List.size_toArray]<;>omega)
def tyV (K:PySem.W.Frag) (T:String) (x:V) (H:Hp):Prop:=match x with
 | .str _=>T="str"
 | .int _=>T="int"
 | .ref p=>(T="list"/\∃ xs,SqL K H p xs)\/(T="tuple"/\∃ o,K.lookup p=some o/\o.cls=.type "tuple"/\o.dict=none) \/
   (T="dict"/\((∃ kvs,H p=some (.dK kvs))\/∃ kvs,H p=some (.dT kvs)))\/(T="set"/\∃ S n,H p=some (.set S n))
 | _=>False
theorem Cn {pins:List ↥12} {σ:St} {H:Hp} {s:Shared} {T:String} {x:V} {v:Value} (I:Inv X pins σ H s) (r:RelV x v) (ty:tyV X.K T x H) :
  s.TypeIs v T/\∀ a,v=.ref a->∃ ob,s.heap.get? a=some ob/\ob.dict=none:=by
 cases x with
 | str z =>
  obtain ⟨t,rfl⟩:=r
  cases (show T="str" from ty)
  exact ⟨typeIs_str s z t,fun _ e=>nomatch e⟩
 | int i =>
  obtain ⟨t,rfl⟩:=r
  cases (show T="int" from ty)
  exact ⟨typeIs_int s i t,fun _ e=>nomatch e⟩
 | ref p =>
  cases r
  rcases ty with ⟨rfl,xs,hq⟩ | ⟨rfl,o,hk,hc,hd⟩ | ⟨rfl,hk⟩ | ⟨rfl,S,n,hk⟩
  ·obtain ⟨its,_,pl,_⟩:=I.list hq
   refine ⟨pl.isList.typeIs,fun a e => ?_⟩
   cases e
   obtain ⟨o,n,e,c,hd,_⟩:=pl
   exact ⟨o,e,hd⟩
  ·refine ⟨⟨o,I.kIn p o hk,hc⟩,fun a e => ?_⟩
   cases e
   exact ⟨o,I.kIn _ o hk,hd⟩
  ·have z:∃ o,s.heap.get? p=some o/\o.ExactDict:=by
    rcases hk with ⟨kvs,hk⟩ | ⟨kvs,hk⟩
    ·obtain ⟨_,_,_,_,o,_,_,e,ex,_⟩:=I.hok p _ hk
     exact ⟨o,e,ex⟩
    ·obtain ⟨_,_,_,_,o,_,_,e,ex,_⟩:=I.hok p _ hk
     exact ⟨o,e,ex⟩
   obtain ⟨o,e,ex⟩:=z
   refine ⟨⟨o,e,ex.1⟩,fun a e2 => ?_⟩
   cases e2
   exact ⟨o,e,ex.2.1⟩
  ·obtain ⟨o,_,_,_,e,ex,_⟩:=I.hok p _ hk
   refine ⟨⟨o,e,ex.1⟩,fun a e2 => ?_⟩
   cases e2
   exact ⟨o,e,ex.2.1⟩
 | _=>exact False.elim ty
def Pr (K:PySem.W.Frag) (T:String) (r:V->List V->Hp->VK->Prop) (to:TE):TE:=fun σ H Q=>to σ H fun x H1=>tyV K T x H1/\r x [] H1 Q
def tBM (K:PySem.W.Frag) (T:String) (r:V->List V->Hp->VK->Prop) (to:TE) (t:TA):TE:=fun σ H Q=>to σ H fun x H1=>tyV K T x H1/\t σ H1 fun xs H2=>r x xs H2 Q
variable {o e:Expr} {es:List Expr} {to:TE} {t:TA} {name:Str} {apos cpos:Pos} {T id:String} {r:V->List V->Hp->VK->Prop}
theorem Ii (pa:PlainAttrs T) (slot:Slot T name id) (hty:typeOf (.builtin id)=pure (.type "method_descriptor")) (hm:MtR X id r) (ho:PE X o to)
  (hbase:attributeBase o name X.env (eval o X.env)=eval o X.env:=by rfl) (hline:(apos.endLine == cpos.line)=true:=by rfl):PE X (.Call (.Attribute o name apos) [] [] cpos) (Pr X.K T r to):=by
 intro pins s σ H Q I h
 refine wpAny_Call_method0_late hbase hline (thn (ho pins s σ H _ I h) fun v s1 ⟨x,H1,I1,r1,ty,q1⟩ => ?_)
 obtain ⟨h1,h2⟩:=Cn I1 r1 ty
 exact ⟨T,id,pa,slot,hty,h1,h2,Calls.callWith_builtin rfl (PySem.evalArgs_none (hm pins s1 σ H1 x [] v [] Q I1 r1 .nil q1))⟩
theorem Lc (pa:PlainAttrs T) (slot:Slot T name id) (hty:typeOf (.builtin id)=pure (.type "method_descriptor")) (hm:MtR X id r) (ho:PE X o to) (ha:PA X (e::es) t)
  (hbase:attributeBase o name X.env (eval o X.env)=eval o X.env:=by rfl)
  (hfew:((backTo cpos (starEach (e::es) X.env)).all (fun x => !x.1)&&(backToKw cpos (keywordEach [] X.env)).all (fun x=>x.1.isSome)
   && decide ((e::es).length+([]:List Keyword).length+(if ([]:List Keyword).isEmpty then 0 else 1)<30))=true:=by rfl)
  (hline:(apos.endLine == cpos.line)=true:=by rfl) (hs:starEach (e::es) X.env=↥38::starEach es X.env:=by rfl) (hplain:(backTo cpos (starEach es X.env)).any (·.1)=false:=by rfl) :
  PE X (.Call (.Attribute o name apos) (e::es) [] cpos) (tBM X.K T r to t):=by
 intro pins s σ H Q I h
 refine wpAny_Call_method_late hbase hfew hline rfl (thn (ho pins s σ H _ I h) fun v s1 ⟨x,H1,I1,r1,ty,q1⟩ => ?_)
 obtain ⟨h1,h2⟩:=Cn I1 r1 ty
 refine ⟨T,id,pa,slot,hty,h1,h2,?_⟩
 have hA:=ha cpos pins s1 σ H1 _ I1 q1
 rw [hs] at hA ⊢
 refine Calls.callWith_builtin (by show (false||(backTo cpos (starEach es X.env)).any (·.1))=false;rw [hplain]<;>rfl) (Calls.evalArgs_plain ?_)
 exact thn hA fun us s2 ⟨vs,H2,I2,r2,q2⟩=>hm pins s2 σ H2 x vs v us Q I2 r1 r2 q2
/- xs.append(e),list.index on a module's tuple .. are MtR facts of 06m -/
end
end L2
namespace L2
open PySem PySem.Spec PyProof.Rows
def MtM (X:Cx) (id:String) (r:V->List V->Hp->VK->Prop):Prop :=
 ∀ (pins:List ↥12) (s:Shared) (σ:St) (H:Hp) (x:V) (xs:List V) (v:Value) (us:List Value) (Q:VK),Inv X pins σ H s->RelV x v->Vals xs us->r x xs H Q ->
  wpAny ↥7 X.A (call (.builtin id) (v::us)) (EP X pins σ Q) X.xe s
theorem Vals.one:∀ {x:V} {us:List Value},Vals [x] us->∃ u,us=[u]/\RelV x u
 | _,_,.cons r .nil=>⟨_,rfl,r⟩
section
variable {X:Cx} {pins:List ↥12} {σ:St} {H:Hp} {s:Shared} {l b:Addr} {xs ys zs:List V}
theorem Inv.lset {its its':List Value} {n:Nat} {f:Array Value->Array Value} {t':Nat} (I:Inv X pins σ H s) (hH:H l=some (.lst xs))
  (e:s.heap.get? l=some { cls:=.type "list",data:=.seq its.toArray n }) (hf:f its.toArray=its'.toArray) (hv:Vals ys its') (hz:ys.length<=sizeLine) :
  Inv X pins σ (upd H l (.lst ys)) { s with heap:=s.heap.update l (Obj.mapSeq f),toks:=t' }:=by
 have q:=PySem.IsL.update e f
 rw [hf] at q
 refine I.write (x:=l) (e:=l) (by rw [hH];exact trivial) (.inl rfl) (fun b' u hb hu=>(Heap.get?_update_other s.heap (Obj.mapSeq f) (Ne.symm hb)).trans hu) ⟨_,q⟩ ?_
 exact ⟨hz,its',_,hv,q⟩
theorem Inv.lnew {its:List Value} {t':Nat} (I:Inv X pins σ H s) (hv:Vals ys its) (hz:ys.length<=sizeLine) :
  Inv X pins σ (upd H s.heap.objs.size (.lst ys)) { s with heap:=s.heap.push { cls:=.type "list",data:=.seq its.toArray },toks:=t' } :=
 I.laid (fun _ _ q=>Heap.get?_push_of_some _ q) ↥37 ⟨hz,its,0,hv,Heap.get?_push_size _ rfl⟩
theorem Inv.fresh (I:Inv X pins σ H s):H s.heap.objs.size=none:=I.hok.fresh ↥37
theorem Inv.lstM (I:Inv X pins σ H s) (hH:H l=some (.lst xs)):xs.length<=sizeLine/\∃ (its:List Value) (n:Nat),Vals xs its/\xs.length=its.length/\s.heap.get? l=some { cls:=.type "list",data:=.seq its.toArray n }:=by
 obtain ⟨z,its,n,r,e⟩:=I.hok l _ hH
 exact ⟨z,its,n,r,r.length,e⟩
theorem Br {n:Nat} (h:n<=sizeLine):Builtin.List.listTooLong n=false:=by
 unfold Builtin.List.listTooLong
 exact decide_eq_false ⋯
end
section
variable {X:Cx}
def Ew:V->List V->Hp->VK->Prop:=fun x vs H Q=>∃ l xs y,x=.ref l/\vs=[y]/\H l=some (.lst xs)/\xs.length<sizeLine/\Q .non (upd H l (.lst (xs++[y])))
theorem yu:MtM X "list.append" Ew:=by
 intro pins s σ H x vs v us Q I rx rv h
 obtain ⟨l,xs,y,rfl,rfl,hH,hz,q⟩:=h
 cases rx
 obtain ⟨u,rfl,ru⟩:=rv.one
 obtain ⟨z,its,n,r,hl,e⟩:=I.lstM hH
 refine call_meets F.slot_list_append ⟨_,e,rfl⟩ F.entry_list_append (F.args_list_append_2 _ _) (PySem.list_append l its.toArray n u (by rw [List.size_toArray];omega)) ⟨e,?_⟩
 refine ⟨.non,_,I.lset (its':=its++[u]) hH e (by simp) (r.append (.cons ru .nil)) ?_,rfl,q⟩
 rw [List.length_append,List.length_singleton]
 omega
end
section
variable {prog:Program} {w:World} {A:Around} {E:Value->Shared->Prop} {s:Shared}
end
section
variable {X:Cx}
end
end L2
namespace Att
open PySem PySem.W PySem.Calls PyProof.Rows
theorem lU {P:Params} {h:Heap}:∀ (ns:List Int) (vs:List Value),WellAll P h vs (ns.map WData.int)->IntsAre vs ns:=by
 intro ns
 induction ns with
 | nil =>
  intro vs w
  rw [List.map_nil] at w
  cases w
  exact .nil
 | cons n ns ih =>
  intro vs w
  rw [List.map_cons] at w
  cases w with
  | cons a b =>
   cases a
   exact .cons _ _ (ih _ b)
theorem xi {l:OpenLaw} {n:Nat} (hn:l.most=some n) {P:Params} {h:Heap} {args:List WData} {vals:List Value}
  (hpre:l.row.toRowW.claim.pre args=true) (hwl:WellAll P h vals args) :
  ∃ a vs ns,vals=[Value.ref a]/\args=[WData.list (ns.map WData.int)]/\h.get? a=some { cls:=.type "list",data:=.seq vs.toArray }/\IntsAre vs ns/\ns.length<=n:=by
 have hsh:WShape.hasAll [] args [.list .int]=true:=(pre_splitW hpre).1
 have hc:l.pre.holds [] { args:=args }=true:=(pre_splitW hpre).2
 obtain ⟨d,r,rfl,h1,h2⟩:=hasAllW_cons hsh
 obtain rfl:=hasAllW_nil h2
 obtain ⟨xs,rfl,h3⟩:=hasW_list h1
 obtain ⟨ns,rfl⟩:=items_int h3
 have hlen:ns.length<=n:=by
  unfold OpenLaw.pre at hc
  have h4:(WTm.not (.lt (.lit (.int (n:Int))) (.len (.arg 0)))).holds [] { args:=[.list (ns.map .int)] }=true:=by
   have h4:=(holds_andW hc).1
   rw [hn] at h4
   exact h4
  have h5:=condW_of h4 (w_not (w_lt w_lit (w_len_list (w_arg rfl))))
  rw [List.length_map] at h5
  refine Nat.le_of_not_lt fun q => ?_
  have q':(n:Int)<((ns.length:Nat):Int):=⋯
  first
   | (rw [decide_eq_true q'] at h5;exact absurd h5 ↥1)
   | (simp at h5;omega)
 cases hwl with
 | cons w1 w2 =>
  cases w2
  cases w1 with
  | list ho hall=>exact ⟨_,_,ns,rfl,rfl,ho,lU ns _ hall,hlen⟩
theorem xG (l:OpenLaw) (args:List WData):l.row.toRowW.claim.post args (.bool true) args=true :=
 postW_of (r:=l.row.toRowW) (X:=(true == true))
  (show WShape.has [] (.bool true) .bool=true by first | rfl | decide | simp [WShape.has,WShape.arms,WShape.armsAll])
  (show (WTm.eq .res (.lit (.bool true))).value [] { args:=args,res:=some (.bool true),after:=args }=some (.bool (true == true)) from w_eq_bool (w_res rfl) w_lit) rfl
section
variable {prog:Program} {w:World} {A:Around} {E:Value->Shared->Prop} {s:Shared} {K:Frag}
def ledger (h:Heap) (L d:Addr):List ↥12:=(List.range h.objs.size).filterMap fun a=>if a=L\/a=d then none else (h.get? a).map fun o=>(a,o)
end
end Att
namespace L2
open PySem PySem.Spec PyProof.Rows
theorem pX:∀ {vs:List Value} {ns:List Int},IntsAre vs ns->Vals (ns.map V.int) vs
 | _,_,.nil=>.nil
 | _,_,.cons n t h=>.cons ⟨t,rfl⟩ (pX h)
def O3 (H:Hp):Prop:=∀ b,H b=none\/∃ o xs,H b=some (.frz o (.lst xs))
theorem BA {P:Program} {w:World} {K:PySem.W.Frag} {mg mb:Str->Option Value} {CX:CXT} {k:Nat} {fa a:Addr} {fd:FuncData} {x:Str} {sp:Sp} {s₁:Shared} {vs:List Value} {ns:List Int}
  (KX:K.In s₁.heap) (hns:s₁.heap.Ns mainGlobals mg) (hb:s₁.heap.Ns builtinsNs mb) (hbb:∀ x:Str,x≠"__name__"->mb x=bootBuiltins x) (hlim:s₁.heap.NoLimit) (hg:s₁.gens = #[])
  (ha:s₁.heap.get? a=some { cls:=.type "list",data:=.seq vs.toArray }) (hi:IntsAre vs ns) (hl:ns.length<=sizeLine) (hr:Room k callerA)
  (F:∀ base:Heap,K.In base->base.Ns mainGlobals mg->FnOk P w K mg base CX k fa fd [x] sp) (hbind:∀ (s:Shared) (u:Value),BindsTo s fd ⟨[u],[]⟩ [(x,u)])
  (hsp:∀ H:Hp,O3 H->SqL K H a (ns.map V.int)->sp [.ref a] H (fun v _=>v=.bl true) fun _ _ _=>False)
  (hCX:∀ H e s',CX [] H s₁ (fun _ _ _=>False) e s'->False) :
  codeAny (model P w) callerA (.call (.ref fa) ⟨[.ref a],[]⟩) (fun r s'=>r=.ok (.ret (.bool true))/\OldK s₁.heap s'.heap/\s'.os=s₁.os/\AllBare s'.gens) s₁:=by
 have rv:=pX hi
 have lenV:=hi.length
 have core:∀ H:Hp,O3 H->SqL K H a (ns.map V.int)->HOk P w H s₁.heap->(∀ b,H b≠none->b=a)->(H a≠none->K.lookup a=none) ->
   codeAny (model P w) callerA (.call (.ref fa) ⟨[.ref a],[]⟩) (fun r s'=>r=.ok (.ret (.bool true))/\OldK s₁.heap s'.heap/\s'.os=s₁.os/\AllBare s'.gens) s₁:=by
  intro H hO hS hok hA hK
  have base_of:∀ {b:Addr} {o:Obj},s₁.heap.get? b=some o->H b=none->(BF s₁.heap H).get? b=some o:=fun e n=>BE e n
  have noA:∀ {b:Addr} {o:Obj} {es:Array DictEntry} {ep:Nat},s₁.heap.get? b=some o->o.data=.dict es ep->H b=none:=fun {b o es ep} e d=>by
   cases q:H b with
   | none=>rfl
   | some u =>
    have e':b=a:=hA b (by rw [q];simp)
    subst e'
    rw [ha] at e;cases e
    have d':Data.seq vs.toArray _=Data.dict es ep:=d
    cases d'
  have nsK:∀ {b:Addr} {m:Str->Option Value},s₁.heap.Ns b m->(BF s₁.heap H).Ns b m:=fun {b m} ⟨o,es,ep,e,d,r⟩=>⟨o,es,ep,base_of e (noA e d),d,r⟩
  have hKb:K.In (BF s₁.heap H):=fun b o e=>base_of (KX b o e) (by
   cases q:H b with
   | none=>rfl
   | some u =>
    have e':b=a:=hA b (by rw [q];simp)
    subst e'
    rw [hK (by rw [q];simp)] at e;cases e)
  have hM:Mod K mg (BF s₁.heap H):=⟨hKb,nsK hns,⟨mb,nsK hb,hbb⟩,let ⟨mc,h1,h2⟩:=hlim;⟨mc,nsK h1,h2⟩⟩
  have e0:Env0 P w K mg (BF s₁.heap H) callerA [] s₁ H:=⟨rfl,hM,fun b o e=>EY e,Nat.le_of_eq (yK _ _),trivial,fun b hb=>absurd (show b∈([]:List Addr) from hb) (by simp),hok,.of_eq hg⟩
  refine codeAny_mono ((F _ hKb (nsK hns)).run callerA [] s₁ H ⟨[.ref a],[]⟩ [.ref a] [.ref a] _ _ hr e0 (hbind s₁ (.ref a)) (.cons rfl .nil) (hsp H hO hS)) fun r s' h => ?_
  cases r with
  | error e=>exact (hCX H e s' h).elim
  | ok fl =>
   cases fl with
   | next=>exact False.elim h
   | brk=>exact False.elim h
   | cont=>exact False.elim h
   | ret u =>
    obtain ⟨v,H',os,bare,un,hok',r',q⟩:=h
    have q':v=.bl true:=q
    subst q'
    obtain rfl:u=Value.bool true:=r'
    refine ⟨rfl,OldK.of_keep fun b o e => ?_,os,bare⟩
    cases q:H b with
    | none=>exact un.keep b o e q (by intro z;exact absurd (show b∈([]:List Addr) from z) (by simp)) (by simp)
    | some u =>
     rcases hO b with z | ⟨ob,xs,z⟩
     ·rw [q] at z;cases z
     ·have z2:=un.frzs b ob _ z
      obtain ⟨e1,_⟩:=hok b _ z
      obtain ⟨e2,_⟩:=hok' b _ z2
      rw [e] at e1;cases e1
      exact e2
 cases hk:K.lookup a with
 | some o =>
  have e:=KX a o hk
  rw [ha] at e
  cases e
  refine core (fun _=>none) (fun _=>.inl rfl) (.inr ⟨_,vs.toArray,_,hk,rfl,rfl,rfl,by rw [List.size_toArray,lenV];exact hl,by simpa using rv⟩) (fun b u z=>by have z':(none:Option HO)=some u:=z;cases z') (fun b z=>absurd rfl z) fun z=>absurd rfl z
 | none =>
  refine core (fun b=>if b=a then some (.frz { cls:=.type "list",data:=.seq vs.toArray } (.lst (ns.map V.int))) else none) (fun b => ?_) (.inl (.inr ⟨{ cls:=.type "list",data:=.seq vs.toArray },if_pos rfl⟩)) (fun b u z => ?_) (fun b z => ?_) fun _=>hk
  ·by_cases hb:b=a
   ·exact .inr ⟨_,_,if_pos hb⟩
   ·exact .inl (if_neg hb)
  ·by_cases hb:b=a
   ·have z':=(if_pos hb).symm.trans z
    cases z'
    subst hb
    exact ⟨ha,by rw [List.length_map];exact hl,vs,_,rv,ha⟩
   ·have z':=(if_neg hb).symm.trans z
    cases z'
  ·by_cases hb:b=a
   ·exact hb
   ·exact absurd (if_neg hb) z
end L2
namespace L2
open PySem PySem.Spec PyProof.Rows
abbrev KOf {K:PySem.W.Frag} {h:Heap} (_:K.In h):PySem.W.Frag:=K
end L2
/- THE LAST THEOREM (shape;LID,My.* are yours):
   My.Adr: a structure of the addresses that your layer names (classes,functions);My.Txt K t: a structure (Prop) of the equations over K;
   My.txt_mk:{K} {implicit addresses ..} (e1:nsIn K mainGlobals "law"=some (some (.ref f))) (e2:K.lookup f=some ⟨oc,od,.func (fnOf "law" "law" params body scope dV kV doc pm an cdv ct),sl⟩) (e3:codeIn K cdv "law"=true) .. : ∃ t,My.Txt K t
set_option maxHeartbeats 0 in
theorem PySem.Challenge.cw_LID_holds : PySem.Challenge.rw_LID.Holds := by
 w_on;o_law;k_head;(case hw=>w_witness2)
 k_fill
 refine L2.walk_of (l:=PySem.Challenge.rw_LID) (n:=63) (k:=40) (x:="script") (CX:=fun w=>..) (sp:=fun _=>My.sp_law) rfl ↥1 rfl ⟨rfl,by decide,by decide⟩ (fun w h Y=>PySem.W.kIn_of Y) ?F ?S ?C
 case F =>
  intro w mg fa h KX G hmg
  have T:∃ t,My.Txt (L2.KOf KX) t:=by
   dsimp only [L2.KOf]                          -- K must Hs as «<heap const> w.params» for k_is
   refine' My.txt_mk ?e1 ?e2 ?e3 ..
   (case e1=>PySem.W.k_is)                    -- in the order: a name->its address->its object->its parts
   (case e2=>PySem.W.k_is)
   ..
  obtain ⟨t,T⟩:=T
  have e0:=hmg.symm.trans (PySem.W.mg_of KX G T.law)
  cases e0                                       -- fa is the law's own address
  exact ⟨_,fun s u=>.of_eq rfl,fun base kb nb=>My.law_fn T kb nb⟩     -- if «.of_eq rfl» comes too early: refine' ⟨_,?b,fun base kb nb=>My.law_fn T kb nb⟩;exact fun s u=>.of_eq rfl
 case S=>exact fun w H a ns hl hO hS=>..
 case C=>exact ..
(the tactic k_is has no namespace: write k_is) -/
namespace L2
open PySem PySem.Spec PyProof.Rows
def eJ (s:Stmt):Arguments:=match s with
 | .FunctionDef _ a _ _ _ _ _ _ _ _=>a
 | _=>{ posonlyargs:=[],args:=[],vararg:=none,kwonlyargs:=[],kw_defaults:=[],kwarg:=none,defaults:=[] }
def ak (s:Stmt):List Stmt:=match s with
 | .FunctionDef _ _ b _ _ _ _ _ _ _=>b
 | _=>[]
def ae (s:Stmt):Scope:=match s with
 | .FunctionDef _ _ _ _ _ _ sc _ _ _=>sc
 | _=>{ kind:=.function,names:=[],isGenerator:=false,isCoroutine:=false }
abbrev CX0:CXT:=fun _ _ _ _ _ _=>False
abbrev E0:XK:=fun _ _ _=>False
theorem Le {X:Cx}:Passes CX0 X E0:=fun _ _ _ _ _ _ _ h=>h.elim
structure Fun (K:PySem.W.Frag) (x qual:Str) (st:Stmt) (f:Addr) (fd:FuncData):Prop where
 ex:∃ (oc:Value) (od:Option Addr) (kV doc pm:Value) (an:Option Addr) (cdv ct:Value) (osl:Array (Option Value)),
  fd=PySem.W.fnOf x qual (eJ st) (ak st) (ae st) .none kV doc pm an cdv ct/\K.lookup f=some ⟨oc,od,.func fd,osl⟩/\PySem.W.codeIn K cdv qual=true
 kp:PySem.W.keepIn K (.ref f)=true
section
variable {P:Program} {w:World} {K:PySem.W.Frag} {mg:Str->Option Value} {base:Heap}
theorem Fun.ok {x qual:Str} {st:Stmt} {f:Addr} {fd:FuncData} {N ps:List Str} {k:Nat} {sp:Sp} (F:Fun K x qual st f fd) (S:FnScope N ps (ae st)) (len:∀ vs H Q E,sp vs H Q E->vs.length=ps.length)
  (hbody:∀ (cdv:Value) (A:Around) (outer:List Env) (s:Shared) (H:Hp) (vs:List V) (Q:VK) (E:XK),Room k (A.deeper (envOfC qual (ae st) s.heap.objs.size f cdv))->sp vs H Q E ->
   ∃ t,PSs (zb CX0 P w K mg base N qual (ae st) f cdv A outer s H E).nox (ak st) t/\t { nx:=fun _ H'=>Q .non H',rt:=Q } (start N vs) H):FnOk P w K mg base CX0 (k+1) f fd ps sp:=by
 obtain ⟨oc,od,kV,doc,pm,an,cdv,ct,osl,rfl,lk,hcd⟩:=F.ex
 refine Jy lk hcd S len fun A outer s H vs Q E hr hsp => ?_
 obtain ⟨t,h,q⟩:=hbody cdv A outer s H vs Q E hr hsp
 exact ⟨t,h.nox,q⟩
theorem Fun.binds {x qual:Str} {st:Stmt} {f:Addr} {fd:FuncData} {ps:List Str} (F:Fun K x qual st f fd)
  (h:∀ (kV doc pm:Value) (an:Option Addr) (cdv ct:Value) (us:List Value),us.length=ps.length->bindArgs ↥2 ⟨us,[]⟩=pure (ps.zip us)):Binds K fd ps []:=by
 obtain ⟨oc,od,kV,doc,pm,an,cdv,ct,osl,rfl,lk,hcd⟩:=F.ex
 exact .all (h kV doc pm an cdv ct)
theorem m9 {x qual:Str} {st:Stmt} {f:Addr} {oc:Value} {od an:Option Addr} {osl:Array (Option Value)} {kV doc pm cdv ct:Value} (l:K.lookup f=some ⟨oc,od,.func ↥2,osl⟩)
  (c:PySem.W.codeIn K cdv qual=true) (k:PySem.W.keepIn K (.ref f)=true):Fun K x qual st f ↥2:=⟨⟨oc,od,kV,doc,pm,an,cdv,ct,osl,rfl,l,c⟩,k⟩
end
theorem lr {n:Nat} (h:n<=1000):n<sizeLine:=Nat.lt_of_le_of_lt h ↥1
section
variable {X:Cx}
end
theorem Fy {A B:Prop} (h:B):if false=true then A else B:=by
 rw [if_neg Bool.false_ne_true]
 exact h
theorem Fx {A B:Prop} (h:A):if true=true then A else B:=by
 rw [if_pos rfl]
 exact h
def aC (H H':Hp):Prop:=∀ b o,H b=some o->H' b=some o
theorem aC.refl (H:Hp):aC H H:=fun _ _ h=>h
theorem aC.trans {H H1 H2:Hp} (a:aC H H1) (b:aC H1 H2):aC H H2:=fun c o h=>b c o (a c o h)
theorem aC.seq {K:PySem.W.Frag} {H H':Hp} {a:Addr} {xs:List V} (e:aC H H') (h:SqL K H a xs):SqL K H' a xs:=by
 rcases h with (h | ⟨o,h⟩) | h
 ·exact .inl (.inl (e _ _ h))
 ·exact .inl (.inr ⟨o,e _ _ h⟩)
 ·exact .inr h
end L2
namespace EV
open PySem (Str)
inductive D where
 | non | bl (b:Bool) | int (i:Int) | str (x:Str) | tup (ds:List D) | lst (ds:List D) | own (ds:List D)
 | ty (n:String) | cls (n:String) | exc (n:String) | ins (n:String) (fs:List (String×D))
noncomputable instance:Inhabited D:=⟨.non⟩
inductive R (α:Type) where
 | ok (a:α) | ex (C:String) | bad
namespace R
def bind {α β:Type}:R α->(α->R β)->R β
 | .ok a,f=>f a
 | .ex C,_=>.ex C
 | .bad,_=>.bad
end R
abbrev Dt:=List (Option D)
abbrev E:=Dt->R D
inductive O where
 | nx (δ:Dt) | rt (d:D) | bk (δ:Dt) | ct (δ:Dt) | ex (C:String) (δ:Dt) | mk (C:String) (δ:Dt) | hx (C:String) (δ:Dt) | bad
abbrev S:=Dt->O
def pw (k:Int):Int:=2^k.toNat
def nb (i:Int):Nat:=if i=0 then 0 else i.natAbs.log2+1
def MulOk (i j:Int):Prop:=nb i+nb j<=134217728
def ir (i j:Int):Prop:=0<j/\(nb j<=9000\/nb i<=nb j+4000)
noncomputable instance {i j:Int}:Decidable (MulOk i j):=inferInstanceAs (Decidable (_<=_))
noncomputable instance {i j:Int}:Decidable (ir i j):=inferInstanceAs (Decidable (_/\_))
def bF:D->D->R D
 | .int i,.int j=>.ok (.int (i+j))
 | .str x,.str y=>if x.cps.size+y.cps.size<=1000000 then .ok (.str ⟨x.cps++y.cps⟩) else .bad
 | .lst xs,.lst ys=>if xs.length+ys.length<=100000 then .ok (.lst (xs++ys)) else .bad
 | .tup xs,.tup ys=>if xs≠[]/\xs.length+ys.length<=100000 then .ok (.tup (xs++ys)) else .bad
 | _,_=>.bad
def cN:D->D->R D
 | .int i,.int j=>.ok (.int (i - j))
 | _,_=>.bad
def fk:D->D->R D
 | .int i,.int j=>if MulOk i j then .ok (.int (i*j)) else .bad
 | _,_=>.bad
def oDiv:D->D->R D
 | .int i,.int j=>if ir i j then .ok (.int (i / j)) else .bad
 | _,_=>.bad
def oMod:D->D->R D
 | .int i,.int j=>if 0<j then .ok (.int (i%j)) else .bad
 | _,_=>.bad
def cm:D->D->R D
 | .int i,.int j=>if 0<=j/\(nb i:Int)+j<=134217728 then .ok (.int (i*pw j)) else .bad
 | _,_=>.bad
def A6:D->D->R D
 | .int i,.int j=>if 0<=j then .ok (.int (i / pw j)) else .bad
 | _,_=>.bad
def qo:D->D->R D
 | .int i,.int j=>if 0<=i/\0<=j then .ok (.int ((i.toNat &&& j.toNat:Nat):Int)) else .bad
 | _,_=>.bad
def Bm:D->D->R D
 | .int i,.int j=>if 0<=i/\0<=j then .ok (.int ((i.toNat ||| j.toNat:Nat):Int)) else .bad
 | _,_=>.bad
def f9:D->D->R D
 | .int i,.int j=>if 0<=i/\0<=j then .ok (.int ((i.toNat ^^^ j.toNat:Nat):Int)) else .bad
 | _,_=>.bad
def IJ:D->R D
 | .int i=>.ok (.int (-i))
 | _=>.bad
def oLt:D->D->R D
 | .int i,.int j=>.ok (.bl (decide (i<j)))
 | _,_=>.bad
def oLe:D->D->R D
 | .int i,.int j=>.ok (.bl (decide (i<=j)))
 | _,_=>.bad
def oGt:D->D->R D
 | .int i,.int j=>.ok (.bl (decide (j<i)))
 | _,_=>.bad
def oGe:D->D->R D
 | .int i,.int j=>.ok (.bl (decide (j<=i)))
 | _,_=>.bad
mutual
def D.beq:D->D->Bool
 | .non,.non=>true
 | .bl a,.bl b=>a == b
 | .bl a,.int b=>(if a then 1 else 0) == b
 | .int a,.bl b=>a == (if b then 1 else 0)
 | .int a,.int b=>a == b
 | .str a,.str b=>a == b
 | .tup a,.tup b=>D.beqs a b
 | .lst a,.lst b=>D.beqs a b
 | _,_=>false
def D.beqs:List D->List D->Bool
 | [],[]=>true
 | a::as,b::bs=>D.beq a b&&D.beqs as bs
 | _,_=>false
end
def D.sc:D->Bool
 | .non=>true | .bl _=>true | .int _=>true | .str _=>true
 | _=>false
def D.pl:Nat->D->Bool
 | _,.non=>true
 | _,.bl _=>true
 | _,.int _=>true
 | _,.str x=>x.cps.all (· < 0x110000)
 | n+1,.tup ds=>ds.all (D.pl n)
 | n+1,.lst ds=>ds.all (D.pl n)
 | _,_=>false
def D.cmp (a b:D):Bool:=(a.sc&&b.sc)||(D.pl 8 a&&D.pl 8 b)
def oEq (a b:D):R D:=if D.cmp a b then .ok (.bl (D.beq a b)) else .bad
def oNe (a b:D):R D:=if D.cmp a b then .ok (.bl (!D.beq a b)) else .bad
def sF:D->R D
 | .non=>.ok ↥36
 | _=>.ok (.bl false)
def sD:D->R D
 | .non=>.ok (.bl false)
 | _=>.ok ↥36
def isIn (x:D) (ys:List D):Option Bool:=if x.sc&&ys.all D.sc then some (ys.any fun y=>D.beq y x) else none
def oIn (a b:D):R D:=match a,b with
 | .str x,.str y=>match x.cps.toList with | [c]=>.ok (.bl (decide (c∈y.cps.toList))) | _=>.bad
 | a,.tup ds=>match isIn a ds with | some k=>.ok (.bl k) | none=>.bad
 | a,.lst ds=>match isIn a ds with | some k=>.ok (.bl k) | none=>.bad
 | _,_=>.bad
def iv (a b:D):R D:=(oIn a b).bind fun d=>match d with | .bl k=>.ok (.bl (!k)) | _=>.bad
def ixN (n:Nat) (i:Int):Option Nat:=if 0<=i then (if i<n then some i.toNat else none) else if -(n:Int)<=i then some (i+n).toNat else none
def oIx:D->D->R D
 | .tup ds,.int i=>match (ixN ds.length i).bind fun j=>ds[j]? with | some d=>.ok d | none=>.bad
 | .lst ds,.int i=>match (ixN ds.length i).bind fun j=>ds[j]? with | some d=>.ok d | none=>.bad
 | .str x,.int i=>if x.cps.size<=1000000 then (match (ixN x.cps.toList.length i).bind fun j=>x.cps.toList[j]? with | some c=>.ok (.str ⟨#[c]⟩) | none=>.bad) else .bad
 | _,_=>.bad
def sIx (n d:Nat):Option Int->Nat
 | none=>d
 | some i=>if i<0 then (i+n).toNat else min i.toNat n
def cut {α:Type} (xs:List α) (lo hi:Option Int):List α:=(xs.drop (sIx xs.length 0 lo)).take (sIx xs.length xs.length hi - sIx xs.length 0 lo)
def oSl:D->Option Int->Option Int->R D
 | .tup ds,lo,hi=>if sIx ds.length 0 lo=0/\sIx ds.length ds.length hi=ds.length then .bad else .ok (.tup (cut ds lo hi))
 | .lst ds,lo,hi=>.ok (.lst (cut ds lo hi))
 | _,_,_=>.bad
def var (i:Nat):E:=fun δ=>match δ[i]? with
 | some (some (.own _))=>.bad
 | some (some d)=>.ok d
 | _=>.bad
def con (d:D):E:=fun _=>.ok d
def un (f:D->R D) (a:E):E:=fun δ=>(a δ).bind f
def bin (f:D->D->R D) (a b:E):E:=fun δ=>(a δ).bind fun x=>(b δ).bind fun y=>f x y
def truth {β:Type} (d:D) (t f:R β):R β:=match d with
 | .bl true=>t
 | .bl false=>f
 | _=>.bad
def tO (a b:E):E:=fun δ=>(a δ).bind fun d=>truth d (b δ) (.ok (.bl false))
def or_ (a b:E):E:=fun δ=>(a δ).bind fun d=>truth d (.ok ↥36) (b δ)
def ya (a:E):E:=fun δ=>(a δ).bind fun d=>truth d (.ok (.bl false)) (.ok ↥36)
def ife (c a b:E):E:=fun δ=>(c δ).bind fun d=>truth d (a δ) (b δ)
def chain (f g:D->D->R D) (a b c:E):E:=fun δ=>(a δ).bind fun x=>(b δ).bind fun y=>(f x y).bind fun d=>truth d ((c δ).bind fun z=>g y z) (.ok (.bl false))
def evs:List E->Dt->R (List D)
 | [],_=>.ok []
 | e::es,δ=>(e δ).bind fun d=>(evs es δ).bind fun ds=>.ok (d::ds)
def df (es:List E):E:=fun δ=>(evs es δ).bind fun ds=>.ok (.tup ds)
def vM (es:List E):E:=fun δ=>(evs es δ).bind fun ds=>.ok (.lst ds)
def call (f:List D->R D) (es:List E):E:=fun δ=>(evs es δ).bind f
def part:Option E->Dt->R (Option Int)
 | none,_=>.ok none
 | some e,δ=>(e δ).bind fun d=>match d with | .int i=>.ok (some i) | _=>.bad
def slc (a:E) (lo hi:Option E):E:=fun δ=>(a δ).bind fun d=>(part lo δ).bind fun l=>(part hi δ).bind fun h=>oSl d l h
/- data without a list -/
mutual
def D.flat:D->Bool
 | .lst _=>false
 | .own _=>false
 | .tup ds=>D.flats ds
 | .ins _ fs=>D.flatf fs
 | _=>true
def D.flats:List D->Bool
 | []=>true
 | d::r=>D.flat d&&D.flats r
def D.flatf:List (String×D)->Bool
 | []=>true
 | (_,d)::r=>D.flat d&&D.flatf r
end
abbrev IT:=Dt->R (List D)
def HH (lo hi:Int):List D:=(List.range (hi - lo).toNat).map fun (k:Nat)=>D.int (lo+k)
def asL:D->R (List D)
 | .lst ds=>.ok ds
 | _=>.bad
def asT:D->R (List D)
 | .tup ds=>.ok ds
 | _=>.bad
def asA:D->R (List D)
 | .lst ds=>.ok ds
 | .tup ds=>.ok ds
 | _=>.bad
def Ke:D->R (List D)
 | .int hi=>if -(2^62)<=hi/\hi<2^62 then .ok (HH 0 hi) else .bad
 | _=>.bad
def Kd:List D->R (List D)
 | [.int lo,.int hi]=>if -(2^62)<=lo/\lo<2^62 /\ -(2^62)<=hi/\hi<2^62 then .ok (HH lo hi) else .bad
 | _=>.bad
def zQ (lo hi c:Int):List D:=(List.range (if lo<hi then (hi - lo - 1) / c+1 else 0).toNat).map fun (k:Nat)=>D.int (lo+k*c)
def JV:List D->R (List D)
 | [.int lo,.int hi,.int c]=>if (-(2^40)<=lo/\lo<2^40 /\ -(2^40)<=hi/\hi<2^40)/\0<c/\c<2^20 then .ok (zQ lo hi c) else .bad
 | _=>.bad
def itL (g:E):IT:=fun δ=>(g δ).bind asL
def itT (g:E):IT:=fun δ=>(g δ).bind asT
def itA (g:E):IT:=fun δ=>(g δ).bind asA
def Q6 (g:E):IT:=fun δ=>(g δ).bind Ke
def Q5 (a b:E):IT:=fun δ=>(evs [a,b] δ).bind Kd
def LB (a b c:E):IT:=fun δ=>(evs [a,b,c] δ).bind JV
def mC {α:Type} (r:R α):R α:=match r with
 | .ex _=>.bad
 | r=>r
def inC (ks:List Nat) (δ:Dt) (x:D):Dt:=some x::ks.map fun k=>δ.getD k none
def eI (rs:List D):R D:=if D.flats rs then .ok (.lst rs) else .bad
def runC (st:D->R (Option D)):List D->R (List D)
 | []=>.ok []
 | d::ds=>(st d).bind fun o=>(runC st ds).bind fun rs=>.ok (match o with | some r=>r::rs | none=>rs)
def stC (c elt:E) (ks:List Nat) (δ:Dt) (x:D):R (Option D):=(mC (c (inC ks δ x))).bind fun d=>truth d ((mC (elt (inC ks δ x))).bind fun r=>.ok (some r)) (.ok none)
def gx (it:IT) (ks:List Nat) (c elt:E):E:=fun δ=>(it δ).bind fun ds=>if ds.length<=100000 then (runC (stC c elt ks δ) ds).bind eI else .bad
def comp (it:IT) (ks:List Nat) (elt:E):E:=gx it ks (con ↥36) elt
def wj (cn f:String):D->R D
 | .ins n fs=>if n == cn then (match fs.lookup f with | some d=>.ok d | none=>.bad) else .bad
 | _=>.bad
def fc (cn m:String):D->Bool
 | .ins n fs=>n == cn&&(fs.lookup m).isNone
 | _=>false
def Gx (cn m:String) (F:List D->R D) (o:E) (es:List E):E:=fun δ=>(o δ).bind fun d=>if fc cn m d then (evs es δ).bind fun ds=>F (d::ds) else .bad
def mk1 (cn f:String):List D->R D
 | [d]=>.ok (.ins cn [(f,d)])
 | _=>.bad
def zS:List D->R D
 | [.lst ds]=>.ok (.int ds.length)
 | [.tup ds]=>.ok (.int ds.length)
 | [.str x]=>if x.cps.size<=1000000 then .ok (.int x.cps.size) else .bad
 | _=>.bad
def GA:List D->R D
 | [.int i]=>.ok (.int (if i<0 then -i else i))
 | _=>.bad
def uL:List D->R D
 | [.int i,.int j]=>.ok (.int (if j>i then j else i))
 | _=>.bad
def B9:List D->R D
 | [.int i,.int j]=>.ok (.int (if j<i then j else i))
 | _=>.bad
def O2:List D->R D
 | [.int i]=>.ok (.int i)
 | [.bl k]=>.ok (.int (if k then 1 else 0))
 | _=>.bad
def JR:List D->R D
 | [.lst ds]=>.ok (.lst ds)
 | [.tup ds]=>.ok (.lst ds)
 | _=>.bad
def intsOf:List D->Option (List Int)
 | []=>some []
 | .int i::r=>(intsOf r).map (i::·)
 | _=>none
def gz:List D->R D
 | [.int i]=>.ok (.int (nb i))
 | _=>.bad
def av:List String:=["MillError","NoSize","NoBits","NoParts","NoRank","NotFinite","NoWay","NoFlags","NoFraction","Unlike","Empty","NoLeft","NoText","NoRow","NoName","Stopped"]
def BM (C B:String):Bool:=av.contains C&&(C == B||B == "MillError")
def tyR (n:String) (b:Bool):R D:=if ["int","bool","str","tuple","list","ValueError"].contains n then .ok (.bl b) else .bad
def Q8 (B:String):D->R D
 | .exc C=>if av.contains C&&av.contains B then .ok (.bl (C == B||B == "MillError")) else .bad
 | .non=>if av.contains B then .ok (.bl false) else .bad
 | _=>.bad
def Q7 (n:String):D->R D
 | .exc C=>if av.contains C&&n == "ValueError" then .ok ↥36 else .bad
 | .non=>tyR n false
 | .bl _=>tyR n (n == "int"||n == "bool")
 | .int _=>tyR n (n == "int")
 | .str _=>tyR n (n == "str")
 | .tup _=>tyR n (n == "tuple")
 | .lst _=>tyR n (n == "list")
 | _=>.bad
def mS:List D->R D
 | [d,.cls B]=>Q8 B d
 | [d,.ty n]=>Q7 n d
 | _=>.bad
theorem fI (h:(if c=true then R.ok (D.bl x) else .bad)=.ok (.bl k)):c=true/\x=k:=by
 cases c with
 | true=>cases h;exact ⟨rfl,rfl⟩
 | false=>cases h
theorem Jp (e:r=if b=true then R.ok (D.bl x) else .bad):(∃ d' c' k,[d,c]=[d',c']/\r=.ok (.bl k))\/r=.bad:=by
 subst e
 cases b with
 | true=>exact .inl ⟨_,_,_,rfl,rfl⟩
 | false=>exact .inr rfl
def m8 (d:D):List D->R D
 | []=>.ok (.bl false)
 | c::r=>(mS [d,c]).bind fun x=>truth x (.ok ↥36) (m8 d r)
def LZ:List D->R D
 | [d,.tup cs]=>m8 d cs
 | _=>.bad
def noOwn (δ:Dt):Dt:=δ.map fun c=>match c with | some (.own _)=>none | c=>c
def view (δ:Dt):Dt:=δ.map fun c=>match c with | some (.own ds)=>some (.lst ds) | c=>c
def az:S:=.nx
def asg (i:Nat) (δ:Dt) (r:R D):O:=match r with
 | .ok d=>.nx (δ.set i (some d))
 | .ex C=>.ex C (noOwn δ)
 | .bad=>.bad
def xpr (δ:Dt) (r:R D):O:=match r with
 | .ok _=>.nx δ
 | .ex C=>.ex C (noOwn δ)
 | .bad=>.bad
def rtn (δ:Dt) (r:R D):O:=match r with
 | .ok d=>.rt d
 | .ex C=>.ex C (noOwn δ)
 | .bad=>.bad
def ifO (δ:Dt) (r:R D) (a b:O):O:=match r with
 | .ok ↥36=>a
 | .ok (.bl false)=>b
 | .ex C=>.ex C (noOwn δ)
 | _=>.bad
def assign (i:Nat) (g:E):S:=fun δ=>asg i δ (g δ)
def expr (g:E):S:=fun δ=>xpr δ (g δ)
def ret (g:E):S:=fun δ=>rtn δ (g δ)
def Pz:S:=fun _=>.rt .non
def Py (g:E):S:=fun δ=>rtn δ (g (view δ))
def Im (i:Nat):S:=fun δ=>.nx (δ.set i (some (.own [])))
def kC (i:Nat) (δ:Dt) (f:List D->O):O:=match δ[i]? with
 | some (some (.own ds))=>f ds
 | _=>.bad
def JW (i:Nat) (δ:Dt) (ds:List D) (r:R D):O:=match r with
 | .ok d=>if D.flat d=true/\ds.length<100000 then .nx (δ.set i (some (.own (ds++[d])))) else .bad
 | .ex C=>.ex C (noOwn δ)
 | .bad=>.bad
def Io (i:Nat) (g:E):S:=fun δ=>kC i δ fun ds=>JW i δ ds (g (view δ))
def Il (i:Nat):S:=fun δ=>kC i δ fun ds=>.nx (δ.set i (some (.own ds.reverse)))
def L7 (i:Nat) (δ:Dt) (r:R D):O:=match r with
 | .ok d=>if D.flat d=true then .nx (δ.set i (some d)) else .bad
 | .ex C=>.ex C (noOwn δ)
 | .bad=>.bad
def Gk (i:Nat) (g:E):S:=fun δ=>L7 i δ (g (view δ))
def LC (c:E) (a b:S):S:=fun δ=>ifO δ (c (view δ)) (a δ) (b δ)
def zP (i:Nat) (δ:Dt) (r:R D):O:=match r with
 | .ok (.lst rs)=>.nx (δ.set i (some (.own rs)))
 | .ex C=>.ex C (noOwn δ)
 | _=>.bad
def eH (i:Nat) (g:E):S:=fun δ=>zP i δ (g (view δ))
def oJ (i:Nat) (g:E):S:=fun δ=>zP i δ (g δ)
def J9 (i:Nat) (δ:Dt) (ds:List D) (v k:R D):O:=match v,k with
 | .ok d,.ok (.int k)=>if D.flat d=true/\0<=k/\k<ds.length then .nx (δ.set i (some (.own (ds.set k.toNat d)))) else .bad
 | _,_=>.bad
def Ik (i:Nat) (gk gv:E):S:=fun δ=>kC i δ fun ds=>J9 i δ ds (gv (view δ)) (gk (view δ))
def pub (i:Nat) (δ:Dt):Dt:=match δ[i]? with
 | some (some (.own ds))=>δ.set i (some (.lst ds))
 | _=>δ
def Cv (i:Nat) (s:S):S:=fun δ=>s (pub i δ)
def ifs (c:E) (a b:S):S:=fun δ=>ifO δ (c δ) (a δ) (b δ)
def O.then (o:O) (s:S):O:=match o with
 | .nx δ=>s δ
 | o=>o
def seq (a b:S):S:=fun δ=>(a δ).then b
def brk:S:=.bk
def cont:S:=.ct
def raise (C:String):S:=.mk C
def trn (o:O) (k:S):O:=match o with
 | .nx δ1=>k δ1
 | .ct δ1=>k δ1
 | .bk δ1=>.nx δ1
 | o=>o
def forL (i:Nat) (body:S):List D->S
 | [],δ=>.nx δ
 | d::ds,δ=>trn (body (δ.set i (some d))) (forL i body ds)
def ovL (δ:Dt) (r:R D) (k:List D->O):O:=match r with
 | .ok (.lst ds)=>k ds
 | .ex C=>.ex C (noOwn δ)
 | _=>.bad
def ovT (δ:Dt) (r:R D) (k:List D->O):O:=match r with
 | .ok (.tup ds)=>k ds
 | .ex C=>.ex C (noOwn δ)
 | _=>.bad
def LJ (i:Nat) (g:E) (body:S):S:=fun δ=>ovL δ (g δ) fun ds=>forL i body ds δ
def LI (i:Nat) (g:E) (body:S):S:=fun δ=>ovT δ (g δ) fun ds=>forL i body ds δ
def ovI (δ:Dt) (r:R (List D)) (k:List D->O):O:=match r with
 | .ok ds=>k ds
 | .ex C=>.ex C (noOwn δ)
 | .bad=>.bad
def Gy (i:Nat) (it:IT) (body:S):S:=fun δ=>ovI δ (it δ) fun ds=>forL i body ds δ
def ovR (δ:Dt) (r:R D) (k:List D->O):O:=match r with
 | .ok (.int hi)=>if -(2^62)<=hi/\hi<2^62 then k (HH 0 hi) else .bad
 | .ex C=>.ex C (noOwn δ)
 | _=>.bad
def LK (i:Nat) (b:E) (body:S):S:=fun δ=>ovR δ (b δ) fun ds=>forL i body ds δ
def forget (i:Nat) (o:O):O:=match o with
 | .nx δ=>.nx (δ.set i none)
 | _=>.bad
def DJ (o:O) (B:String) (i:Nat) (suite:S):O:=match o with
 | .nx δ1=>.nx δ1
 | .ex C δ1=>if BM C B then forget i (suite ((noOwn δ1).set i (some (.exc C)))) else .bad
 | _=>.bad
def Pa (body:S) (B:String) (i:Nat) (suite:S):S:=fun δ=>DJ (body δ) B i suite
def bG (c:E) (body:S):Nat->S
 | 0,_=>.bad
 | n+1,δ=>match c δ with
  | .ok ↥36=>trn (body δ) (bG c body n)
  | .ok (.bl false)=>.nx δ
  | _=>.bad
open Classical in
def jU (c:E) (body:S):S:=fun δ=>if h:∃ n,bG c body n δ ≠ .bad then bG c body h.choose δ else .bad
def O.res:O->R D
 | .rt d=>.ok d
 | .nx _=>.ok .non
 | .ex C _=>.ex C
 | .mk C _=>.ex C
 | .hx C _=>.ex C
 | _=>.bad
def start (n m:Nat) (ds:List D):Dt:=ds.map some++List.replicate (m - n) none
def Good (f:List D->R D):Prop:=∀ ns:List Int,ns.length<=63->(∀ m∈ns,nb m<=2^20)->f [.lst (ns.map .int)]=.ok ↥36
def fn (n m:Nat) (body:S):List D->R D:=fun ds=>if ds.length=n then (body (start n m ds)).res else .bad
end EV
namespace ES
open PySem PySem.Spec PyProof.Rows L2 EV
def Rn (a C:Addr):HO:=.ext fun h=>∃ o vs,h.get? a=some o/\o.cls=.ref C/\o.data=.fields vs
mutual
inductive Rep (K:PySem.W.Frag) (mg:Str->Option Value) (H:Hp):V->D->Prop
 | non:Rep K mg H .non .non
 | bl (b:Bool):Rep K mg H (.bl b) (.bl b)
 | int (i:Int):Rep K mg H (.int i) (.int i)
 | str (x:Str):Rep K mg H (.str x) (.str x)
 | tup {a:Addr} {xs:List V} {ds:List D}:SqT K H a xs->Reps K mg H xs ds->Rep K mg H (.ref a) (.tup ds)
 | lst {a:Addr} {xs:List V} {ds:List D}:SqL K H a xs->Reps K mg H xs ds->Rep K mg H (.ref a) (.lst ds)
 | ty (n:String):Rep K mg H (.ty n) (.ty n)
 | cls {a:Addr} {n:String}:mg n=some (.ref a)->Rep K mg H (.ref a) (.cls n)
 | exc {a C:Addr} {n:String}:mg n=some (.ref C)->H a=some (Rn a C)->Rep K mg H (.ref a) (.exc n)
 | ins {a C dx:Addr} {n:String} {fs:List (Str×V)} {ds:List (String×D)}:mg n=some (.ref C)->H a=some (.ins C dx fs)->Repf K mg H fs ds->Rep K mg H (.ref a) (.ins n ds)
inductive Reps (K:PySem.W.Frag) (mg:Str->Option Value) (H:Hp):List V->List D->Prop
 | nil:Reps K mg H [] []
 | cons {v:V} {d:D} {vs:List V} {ds:List D}:Rep K mg H v d->Reps K mg H vs ds->Reps K mg H (v::vs) (d::ds)
inductive Repf (K:PySem.W.Frag) (mg:Str->Option Value) (H:Hp):List (Str×V)->List (String×D)->Prop
 | nil:Repf K mg H [] []
 | cons {x:String} {v:V} {d:D} {vs:List (Str×V)} {ds:List (String×D)}:Rep K mg H v d->Repf K mg H vs ds->Repf K mg H (((x:Str),v)::vs) ((x,d)::ds)
end
theorem gh {K:PySem.W.Frag} {H H':Hp} {a:Addr} {xs:List V} (e:aC H H') (h:SqT K H a xs):SqT K H' a xs:=by
 rcases h with (h | ⟨o,h⟩) | h
 ·exact .inl (.inl (e _ _ h))
 ·exact .inl (.inr ⟨o,e _ _ h⟩)
 ·exact .inr h
section
variable {K:PySem.W.Frag} {mg:Str->Option Value} {H H':Hp}
mutual
theorem Rep.mono (s:aC H H'):∀ {v:V} {d:D},Rep K mg H v d->Rep K mg H' v d
 | _,_,.non=>.non
 | _,_,.bl b=>.bl b
 | _,_,.int i=>.int i
 | _,_,.str x=>.str x
 | _,_,.tup h r=>.tup (gh s h) (Reps.mono s r)
 | _,_,.lst h r=>.lst (s.seq h) (Reps.mono s r)
 | _,_,.ty n=>.ty n
 | _,_,.cls h=>.cls h
 | _,_,.exc h e=>.exc h (s _ _ e)
 | _,_,.ins h e r=>.ins h (s _ _ e) (Repf.mono s r)
theorem Reps.mono (s:aC H H'):∀ {vs:List V} {ds:List D},Reps K mg H vs ds->Reps K mg H' vs ds
 | _,_,.nil=>.nil
 | _,_,.cons r t=>.cons (Rep.mono s r) (Reps.mono s t)
theorem Repf.mono (s:aC H H'):∀ {vs:List (Str×V)} {ds:List (String×D)},Repf K mg H vs ds->Repf K mg H' vs ds
 | _,_,.nil=>.nil
 | _,_,.cons r t=>.cons (Rep.mono s r) (Repf.mono s t)
end
theorem Reps.length:∀ {vs:List V} {ds:List D},Reps K mg H vs ds->vs.length=ds.length
 | _,_,.nil=>rfl
 | _,_,.cons _ t=>congrArg (· + 1) (Reps.length t)
theorem Reps.get:∀ {vs:List V} {ds:List D} {i:Nat} {d:D},Reps K mg H vs ds->ds[i]? = some d->∃ v,vs[i]? = some v/\Rep K mg H v d
 | _,_,_,_,.nil,e=>by simp at e
 | _,_,0,_,.cons r _,e=>by simp at e;subst e;exact ⟨_,rfl,r⟩
 | _,_,i+1,d,.cons _ t,e=>by
  obtain ⟨v,h1,h2⟩:=Reps.get (i:=i) (d:=d) t (by simpa using e)
  exact ⟨v,by simpa using h1,h2⟩
theorem Reps.append:∀ {vs ws:List V} {ds es:List D},Reps K mg H vs ds->Reps K mg H ws es->Reps K mg H (vs++ws) (ds++es)
 | _,_,_,_,.nil,s=>s
 | _,_,_,_,.cons r t,s=>.cons r (Reps.append t s)
theorem Reps.ints (ns:List Int):Reps K mg H (ns.map V.int) (ns.map D.int):=by
 induction ns with
 | nil=>exact .nil
 | cons n r ih=>exact .cons (.int n) ih
theorem lM {x y:String} (h:(Str.ofString x)=Str.ofString y):x=y:=by
 rw [Str.ofString_eq_toList,Str.ofString_eq_toList] at h
 have h1:(x.toList.map Char.toNat).toArray=(y.toList.map Char.toNat).toArray:=congrArg Str.cps h
 have h2:x.toList.map Char.toNat=y.toList.map Char.toNat:=by simpa using h1
 have h3:∀ (l m:List Char),l.map Char.toNat=m.map Char.toNat->l=m:=by
  intro l
  induction l with
  | nil=>intro m e;cases m with | nil=>rfl | cons _ _=>cases e
  | cons c r ih =>
   intro m e
   cases m with
   | nil=>cases e
   | cons c' r' =>
    rw [List.map_cons,List.map_cons,List.cons.injEq] at e
    rw [Char.ext (UInt32.toNat_inj.mp e.1),ih r' e.2]
 exact String.toList_inj.mp (h3 _ _ h2)
theorem qk (x y:String):((Str.ofString x) == Str.ofString y)=(x == y):=by
 rw [Bool.eq_iff_iff,beq_iff_eq,beq_iff_eq]
 exact ⟨lM,fun e=>by rw [e]⟩
theorem Repf.lookup:∀ {fs:List (Str×V)} {ds:List (String×D)} {x:String} {d:D},Repf K mg H fs ds->ds.lookup x=some d->∃ v,fs.lookup (x:Str)=some v/\Rep K mg H v d
 | _,_,_,_,.nil,e=>by cases e
 | (_,v)::fs,(y,d')::ds,x,d,.cons r t,e=>by
  rw [List.lookup_cons] at e ⊢
  rw [qk]
  cases q:(x == y) with
  | true =>
   rw [q] at e
   have e':d'=d:=by simpa using e
   subst e'
   exact ⟨v,rfl,r⟩
  | false=>rw [q] at e;exact Repf.lookup t e
theorem Repf.lookupN:∀ {fs:List (Str×V)} {ds:List (String×D)} {x:String},Repf K mg H fs ds->ds.lookup x=none->fs.lookup (x:Str)=none
 | _,_,_,.nil,e=>rfl
 | (_,v)::fs,(y,d')::ds,x,.cons r t,e=>by
  rw [List.lookup_cons] at e ⊢
  rw [qk]
  cases q:(x == y) with
  | true=>rw [q] at e;cases e
  | false=>rw [q] at e;exact Repf.lookupN t e
end
def Stt (K:PySem.W.Frag) (mg:Str->Option Value) (H:Hp) (σ:L2.St) (δ:Dt):Prop :=
 σ.length=δ.length/\∀ (i:Nat) (d:D),δ[i]? = some (some d)->(∀ ds,d ≠ .own ds)->∃ v,σ[i]? = some (some v)/\Rep K mg H v d
theorem Stt.mono {K:PySem.W.Frag} {mg:Str->Option Value} {H H':Hp} {σ:L2.St} {δ:Dt} (h:Stt K mg H σ δ) (s:aC H H'):Stt K mg H' σ δ :=
 ⟨h.1,fun i d e n=>let ⟨v,a,b⟩:=h.2 i d e n;⟨v,a,b.mono s⟩⟩
theorem Stt.set {K:PySem.W.Frag} {mg:Str->Option Value} {H:Hp} {σ:L2.St} {δ:Dt} {i:Nat} {v:V} {d:D} (h:Stt K mg H σ δ) (r:Rep K mg H v d):Stt K mg H (σ.set i (some v)) (δ.set i (some d)):=by
 refine ⟨by rw [List.length_set,List.length_set];exact h.1,fun j d' e n => ?_⟩
 by_cases hj:j=i
 ·subst hj
  by_cases hl:j<δ.length
  ·rw [List.getElem?_set_self hl] at e
   cases e
   exact ⟨v,by rw [List.getElem?_set_self (by rw [h.1];exact hl)],r⟩
  ·rw [List.getElem?_eq_none (by simp;omega)] at e
   cases e
 ·rw [List.getElem?_set_ne (Ne.symm hj)] at e
  obtain ⟨u,a,b⟩:=h.2 j d' e n
  exact ⟨u,by rw [List.getElem?_set_ne (Ne.symm hj)];exact a,b⟩
structure FlyX (P:Program) (w:World) (outer:List Env) (H:Hp) (s:Shared) (C:Addr) (H':Hp) (ea:Addr) (s':Shared):Prop where
 os:s'.os=s.os
 bare:AllBare s'.gens
 un:Un (frs outer) [] H H' s.heap s'.heap
 hok:HOk P w H' s'.heap
 same:aC H H'
 new:s.heap.get? ea=none
 fly:∃ a0 B,Heap.FlyingW B outer ea (.ref C) a0 s'.heap/\(∀ b o,s.heap.get? b=some o->H b=none->b∉frs outer->B.get? b=some o)/\(∀ b u o,H' b=some u->s'.heap.get? b=some o->B.get? b=some o)
def ew (X:Cx) (C:Addr) (σ:L2.St) (H':Hp):Prop:=∀ pins H s ea s',Inv X pins σ H s->FlyX X.prog X.w X.stack H s C H' ea s'->X.xe (.ref ea) s'
def em (X:Cx) (C:Addr) (σ:L2.St) (H':Hp):Prop:=∀ pins s h' ea vs,Inv X pins σ H' s->Heap.MadeExcOf s.heap h' ea (.ref C) vs->X.xe (.ref ea) { s with heap:=h' }
structure HeldX (X:Cx) (pins:List ↥12) (σ:L2.St) (C:Addr) (H':Hp) (ea:Addr) (s':Shared):Prop where
 inv:Inv X pins σ H' s'
 new:X.s₀.heap.get? ea=none
 fly:∃ a0 B,Heap.HeldW B X.stack ea (.ref C) a0 X.env.locals s'.heap/\(∀ b o,X.s₀.heap.get? b=some o->X.H₀ b=none->b∉X.fs->B.get? b=some o)/\(∀ b u o,H' b=some u->s'.heap.get? b=some o->B.get? b=some o)
def ehx (X:Cx) (C:Addr) (σ:L2.St) (H':Hp):Prop:=∀ pins ea s',HeldX X pins σ C H' ea s'->X.xe (.ref ea) s'
def RQ (X:Cx) (σ:L2.St) (H:Hp) (r:R D) (Q:VK):Prop:=match r with
 | .ok d=>∀ v H',aC H H'->Rep X.K X.mg H' v d->Q v H'
 | .ex C=>∀ Ca,X.mg C=some (.ref Ca)->∀ H',aC H H'->ew X Ca σ H'
 | .bad=>False
def tE (X:Cx) (g:E):TE:=fun σ H Q=>∃ δ,Stt X.K X.mg H σ δ/\RQ X σ H (g δ) Q
@[irreducible] def SE (X:Cx) (e:Expr) (g:E):Prop:=PE X e (tE X g)
def RT (X:Cx) (σ:L2.St) (H:Hp) (r:R D) (Q:Bool->Hp->Prop):Prop:=match r with
 | .ok (.bl b)=>∀ H',aC H H'->Q b H'
 | .ex C=>∀ Ca,X.mg C=some (.ref Ca)->∀ H',aC H H'->ew X Ca σ H'
 | _=>False
def tT (X:Cx) (g:E):TT:=fun σ H Q=>∃ δ,Stt X.K X.mg H σ δ/\RT X σ H (g δ) Q
@[irreducible] def ST (X:Cx) (e:Expr) (g:E):Prop:=PT X e (tT X g)
@[irreducible] def SW (X:Cx) (e:Expr) (g:E):Prop:=PW X e (tT X g)
def RA (X:Cx) (σ:L2.St) (H:Hp) (r:R (List D)) (Q:List V->Hp->Prop):Prop:=match r with
 | .ok ds=>∀ vs H',aC H H'->Reps X.K X.mg H' vs ds->Q vs H'
 | .ex C=>∀ Ca,X.mg C=some (.ref Ca)->∀ H',aC H H'->ew X Ca σ H'
 | .bad=>False
def tAs (X:Cx) (gs:List E):TA:=fun σ H Q=>∃ δ,Stt X.K X.mg H σ δ/\RA X σ H (evs gs δ) Q
@[irreducible] def SA (X:Cx) (es:List Expr) (gs:List E):Prop:=PA X es (tAs X gs)
unseal SE ST SW SA
section
variable {X:Cx} {σ:L2.St} {H H1:Hp}
theorem PE.weak (h:PE X e t) (w:∀ σ H Q,t' σ H Q->t σ H Q):PE X e t':=fun pins s σ H Q I q=>h pins s σ H Q I (w σ H Q q)
theorem PT.weak (h:PT X e t) (w:∀ σ H Q,t' σ H Q->t σ H Q):PT X e t':=fun pins s σ H Q I q=>h pins s σ H Q I (w σ H Q q)
theorem PW.weak (h:PW X e t) (w:∀ σ H Q,t' σ H Q->t σ H Q):PW X e t':=fun wh pins s σ H Q I q=>h wh pins s σ H Q I (w σ H Q q)
theorem PA.weak (h:PA X es t) (w:∀ σ H Q,t' σ H Q->t σ H Q):PA X es t':=fun pos pins s σ H Q I q=>h pos pins s σ H Q I (w σ H Q q)
theorem PS.weak {st:Stmt} {t t':TS} (h:PS X st t) (w:∀ D σ H,t' D σ H->t D σ H):PS X st t':=fun pins s σ H D I q=>h pins s σ H D I (w D σ H q)
theorem PSs.weak {st:List Stmt} {t t':TS} (h:PSs X st t) (w:∀ D σ H,t' D σ H->t D σ H):PSs X st t':=fun pins s σ H D I q=>h pins s σ H D I (w D σ H q)
theorem RQ.to (h:RQ X σ H r Q) (g:∀ v H',aC H H'->Q v H'->Q' v H'):RQ X σ H r Q':=by
 cases r with
 | ok d=>exact fun v H' s r=>g v H' s (h v H' s r)
 | ex C=>exact h
 | bad=>exact h
theorem RQ.mono (s:aC H H1) (h:RQ X σ H r Q):RQ X σ H1 r Q:=by
 cases r with
 | ok d=>exact fun v H' s' r=>h v H' (s.trans s') r
 | ex C=>exact fun Ca hc H' s'=>h Ca hc H' (s.trans s')
 | bad=>exact h
theorem RT.mono (s:aC H H1) (h:RT X σ H r Q):RT X σ H1 r Q:=by
 cases r with
 | ok d =>
  cases d with
  | bl b=>exact fun H' s'=>h H' (s.trans s')
  | _=>exact False.elim h
 | ex C=>exact fun Ca hc H' s'=>h Ca hc H' (s.trans s')
 | bad=>exact h
theorem RQ.bind (h:RQ X σ H (r.bind f) Q):RQ X σ H r (fun v H'=>aC H H'/\∃ d,Rep X.K X.mg H' v d/\RQ X σ H' (f d) Q):=by
 cases r with
 | ok d=>exact fun v H' s r=>⟨s,d,r,h.mono s⟩
 | ex C=>exact h
 | bad=>exact h
theorem RA.bind (h:RQ X σ H (r.bind f) Q):RA X σ H r (fun vs H'=>aC H H'/\∃ ds,Reps X.K X.mg H' vs ds/\RQ X σ H' (f ds) Q):=by
 cases r with
 | ok d=>exact fun v H' s r=>⟨s,d,r,h.mono s⟩
 | ex C=>exact h
 | bad=>exact h
theorem RT.bind (h:RT X σ H (r.bind f) Q):RQ X σ H r (fun v H'=>aC H H'/\∃ d,Rep X.K X.mg H' v d/\RT X σ H' (f d) Q):=by
 cases r with
 | ok d=>exact fun v H' s r=>⟨s,d,r,h.mono s⟩
 | ex C=>exact h
 | bad=>exact False.elim h
end
structure Sc (X:Cx) (N:List Str):Prop where
 n:X.N=N
 nd:N.Nodup
 vis:∀ x∈N,Vis X.env.scope x
 dbg:∀ x∈N,(x == ("__debug__":Str))=false/\(x == ("__classdict__":Str))=false
def Sto (X:Cx) (x:Str):Prop:=Loc X.env.scope x/\(X.fn x=true\/X.env.scope.names.lookup x=some .local)
structure Gb (X:Cx) (x:Str):Prop where
 g:X.env.scope.names.lookup x=some .globalImplicit
 d:(x == ("__debug__":Str))=false
 n:x≠"__name__"
section
variable {X:Cx} {N:List Str} {pos:Pos} {a b c e:Expr} {ga gb gc g:E}
theorem ip (S:Sc X N) (i:Nat) (hN:N[i]? = some x):SE X (.Name x pos) (var i):=by
 have hm:x∈N:=List.mem_of_getElem? hN
 refine PE.weak (uf (i:=i) (by rw [S.n];exact hN) (S.vis x hm) (S.dbg x hm).1 (S.dbg x hm).2) fun σ H Q ⟨δ,hσ,h⟩ => ?_
 unfold var at h
 split at h
 ·exact False.elim h
 ·rename_i d _ hd
  obtain ⟨v,e,r⟩:=hσ.2 i d hd (by intro ds z;subst z;rename_i q;exact q ds rfl)
  exact ⟨v,e,h v H (aC.refl H) r⟩
 ·exact False.elim h
theorem sZ (h:PE X e (tC v)) (r:∀ H,Rep X.K X.mg H v d):SE X e (con d):=PE.weak h fun σ H Q ⟨δ,hσ,q⟩=>q _ H (aC.refl H) (r H)
theorem ai {i j}:SE X (.Constant (.int i) j pos) (con (.int i)):=sZ Ig fun _=>.int i
theorem CL {b j}:SE X (.Constant (.bool b) j pos) (con (.bl b)):=sZ Ld fun _=>.bl b
theorem FU {j}:SE X (.Constant .none j pos) (con .non):=sZ Ib fun _=>.non
theorem bT {x j}:SE X (.Constant (.str x) j pos) (con (.str x)):=sZ Cy fun _=>.str x
theorem fT (G:Gb X x) (h:∃ t,X.mg x=some (.int i t)):SE X (.Name x pos) (con (.int i)):=by
 obtain ⟨t,h⟩:=h
 exact sZ (xJ (v:=.int i) G.g h ⟨t,rfl⟩ G.d) fun _=>.int i
theorem LM (G:Gb X x) (h:X.mg x=none) (hv:bootBuiltins x=some (.type n)):SE X (.Name x pos) (con (.ty n)) :=
 sZ (EG (v:=.ty n) G.g h hv rfl G.n G.d) fun _=>.ty n
def rD (X:Cx) (f:D->D->R D):R2:=fun x y H Q=>∃ dx dy d,Rep X.K X.mg H x dx/\Rep X.K X.mg H y dy/\f dx dy=.ok d/\∀ v H',aC H H'->Rep X.K X.mg H' v d->Q v H'
def mi (f:D->D->R D):Prop:=∀ x y C,f x y ≠ .ex C
theorem RQ.op (nx:mi f) (r1:Rep X.K X.mg H x dx) (r2:Rep X.K X.mg H y dy) (h:RQ X σ H (f dx dy) Q):rD X f x y H Q:=by
 cases e:f dx dy with
 | ok d=>rw [e] at h;exact ⟨dx,dy,d,r1,r2,e,h⟩
 | ex C=>exact absurd e (nx dx dy C)
 | bad=>rw [e] at h;exact False.elim h
theorem zh (h:tE X (EV.bin f ga gb) σ H Q):tE X ga σ H fun x H1=>tE X gb σ H1 fun y H2=>∃ dx dy,Rep X.K X.mg H2 x dx/\Rep X.K X.mg H2 y dy/\RQ X σ H2 (f dx dy) Q:=by
 obtain ⟨δ,hσ,h⟩:=h
 refine ⟨δ,hσ,(RQ.bind h).to fun x H1 s1 ⟨_,dx,r1,h1⟩ => ?_⟩
 refine ⟨δ,hσ.mono s1,(RQ.bind h1).to fun y H2 s2 ⟨_,dy,r2,h2⟩ => ?_⟩
 exact ⟨dx,dy,r1.mono s2,r2,h2⟩
theorem mQ (nx:mi f) (ho:OpR X (binaryOp op) (rD X f)) (ha:SE X a ga) (hb:SE X b gb):SE X (.BinOp a op b pos) (EV.bin f ga gb) :=
 PE.weak (La ho ha hb) fun σ H Q h=>by
  obtain ⟨δ,hσ,q⟩:=zh h
  refine ⟨δ,hσ,q.to fun x H1 s1 ⟨δ1,hσ1,q1⟩=>⟨δ1,hσ1,q1.to fun y H2 s2 ⟨dx,dy,r1,r2,q2⟩=>RQ.op nx r1 r2 q2⟩⟩
theorem BR (nx:mi f) (ho:OpR X (compareOp op) (rD X f)) (ha:SE X a ga) (hb:SE X b gb) (hm:behindInMarks op b=false):SE X (.Compare a [op] [b] pos) (EV.bin f ga gb) :=
 PE.weak (EF ho ha hb hm) fun σ H Q h=>by
  obtain ⟨δ,hσ,q⟩:=zh h
  refine ⟨δ,hσ,q.to fun x H1 s1 ⟨δ1,hσ1,q1⟩=>⟨δ1,hσ1,q1.to fun y H2 s2 ⟨dx,dy,r1,r2,q2⟩=>RQ.op nx r1 r2 q2⟩⟩
theorem F8 (h:tT X (EV.bin f ga gb) σ H Q):tE X ga σ H fun x H1=>tE X gb σ H1 fun y H2=>∃ dx dy,Rep X.K X.mg H2 x dx/\Rep X.K X.mg H2 y dy/\RT X σ H2 (f dx dy) Q:=by
 obtain ⟨δ,hσ,h⟩:=h
 refine ⟨δ,hσ,(RT.bind h).to fun x H1 s1 ⟨_,dx,r1,h1⟩ => ?_⟩
 refine ⟨δ,hσ.mono s1,(RT.bind h1).to fun y H2 s2 ⟨_,dy,r2,h2⟩ => ?_⟩
 exact ⟨dx,dy,r1.mono s2,r2,h2⟩
theorem RT.op (nx:mi f) (r1:Rep X.K X.mg H x dx) (r2:Rep X.K X.mg H y dy) (h:RT X σ H (f dx dy) Q):rD X f x y H fun v H'=>∃ k,v=.bl k/\Q k H':=by
 cases e:f dx dy with
 | ok d =>
  rw [e] at h
  cases d with
  | bl k=>exact ⟨dx,dy,_,r1,r2,e,fun v H' s r=>by cases r;exact ⟨k,rfl,h H' s⟩⟩
  | _=>exact False.elim h
 | ex C=>exact absurd e (nx dx dy C)
 | bad=>rw [e] at h;exact False.elim h
theorem rK (nx:mi f) (ho:OpR X (compareOp op) (rD X f)) (ha:SE X a ga) (hb:SE X b gb) (hm:behindInMarks op b=false):ST X (.Compare a [op] [b] pos) (EV.bin f ga gb) :=
 PT.weak (xC ho ha hb hm) fun σ H Q h=>by
  obtain ⟨δ,hσ,q⟩:=F8 h
  refine ⟨δ,hσ,q.to fun x H1 s1 ⟨δ1,hσ1,q1⟩=>⟨δ1,hσ1,q1.to fun y H2 s2 ⟨dx,dy,r1,r2,q2⟩=>RT.op nx r1 r2 q2⟩⟩
theorem qg {F:Value->Value->Sem Value} {f:D->D->R D} {C:Int->Int->Prop} {g:Int->Int->Int} (ho:OpR X F (rI C fun i j=>.int (g i j)))
  (hf:∀ dx dy d,f dx dy=.ok d->∃ i j,dx=.int i/\dy=.int j/\C i j/\d=.int (g i j)):OpR X F (rD X f):=by
 intro pins s σ H x y v u Q I rx ry ⟨dx,dy,d,r1,r2,e,q⟩
 obtain ⟨i,j,rfl,rfl,hc,rfl⟩:=hf dx dy d e
 cases r1
 cases r2
 exact ho pins s σ H _ _ v u Q I rx ry ⟨i,j,rfl,rfl,hc,q _ _ ↥25 (.int _)⟩
theorem oK {F:Value->Value->Sem Value} {f:D->D->R D} {g:Int->Int->Int} (ho:OpR X F (rI0 fun i j=>.int (g i j)))
  (hf:∀ dx dy d,f dx dy=.ok d->∃ i j,dx=.int i/\dy=.int j/\d=.int (g i j)):OpR X F (rD X f):=by
 intro pins s σ H x y v u Q I rx ry ⟨dx,dy,d,r1,r2,e,q⟩
 obtain ⟨i,j,rfl,rfl,rfl⟩:=hf dx dy d e
 cases r1
 cases r2
 exact ho pins s σ H _ _ v u Q I rx ry ⟨i,j,rfl,rfl,q _ _ ↥25 (.int _)⟩
theorem xN {F:Value->Value->Sem Value} {f:D->D->R D} {g:Int->Int->Bool} (ho:OpR X F (rI0 fun i j=>.bl (g i j)))
  (hf:∀ dx dy d,f dx dy=.ok d->∃ i j,dx=.int i/\dy=.int j/\d=.bl (g i j)):OpR X F (rD X f):=by
 intro pins s σ H x y v u Q I rx ry ⟨dx,dy,d,r1,r2,e,q⟩
 obtain ⟨i,j,rfl,rfl,rfl⟩:=hf dx dy d e
 cases r1
 cases r2
 exact ho pins s σ H _ _ v u Q I rx ry ⟨i,j,rfl,rfl,q _ _ ↥25 (.bl _)⟩
end
theorem yp (i:Int):nb i=Builtin.Int.intBits i:=by
 unfold nb Builtin.Int.intBits
 by_cases h:i=0
 ·rw [if_pos h,if_pos (by rw [h];rfl)]
 ·rw [if_neg h,if_neg (by simpa using h)]
theorem Bw {i j:Int} (h:MulOk i j):IntMulOk i j:=IntMulOk.of_le (m:=nb i) (n:=nb j) (Nat.le_of_eq (yp i).symm) (Nat.le_of_eq (yp j).symm) h
def K2 (K:PySem.W.Frag):R2:=fun x y H Q=>∃ a b xs ys,x=.ref a/\y=.ref b/\SqL K H a xs/\SqL K H b ys/\xs.length+ys.length<=sizeLine/\∀ p,H p=none->Q (.ref p) (upd H p (.lst (xs++ys)))
section
variable {X:Cx}
theorem bP (h:H p=none) (o:HO):aC H (upd H p o):=fun b u q=>by rw [bB (cR q h)];exact q
theorem yD (l b:Addr) (xs ys:Array Value) (n m:Nat) (d1 d2:Option Addr) (s1 s2:Array (Option Value)) (hz:xs.size+ys.size<=sizeLine) :
  Meets (Builtin.«list.__add__» ⟨[.ref l,.ref b],[]⟩) (fun _ R s=>s.heap.get? l=some { cls:=.type "list",dict:=d1,data:=.seq xs n,slots:=s1 }/\s.heap.get? b=some { cls:=.type "list",dict:=d2,data:=.seq ys m,slots:=s2 } /\
   R (.ok (.ret (Value.ref s.heap.objs.size))) { s with heap:=s.heap.push { cls:=.type "list",data:=.seq (xs++ys) } }) :=
 .of_wp fun prog w A R s h=>by
  obtain ⟨hp,g,dd,tk,os⟩:=s
  obtain ⟨ha,hb,h⟩:=h
  have f3:=AutoSeq1.sub_list_list
  wp_walk using AutoSeq1.wpAny_loadPart' ha,AutoSeq1.wpAny_loadPart' hb
  exact ⟨_,rfl,h⟩
theorem ER:OpR X (binaryOp .Add) (K2 X.K):=by
 intro pins s σ H x y v u Q I rx ry h
 obtain ⟨l,b,xs,zs,rfl,rfl,hH,hB,hz,q⟩:=h
 cases rx
 cases ry
 obtain ⟨its,r,⟨⟨c1,d1,t1,s1⟩,n,e,g1,g2,g3⟩,_⟩:=I.list hH
 obtain ⟨its2,r2,⟨⟨c2,d2,t2,s2⟩,n2,e2,k1,k2,k3⟩,_⟩:=I.list hB
 simp only at g1 g2 g3 k1 k2 k3
 subst g1 g2 g3 k1 k2 k3
 have hl:=r.length
 have hl2:=r2.length
 refine concat_meets ⟨_,e,rfl⟩ ⟨_,e2,rfl⟩ noFill_list_add seq_list_add F.slot_list_add F.entry_list_add (F.args_list_add_2 _ _) (yD l b its.toArray its2.toArray n n2 _ _ _ _ (by rw [List.size_toArray,List.size_toArray];omega)) ⟨e,e2,?_⟩
 have ea:its.toArray++its2.toArray=(its++its2).toArray:=by simp
 rw [ea]
 exact ⟨.ref _,_,I.lnew (t':=s.toks) (r.append r2) (by rw [List.length_append];omega),rfl,q _ I.fresh⟩
theorem fS [Decidable c]:(if c then R.ok d else R.bad)≠R.ex C:=by split<;>exact fun z=>nomatch z
theorem Lx:mi bF:=fun x y C z=>by unfold bF at z;split at z<;>first | cases z | exact fS z
theorem EU:OpR X (binaryOp .Add) (rD X bF):=by
 intro pins s σ H x y v u Q I rx ry ⟨dx,dy,d,r1,r2,e,q⟩
 unfold bF at e
 split at e
 ·cases e;cases r1;cases r2
  exact IH pins s σ H _ _ v u Q I rx ry ⟨_,_,rfl,rfl,q _ _ ↥25 (.int _)⟩
 ·split at e
  ·rename_i hz
   cases e;cases r1;cases r2
   exact vC pins s σ H _ _ v u Q I rx ry ⟨_,_,rfl,rfl,Nat.le_trans hz (by rw [sizeLine_eq];decide),q _ _ ↥25 (.str _)⟩
  ·cases e
 ·split at e
  ·rename_i hz
   cases e;cases r1;cases r2
   rename_i a xs h1 r1 b ys h2 r2
   exact ER pins s σ H _ _ v u Q I rx ry ⟨a,b,xs,ys,rfl,rfl,h1,h2,by rw [r1.length,r2.length];exact Nat.le_trans hz (by rw [sizeLine_eq];decide),fun p hp=>q _ _ (bP hp _) (.lst (SqL.of bO) ((r1.append r2).mono (bP hp _)))⟩
  ·cases e
 ·split at e
  ·rename_i hz
   cases e;cases r1;cases r2
   rename_i a xs h1 r1 b ys h2 r2
   refine EO pins s σ H _ _ v u Q I rx ry ⟨a,b,xs,ys,rfl,rfl,h1,h2,fun z=>hz.1 ?_,by rw [r1.length,r2.length];exact Nat.le_trans hz.2 (by rw [sizeLine_eq];decide),fun z=>q _ _ ↥25 ?_,fun _ p hp=>q _ _ (bP hp _) (.tup (SqT.of bO) ((r1.append r2).mono (bP hp _)))⟩
   ·subst z
    cases r1;rfl
   ·subst z
    cases r2
    rw [List.append_nil]
    exact .tup h1 r1
  ·cases e
 ·cases e
theorem Ln:mi cN:=fun x y C z=>by unfold cN at z;split at z<;>cases z
theorem EI:OpR X (binaryOp .Sub) (rD X cN):=oK Iz fun dx dy d e=>by
 unfold cN at e;split at e
 ·cases e;exact ⟨_,_,rfl,rfl,rfl⟩
 ·cases e
theorem Lr:mi fk:=fun x y C z=>by unfold fk at z;split at z<;>first | cases z | exact fS z
theorem EL:OpR X (binaryOp .Mult) (rD X fk):=qg (C:=IntMulOk) (opI fun _ _ _ _ _ _ _ hc q=>mul_int q hc) fun dx dy d e=>by
 unfold fk at e;split at e
 ·split at e
  ·rename_i h;cases e;exact ⟨_,_,rfl,rfl,Bw h,rfl⟩
  ·cases e
 ·cases e
theorem Lu:mi oDiv:=fun x y C z=>by unfold oDiv at z;split at z<;>first | cases z | exact fS z
theorem QP (h:ir i j):Builtin.divisionGoesByPylong i j=false:=by
 obtain ⟨h0,h⟩:=h
 show (decide ((if j == 0 then 0 else j.natAbs.log2 / 30+1)>300)&&decide ((if i == 0 then 0 else i.natAbs.log2 / 30+1)>(if j == 0 then 0 else j.natAbs.log2 / 30+1)+150))=false
 have ej:(j == 0)=false:=by simp;omega
 unfold nb at h
 rw [if_neg (by omega:¬ j=0)] at h
 rw [ej]
 simp only [Bool.false_eq_true,if_false]
 rw [Bool.and_eq_false_iff,decide_eq_false_iff_not,decide_eq_false_iff_not]
 by_cases hi:i=0
 ·rw [if_pos (by simp [hi])];omega
 ·rw [if_neg (by simp [hi])]
  rw [if_neg hi] at h
  omega
theorem EN:OpR X (binaryOp .FloorDiv) (rD X oDiv):=qg (C:=ir) (g:=fun i j=>i / j) (opI fun i j _ _ _ _ _ hc q=>by
  have h1:(0:Int)<j:=hc.1
  exact floordiv_int ⋯ (by rw [Int.fdiv_eq_ediv_of_nonneg i ⋯];exact q) (.inl (QP hc))) fun dx dy d e=>by
 unfold oDiv at e;split at e
 ·split at e
  ·rename_i h;cases e;exact ⟨_,_,rfl,rfl,h,rfl⟩
  ·cases e
 ·cases e
theorem Ls:mi oMod:=fun x y C z=>by unfold oMod at z;split at z<;>first | cases z | exact fS z
theorem EM:OpR X (binaryOp .Mod) (rD X oMod):=qg (C:=fun _ j=>0<j) (g:=fun i j=>i%j) IC fun dx dy d e=>by
 unfold oMod at e;split at e
 ·split at e
  ·rename_i h;cases e;exact ⟨_,_,rfl,rfl,h,rfl⟩
  ·cases e
 ·cases e
theorem Lq:mi cm:=fun x y C z=>by unfold cm at z;split at z<;>first | cases z | exact fS z
theorem EK:OpR X (binaryOp .LShift) (rD X cm):=qg (C:=fun i j=>0<=j/\(nb i:Int)+j<=134217728) (g:=fun i j=>i*pw j) (opI fun _ _ _ _ _ _ _ hc q=>lshift_int hc.1 (by rw [<- yp];exact hc.2) q) fun dx dy d e=>by
 unfold cm at e;split at e
 ·split at e
  ·rename_i h;cases e;exact ⟨_,_,rfl,rfl,h,rfl⟩
  ·cases e
 ·cases e
theorem Lo:mi A6:=fun x y C z=>by unfold A6 at z;split at z<;>first | cases z | exact fS z
theorem EJ:OpR X (binaryOp .RShift) (rD X A6):=qg (C:=fun _ j=>0<=j) (g:=fun i j=>i / 2^j.toNat) IA fun dx dy d e=>by
 unfold A6 at e;split at e
 ·split at e
  ·rename_i h;cases e;exact ⟨_,_,rfl,rfl,h,rfl⟩
  ·cases e
 ·cases e
theorem IQ:mi qo:=fun x y C z=>by unfold qo at z;split at z<;>first | cases z | exact fS z
theorem Lv:mi Bm:=fun x y C z=>by unfold Bm at z;split at z<;>first | cases z | exact fS z
theorem IP:mi f9:=fun x y C z=>by unfold f9 at z;split at z<;>first | cases z | exact fS z
theorem zk (hi:0<=i) (hj:0<=j):Builtin.bitAnd i j=((i.toNat &&& j.toNat:Nat):Int):=by
 unfold Builtin.bitAnd
 rw [decide_eq_true hi,decide_eq_true hj]
theorem CQ (hi:0<=i) (hj:0<=j):Builtin.bitOr i j=((i.toNat ||| j.toNat:Nat):Int):=by
 unfold Builtin.bitOr Builtin.bitAnd Builtin.bitNot
 have h1:decide (0 <= -i - 1)=false:=decide_eq_false ⋯
 have h2:decide (0 <= -j - 1)=false:=decide_eq_false ⋯
 rw [h1,h2]
 dsimp only
 rw [show -(-i - 1) - 1=i by omega,show -(-j - 1) - 1=j by omega]
 omega
theorem vB (x:Nat):∀ y:Nat,x ||| y=(x ^^^ y)+(x &&& y):=by
 induction x using Nat.strongRecOn with
 | ind x ih =>
  intro y
  by_cases h0:x=0
  ·subst h0;simp
  ·have z:=ih (x / 2) ⋯ (y / 2)
   rw [<- Nat.or_div_two,<-Nat.xor_div_two,<-Nat.and_div_two] at z
   have m1 := @Nat.or_mod_two_eq_one x y
   have m2 := @Nat.xor_mod_two_eq_one x y
   have m3 := @Nat.and_mod_two_eq_one x y
   omega
theorem F3 (hi:0<=i) (hj:0<=j):Builtin.bitXor i j=((i.toNat ^^^ j.toNat:Nat):Int):=by
 unfold Builtin.bitXor
 rw [CQ hi hj,zk hi hj]
 have h:i.toNat ||| j.toNat=(i.toNat ^^^ j.toNat)+(i.toNat &&& j.toNat):=vB _ _
 omega
theorem A3:OpR X (binaryOp .BitAnd) (rD X qo):=oK IG fun dx dy d e=>by
 unfold qo at e;split at e
 ·split at e
  ·rename_i h;cases e;exact ⟨_,_,rfl,rfl,by rw [zk h.1 h.2]⟩
  ·cases e
 ·cases e
theorem ET:OpR X (binaryOp .BitOr) (rD X Bm):=oK Lf fun dx dy d e=>by
 unfold Bm at e;split at e
 ·split at e
  ·rename_i h;cases e;exact ⟨_,_,rfl,rfl,by rw [CQ h.1 h.2]⟩
  ·cases e
 ·cases e
theorem A2:OpR X (binaryOp .BitXor) (rD X f9):=oK Iw fun dx dy d e=>by
 unfold f9 at e;split at e
 ·split at e
  ·rename_i h;cases e;exact ⟨_,_,rfl,rfl,by rw [F3 h.1 h.2]⟩
  ·cases e
 ·cases e
theorem OW:mi oLt:=fun x y C z=>by unfold oLt at z;split at z<;>cases z
theorem QO:mi oGt:=fun x y C z=>by unfold oGt at z;split at z<;>cases z
theorem OY:mi oGe:=fun x y C z=>by unfold oGe at z;split at z<;>cases z
theorem Cz:OpR X (compareOp .Lt) (rD X oLt):=xN Lh fun dx dy d e=>by
 unfold oLt at e;split at e
 ·cases e;exact ⟨_,_,rfl,rfl,rfl⟩
 ·cases e
theorem IE:OpR X (compareOp .Gt) (rD X oGt):=xN Li fun dx dy d e=>by
 unfold oGt at e;split at e
 ·cases e;exact ⟨_,_,rfl,rfl,rfl⟩
 ·cases e
theorem CC:OpR X (compareOp .GtE) (rD X oGe):=xN Lj fun dx dy d e=>by
 unfold oGe at e;split at e
 ·cases e;exact ⟨_,_,rfl,rfl,rfl⟩
 ·cases e
end
section
variable {X:Cx} {pos:Pos} {a b c e:Expr} {ga gb gc g:E}
theorem aJ (ha:SE X a ga) (hb:SE X b gb):SE X (.BinOp a .Add b pos) (EV.bin bF ga gb):=mQ Lx EU ha hb
theorem bf (ha:SE X a ga) (hb:SE X b gb):SE X (.BinOp a .Sub b pos) (EV.bin cN ga gb):=mQ Ln EI ha hb
theorem cL (ha:SE X a ga) (hb:SE X b gb):SE X (.BinOp a .Mult b pos) (EV.bin fk ga gb):=mQ Lr EL ha hb
theorem cq (ha:SE X a ga) (hb:SE X b gb):SE X (.BinOp a .FloorDiv b pos) (EV.bin oDiv ga gb):=mQ Lu EN ha hb
theorem br (ha:SE X a ga) (hb:SE X b gb):SE X (.BinOp a .Mod b pos) (EV.bin oMod ga gb):=mQ Ls EM ha hb
theorem bY (ha:SE X a ga) (hb:SE X b gb):SE X (.BinOp a .LShift b pos) (EV.bin cm ga gb):=mQ Lq EK ha hb
theorem JG (ha:SE X a ga) (hb:SE X b gb):SE X (.BinOp a .RShift b pos) (EV.bin A6 ga gb):=mQ Lo EJ ha hb
theorem JJ (ha:SE X a ga) (hb:SE X b gb):SE X (.BinOp a .BitAnd b pos) (EV.bin qo ga gb):=mQ IQ A3 ha hb
theorem LP (ha:SE X a ga) (hb:SE X b gb):SE X (.BinOp a .BitOr b pos) (EV.bin Bm ga gb):=mQ Lv ET ha hb
theorem jm (ha:SE X a ga) (hb:SE X b gb):SE X (.BinOp a .BitXor b pos) (EV.bin f9 ga gb):=mQ IP A2 ha hb
theorem Rp (ha:SE X a ga) (hb:SE X b gb):SE X (.Compare a [.Lt] [b] pos) (EV.bin oLt ga gb):=BR OW Cz ha hb (iZ _)
theorem Rq (ha:SE X a ga) (hb:SE X b gb):SE X (.Compare a [.GtE] [b] pos) (EV.bin oGe ga gb):=BR OY CC ha hb (iZ _)
theorem rJ (ha:SE X a ga) (hb:SE X b gb):ST X (.Compare a [.Lt] [b] pos) (EV.bin oLt ga gb):=rK OW Cz ha hb (iZ _)
theorem J8 (ha:SE X a ga) (hb:SE X b gb):ST X (.Compare a [.Gt] [b] pos) (EV.bin oGt ga gb):=rK QO IE ha hb (iZ _)
theorem Hr (ha:SE X a ga) (hb:SE X b gb):ST X (.Compare a [.GtE] [b] pos) (EV.bin oGe ga gb):=rK OY CC ha hb (iZ _)
theorem JH (ha:SE X a ga):SE X (.UnaryOp .USub a pos) (un IJ ga) :=
 PE.weak (K8 GY ha) fun σ H Q ⟨δ,hσ,h⟩=>⟨δ,hσ,(RQ.bind h).to fun v H1 s1 ⟨_,d,r,q⟩=>by
  unfold IJ at q
  split at q
  ·cases r;exact ⟨_,rfl,q _ _ ↥25 (.int _)⟩
  ·exact False.elim q⟩
end
end ES
namespace ES
open PySem PySem.Spec PyProof.Rows L2 EV
unseal SE ST SW SA
mutual
def py:D->PyData
 | .non=>.none
 | .bl b=>.bool b
 | .int i=>.int i
 | .str x=>.str x
 | .tup ds=>.tuple (pys ds)
 | .lst ds=>.list (pys ds)
 | _=>.dict []
def pys:List D->List PyData
 | []=>[]
 | d::r=>py d::pys r
end
section
variable {X:Cx} {pins:List ↥12} {σ:L2.St} {H:Hp} {s:Shared}
mutual
theorem oE (I:Inv X pins σ H s):∀ {v:V} {d:D} {u:Value},(py d).canLay0=true->Rep X.K X.mg H v d->RelV v u->∃ as,Reads s.heap u (py d) as
 | _,_,u,_,.non,r=>by cases r;exact ⟨_,.none⟩
 | _,_,u,_,.bl b,r=>by cases r;exact ⟨_,.bool b⟩
 | _,_,u,_,.int i,r=>by obtain ⟨t,rfl⟩:=r;exact ⟨_,.int i t⟩
 | _,_,u,_,.str x,r=>by obtain ⟨t,rfl⟩:=r;exact ⟨_,.str x t⟩
 | _,.tup ds,u,hc,.tup hq rs,r=>by
  cases r
  obtain ⟨its,rv,⟨o,h1,h2,n,h3⟩,_⟩:=I.tuple hq
  obtain ⟨as,ra⟩:=iD I (by simpa [py,PyData.canLay0] using hc) rs rv
  exact ⟨_,.tuple h1 h2 h3 (by simpa using ra)⟩
 | _,.lst ds,u,hc,.lst hq rs,r=>by
  cases r
  obtain ⟨its,rv,⟨o,n,h1,h2,_,h3⟩,_⟩:=I.list hq
  obtain ⟨as,ra⟩:=iD I (by simpa [py,PyData.canLay0] using hc) rs rv
  exact ⟨_,.list h1 h2 h3 (by simpa using ra)⟩
 | _,.ty n,u,hc,_,_=>by simp [py,PyData.canLay0] at hc
 | _,.cls a,u,hc,_,_=>by simp [py,PyData.canLay0] at hc
 | _,.exc a,u,hc,_,_=>by simp [py,PyData.canLay0] at hc
 | _,.ins a b,u,hc,_,_=>by simp [py,PyData.canLay0] at hc
theorem iD (I:Inv X pins σ H s):∀ {vs:List V} {ds:List D} {us:List Value},PyData.canLayAll0 (pys ds)=true->Reps X.K X.mg H vs ds->Vals vs us->∃ as,ReadsAll s.heap us (pys ds) as
 | _,_,_,_,.nil,r=>by cases r;exact ⟨_,.nil⟩
 | _,dd::dr,_,hc,.cons r t,q=>by
  cases q with
  | cons q1 q2 =>
   have hc':PyData.canLay0 (py dd)=true/\PyData.canLayAll0 (pys dr)=true:=by simpa [pys,PyData.canLayAll0] using hc
   obtain ⟨a1,r1⟩:=oE I hc'.1 r q1
   obtain ⟨a2,r2⟩:=iD I hc'.2 t q2
   exact ⟨_,.cons r1 r2⟩
end
end
mutual
theorem xH:∀ (n:Nat) (d:D),D.pl n d=true->(py d).canLay0=true/\(py d).depth<=n
 | _,.non,_=>⟨rfl,Nat.zero_le _⟩
 | _,.bl _,_=>⟨rfl,Nat.zero_le _⟩
 | _,.int _,_=>⟨rfl,Nat.zero_le _⟩
 | _,.str x,h=>⟨by simpa [py,PyData.canLay0,PyData.strOk,D.pl] using h,Nat.zero_le _⟩
 | 0,.tup _,h=>by simp [D.pl] at h
 | 0,.lst _,h=>by simp [D.pl] at h
 | n+1,.tup ds,h=>by
  have z:=sj n ds (by simpa [D.pl] using h)
  exact ⟨by simpa [py,PyData.canLay0] using z.1,by simp only [py,PyData.depth];omega⟩
 | n+1,.lst ds,h=>by
  have z:=sj n ds (by simpa [D.pl] using h)
  exact ⟨by simpa [py,PyData.canLay0] using z.1,by simp only [py,PyData.depth];omega⟩
 | n,.own _,h=>by cases n<;>simp [D.pl] at h
 | n,.ty _,h=>by cases n<;>simp [D.pl] at h
 | n,.cls _,h=>by cases n<;>simp [D.pl] at h
 | n,.exc _,h=>by cases n<;>simp [D.pl] at h
 | n,.ins _ _,h=>by cases n<;>simp [D.pl] at h
theorem sj:∀ (n:Nat) (ds:List D),(∀ d∈ds,D.pl n d=true)->PyData.canLayAll0 (pys ds)=true/\PyData.depthAll (pys ds)<=n
 | _,[],_=>⟨rfl,Nat.zero_le _⟩
 | n,d::r,h=>by
  have z1:=xH n d (h d (.head _))
  have z2:=sj n r (fun x hx=>h x (.tail _ hx))
  exact ⟨by simp [pys,PyData.canLayAll0,z1.1,z2.1],by simp only [pys,PyData.depthAll];omega⟩
end
mutual
theorem zj:∀ (n:Nat) (a b:D),D.pl n a=true->D.pl n b=true->D.beq a b=PyData.eqv (py a) (py b)
 | n,a,b,ha,hb=>by
  cases a<;>cases b<;>first
   | rfl
   | (cases n<;>simp [D.pl] at ha;done)
   | (cases n<;>simp [D.pl] at hb;done)
   | skip
  all_goals cases n with
   | zero=>simp [D.pl] at ha
   | succ n =>
    simp only [D.beq,py,PyData.eqv]
    exact uJ n _ _ (by simpa [D.pl] using ha) (by simpa [D.pl] using hb)
theorem uJ:∀ (n:Nat) (as bs:List D),(∀ d∈as,D.pl n d=true)->(∀ d∈bs,D.pl n d=true)->D.beqs as bs=PyData.eqvAll (pys as) (pys bs)
 | _,[],[],_,_=>rfl
 | _,[],_::_,_,_=>rfl
 | _,_::_,[],_,_=>rfl
 | n,a::as,b::bs,ha,hb=>by
  simp only [D.beqs,pys,PyData.eqvAll]
  rw [zj n a b (ha a (.head _)) (hb b (.head _)),uJ n as bs (fun x hx=>ha x (.tail _ hx)) (fun x hx=>hb x (.tail _ hx))]
end
section
variable {X:Cx}
theorem OZ:mi oEq:=fun x y C z=>by unfold oEq at z;exact fS z
theorem QM:mi oNe:=fun x y C z=>by unfold oNe at z;exact fS z
theorem LV (r1:Rep X.K X.mg H x dx) (r2:Rep X.K X.mg H y dy) (sx:dx.sc=true) (sy:dy.sc=true) (n:Ka x y=true):decide (x=y)=D.beq dx dy:=by
 cases r1<;>cases sx<;>cases r2<;>cases sy<;>first
  | exact absurd (show false=true from n) Bool.false_ne_true
  | exact tf
  | exact za
  | exact td
  | (simp [D.beq];done)
theorem yV (n:Bool) (hu:X.A.units+64<cLine) (I:Inv X pins σ H s) (rx:RelV x v) (ry:RelV y u) (r1:Rep X.K X.mg H x dx) (r2:Rep X.K X.mg H y dy)
  (hc:D.cmp dx dy=true) (q:Q (.bl (xor n (D.beq dx dy))) H):wpAny ↥7 X.A (compareOp (if n then .NotEq else .Eq) v u) (EP X pins σ Q) X.xe s:=by
 unfold D.cmp at hc
 by_cases hp:(D.pl 8 dx&&D.pl 8 dy)=true
 ·rw [Bool.and_eq_true] at hp
  obtain ⟨l1,d1⟩:=xH 8 dx hp.1
  obtain ⟨l2,d2⟩:=xH 8 dy hp.2
  obtain ⟨as,ra⟩:=oE I l1 r1 rx
  obtain ⟨bs,rb⟩:=oE I l2 r2 ry
  have e:=zj 8 dx dy hp.1 hp.2
  cases n with
  | false =>
   refine (SeqAt.rcAt_reads ra rb l1 l2 ⋯ X.prog X.w X.xe _ ?_:wpAny ↥7 X.A (compareOp .Eq v u) _ _ _)
   exact fh I q (by rw [Bool.false_xor,e])
  | true =>
   refine (SeqAt.rcNeAt_reads ra rb l1 l2 ⋯ X.prog X.w X.xe _ ?_:wpAny ↥7 X.A (compareOp .NotEq v u) _ _ _)
   exact fh I q (by rw [Bool.true_xor,e])
 ·have hs:(dx.sc&&dy.sc)=true:=by
   rw [Bool.or_eq_true] at hc
   exact hc.resolve_right hp
  rw [Bool.and_eq_true] at hs
  have hsc:Ka x y=true:=by
   cases r1<;>cases (hs.1)<;>cases r2<;>cases (hs.2)<;>first | rfl | exact absurd rfl hp
  have e:=LV r1 r2 hs.1 hs.2 hsc
  cases n with
  | false=>exact Ll pins s σ H x y v u Q I rx ry ⟨hsc,by rw [e];rw [Bool.false_xor] at q;exact q⟩
  | true=>exact Lg pins s σ H x y v u Q I rx ry ⟨hsc,by rw [e];rw [Bool.true_xor] at q;exact q⟩
theorem CD (hu:X.A.units+64<cLine):OpR X (compareOp .Eq) (rD X oEq):=by
 intro pins s σ H x y v u Q I rx ry ⟨dx,dy,d,r1,r2,e,q⟩
 unfold oEq at e
 split at e
 ·rename_i hc
  cases e
  exact yV false hu I rx ry r1 r2 hc (by rw [Bool.false_xor];exact q _ _ ↥25 (.bl _))
 ·cases e
theorem IB (hu:X.A.units+64<cLine):OpR X (compareOp .NotEq) (rD X oNe):=by
 intro pins s σ H x y v u Q I rx ry ⟨dx,dy,d,r1,r2,e,q⟩
 unfold oNe at e
 split at e
 ·rename_i hc
  cases e
  exact yV true hu I rx ry r1 r2 hc (by rw [Bool.true_xor];exact q _ _ ↥25 (.bl _))
 ·cases e
theorem oq (r:Rep X.K X.mg H x d) (h:d.sc=true):mP x=true:=by cases r<;>first | rfl | cases h
theorem lx:∀ {xs:List V} {ds:List D},Reps X.K X.mg H xs ds->ds.all D.sc=true->xs.all mP=true
 | _,_,.nil,_=>rfl
 | _,_,.cons r t,h=>by
  rw [List.all_cons,Bool.and_eq_true] at h
  rw [List.all_cons,oq r h.1,lx t h.2];rfl
theorem FN (r1:Rep X.K X.mg H x dx) (r2:Rep X.K X.mg H y dy) (sx:dx.sc=true) (sy:dy.sc=true):eqV x y=D.beq dx dy:=by
 cases r1<;>cases sx<;>cases r2<;>cases sy<;>rfl
theorem yJ (r:Rep X.K X.mg H x dx) (sx:dx.sc=true):∀ {xs:List V} {ds:List D},Reps X.K X.mg H xs ds->ds.all D.sc=true->inV x xs=ds.any fun y=>D.beq y dx
 | _,_,.nil,_=>rfl
 | _,_,.cons r' t,h=>by
  rw [List.all_cons,Bool.and_eq_true] at h
  unfold inV
  rw [List.any_cons,List.any_cons,FN r' r h.1 sx]
  exact congrArg _ (yJ r sx t h.2)
theorem yI (neg:Bool) (I:Inv X pins σ H s) (rx:RelV x v) (ry:RelV y u) (r1:Rep X.K X.mg H x dx) (r2:Rep X.K X.mg H y dy)
  (hc:oIn dx dy=.ok (.bl k)) (q:Q (.bl (xor neg k)) H):wpAny ↥7 X.A (compareOp (if neg then .NotIn else .In) v u) (EP X pins σ Q) X.xe s:=by
 have seq:∀ {p:Addr} {xs:List V} {ds:List D},y=.ref p->(SqL X.K H p xs\/SqT X.K H p xs)->Reps X.K X.mg H xs ds->isIn dx ds=some k->wpAny ↥7 X.A (compareOp (if neg then .NotIn else .In) v u) (EP X pins σ Q) X.xe s:=fun {p xs ds} ey hq rs hi=>by
  subst ey
  unfold isIn at hi
  split at hi
  ·rename_i hs
   rw [Bool.and_eq_true] at hs
   cases hi
   have e:=yJ r1 hs.1 rs hs.2
   cases neg with
   | false=>exact xQ pins s σ H _ _ v u Q I rx ry ⟨p,xs,rfl,hq,oq r1 hs.1,lx rs hs.2,by rw [if_neg ↥1,e];rw [Bool.false_xor] at q;exact q⟩
   | true=>exact qi pins s σ H _ _ v u Q I rx ry ⟨p,xs,rfl,hq,oq r1 hs.1,lx rs hs.2,by rw [if_pos rfl,e];rw [Bool.true_xor] at q;exact q⟩
  ·cases hi
 have hseq:∀ {ds:List D},(match isIn dx ds with | some k=>R.ok (D.bl k) | none=>R.bad)=.ok (.bl k)->isIn dx ds=some k:=fun {ds} h=>by
  cases e:isIn dx ds with
  | none=>rw [e] at h;cases h
  | some k'=>rw [e] at h;cases h;rfl
 cases r2 with
 | tup hq rs=>exact seq rfl (.inr hq) rs (hseq (by cases dx<;>exact hc))
 | lst hq rs=>exact seq rfl (.inl hq) rs (hseq (by cases dx<;>exact hc))
 | str b =>
  cases r1 with
  | str a =>
   obtain ⟨⟨l⟩⟩:=a
   cases l with
   | nil=>cases hc
   | cons c t =>
    cases t with
    | cons _ _=>cases hc
    | nil =>
     cases hc
     have e:=empty_one b c
     cases neg with
     | false=>exact xP pins s σ H _ _ v u Q I rx ry ⟨_,_,rfl,rfl,by rw [e,Bool.not_not];rw [Bool.false_xor] at q;exact q⟩
     | true=>exact qh pins s σ H _ _ v u Q I rx ry ⟨_,_,rfl,rfl,by rw [e,Bool.not_not];rw [Bool.true_xor] at q;exact q⟩
  | _=>cases hc
 | _=>cases dx<;>cases hc
theorem ui:(∃ k,oIn a b=.ok (.bl k))\/oIn a b=.bad:=by
 unfold oIn
 split<;>first
  | exact .inr rfl
  | (split<;>first | exact .inl ⟨_,rfl⟩ | exact .inr rfl)
theorem OX:mi oIn:=fun x y C z=>by rcases ui (a:=x) (b:=y) with ⟨k,e⟩ | e<;>rw [e] at z<;>cases z
theorem Fe:mi iv:=fun x y C z=>by unfold iv at z;rcases ui (a:=x) (b:=y) with ⟨k,e⟩ | e<;>rw [e] at z<;>cases z
theorem CA:OpR X (compareOp .In) (rD X oIn):=by
 intro pins s σ H x y v u Q I rx ry ⟨dx,dy,d,r1,r2,e,q⟩
 rcases ui (a:=dx) (b:=dy) with ⟨k,e'⟩ | e'<;>rw [e'] at e<;>cases e
 exact yI false I rx ry r1 r2 e' (by rw [Bool.false_xor];exact q _ _ ↥25 (.bl _))
theorem xO:OpR X (compareOp .NotIn) (rD X iv):=by
 intro pins s σ H x y v u Q I rx ry ⟨dx,dy,d,r1,r2,e,q⟩
 unfold iv at e
 rcases ui (a:=dx) (b:=dy) with ⟨k,e'⟩ | e'<;>rw [e'] at e<;>cases e
 exact yI true I rx ry r1 r2 e' (by rw [Bool.true_xor];exact q _ _ ↥25 (.bl _))
end
section
variable {X:Cx} {pos:Pos} {a b c e:Expr} {ga gb gc g:E} {k:Nat}
theorem BP (hu:Room k X.A) (ha:SE X a ga) (hb:SE X b gb):SE X (.Compare a [.Eq] [b] pos) (EV.bin oEq ga gb):=BR OZ (CD hu.units) ha hb (iZ _)
theorem ft (hu:Room k X.A) (ha:SE X a ga) (hb:SE X b gb):ST X (.Compare a [.Eq] [b] pos) (EV.bin oEq ga gb):=rK OZ (CD hu.units) ha hb (iZ _)
theorem KD (hu:Room k X.A) (ha:SE X a ga) (hb:SE X b gb):ST X (.Compare a [.NotEq] [b] pos) (EV.bin oNe ga gb):=rK QM (IB hu.units) ha hb (iZ _)
theorem LO (ha:SE X a ga) (hb:SE X b gb) (hm:behindInMarks .In b=false:=by rfl):SE X (.Compare a [.In] [b] pos) (EV.bin oIn ga gb):=BR OX CA ha hb hm
theorem DU (ha:SE X a ga) (hb:SE X b gb) (hm:behindInMarks .In b=false:=by rfl):ST X (.Compare a [.In] [b] pos) (EV.bin oIn ga gb):=rK OX CA ha hb hm
theorem DS (ha:SE X a ga) (hb:SE X b gb) (hm:behindInMarks .NotIn b=false:=by rfl):ST X (.Compare a [.NotIn] [b] pos) (EV.bin iv ga gb):=rK Fe xO ha hb hm
theorem Jr (r:Rep X.K X.mg H v d):sF d=.ok (.bl (decide (v=.non)))/\sD d=.ok (.bl (!decide (v=.non))):=by
 cases r<;>exact ⟨rfl,rfl⟩
theorem Jq (h:tE X (un sF ga) σ H Q):tE X ga σ H fun x H1=>tE X (con .non) σ H1 fun y H2=>y=.non/\Q (.bl (decide (x=.non))) H2:=by
 obtain ⟨δ,hσ,h⟩:=h
 refine ⟨δ,hσ,(RQ.bind h).to fun x H1 s1 ⟨_,d,r,q⟩=>⟨δ,hσ.mono s1,fun v H2 s2 r2 => ?_⟩⟩
 cases r2
 rw [(Jr r).1] at q
 exact ⟨rfl,q _ _ s2 (.bl _)⟩
theorem t6 (h:tT X g σ H Q):tE X g σ H fun v H'=>∃ k,v=.bl k/\Q k H':=by
 obtain ⟨δ,hσ,h⟩:=h
 refine ⟨δ,hσ,?_⟩
 cases q:g δ with
 | ok d =>
  rw [q] at h
  cases d with
  | bl k=>exact fun v H' s r=>by cases r;exact ⟨k,rfl,h H' s⟩
  | _=>exact False.elim h
 | ex C=>rw [q] at h;exact h
 | bad=>rw [q] at h;exact False.elim h
theorem DT (ha:SE X a ga):ST X (.Compare a [.Is] [.Constant .none j p2] pos) (un sF ga):=PT.weak (xC ID ha FU (iZ _)) fun σ H Q h=>Jq (t6 h)
theorem iA (h:SE X e g) (he:∀ whole,isTrue e X.env whole=(do let v<-whole;standAt e.pos;holding [v] (truthy v)):=by intro _;rfl):ST X e g:=PT.weak (HR h he) fun σ H Q q=>t6 q
theorem RT.truth (h:RT X σ H (r.bind fun d=>truth d t f) Q):RT X σ H r fun k H'=>aC H H'/\if k=true then RT X σ H' t Q else RT X σ H' f Q:=by
 cases r with
 | ok d =>
  cases d with
  | bl k =>
   cases k with
   | true=>exact fun H' s=>⟨s,Fx (RT.mono s h)⟩
   | false=>exact fun H' s=>⟨s,Fy (RT.mono s h)⟩
  | _=>exact False.elim h
 | ex C=>exact h
 | bad=>exact False.elim h
theorem RT.to (h:RT X σ H r Q) (g:∀ k H',aC H H'->Q k H'->Q' k H'):RT X σ H r Q':=by
 cases r with
 | ok d =>
  cases d with
  | bl k=>exact fun H' s=>g k H' s (h H' s)
  | _=>exact False.elim h
 | ex C=>exact h
 | bad=>exact False.elim h
theorem RQ.truthT (h:RQ X σ H (r.bind fun d=>truth d t f) Q):RT X σ H r fun k H'=>aC H H'/\if k=true then RQ X σ H' t Q else RQ X σ H' f Q:=by
 cases r with
 | ok d =>
  cases d with
  | bl k =>
   cases k with
   | true=>exact fun H' s=>⟨s,Fx (RQ.mono s h)⟩
   | false=>exact fun H' s=>⟨s,Fy (RQ.mono s h)⟩
  | _=>exact False.elim h
 | ex C=>exact h
 | bad=>exact False.elim h
theorem RQ.truth (h:RQ X σ H (r.bind fun d=>truth d t f) Q):RQ X σ H r fun v H'=>∃ k,v=.bl k/\if k=true then RQ X σ H' t Q else RQ X σ H' f Q:=by
 cases r with
 | ok d =>
  cases d with
  | bl k =>
   cases k with
   | true=>exact fun v H' s r=>by cases r;exact ⟨true,rfl,Fx (RQ.mono s h)⟩
   | false=>exact fun v H' s r=>by cases r;exact ⟨false,rfl,Fy (RQ.mono s h)⟩
  | _=>exact False.elim h
 | ex C=>exact h
 | bad=>exact False.elim h
theorem qs {k:Bool} {A B A' B':Prop} (h:if k=true then A else B) (f:A->A') (g:B->B'):if k=true then A' else B':=by
 cases k with
 | true=>exact Fx (f (by simpa using h))
 | false=>exact Fy (g (by simpa using h))
theorem rH (h:ST X a ga):ST X (.UnaryOp .Not a pos) (ya ga):=PT.weak (HS h) fun σ H Q ⟨δ,hσ,q⟩=>⟨δ,hσ,(RT.truth q).to fun k H' s ⟨_,z⟩=>by
 cases k with
 | true=>exact (show RT X σ H' (.ok (.bl false)) Q by simpa using z) H' ↥25
 | false=>exact (show RT X σ H' (.ok ↥36) Q by simpa using z) H' ↥25⟩
theorem t_w (h:SW X e g):ST X e g:=PW.pt h
theorem tW (h:ST X a ga):SW X (.BoolOp .And [a] pos) ga:=EA h
theorem lh (h:ST X a ga):SW X (.BoolOp .Or [a] pos) ga:=HN h
theorem w_and {rest:List Expr} (h:ST X a ga) (hb:SW X (.BoolOp .And (b::rest) pos) gb):SW X (.BoolOp .And (a::b::rest) pos) (tO ga gb) :=
 PW.weak (HP h hb) fun σ H Q ⟨δ,hσ,q⟩=>⟨δ,hσ,(RT.truth q).to fun k H' s ⟨_,z⟩=>qs z (fun z=>⟨δ,hσ.mono s,z⟩) (fun z=>z H' ↥25)⟩
theorem w_or {rest:List Expr} (h:ST X a ga) (hb:SW X (.BoolOp .Or (b::rest) pos) gb):SW X (.BoolOp .Or (a::b::rest) pos) (or_ ga gb) :=
 PW.weak (K3 h hb) fun σ H Q ⟨δ,hσ,q⟩=>⟨δ,hσ,(RT.truth q).to fun k H' s ⟨_,z⟩=>qs z (fun z=>z H' ↥25) (fun z=>⟨δ,hσ.mono s,z⟩)⟩
theorem sY {op} (h:SE X a g):SE X (.BoolOp op [a] pos) g:=H4 h
theorem vX {rest:List Expr} (h:SE X a ga) (hb:SE X (.BoolOp .And (b::rest) pos) gb):SE X (.BoolOp .And (a::b::rest) pos) (tO ga gb) :=
 PE.weak (Ij h hb) fun σ H Q ⟨δ,hσ,q⟩=>⟨δ,hσ,(RQ.truth q).to fun v H' s ⟨k,e,z⟩=>⟨k,e,qs z (fun z=>⟨δ,hσ.mono s,z⟩) (fun z=>z _ H' ↥25 (.bl _))⟩⟩
theorem Ro {rest:List Expr} (h:SE X a ga) (hb:SE X (.BoolOp .Or (b::rest) pos) gb):SE X (.BoolOp .Or (a::b::rest) pos) (or_ ga gb) :=
 PE.weak (K9 h hb) fun σ H Q ⟨δ,hσ,q⟩=>⟨δ,hσ,(RQ.truth q).to fun v H' s ⟨k,e,z⟩=>⟨k,e,qs z (fun z=>z _ H' ↥25 (.bl _)) (fun z=>⟨δ,hσ.mono s,z⟩)⟩⟩
theorem LN (h:SE X a ga):SE X (.UnaryOp .Not a pos) (ya ga):=PE.weak (Ia h) fun σ H Q ⟨δ,hσ,q⟩=>⟨δ,hσ,(RQ.truth q).to fun v H' s ⟨k,e,z⟩=>⟨k,e,by
 cases k with
 | true=>exact (show RQ X σ H' (.ok (.bl false)) Q by simpa using z) _ H' ↥25 (.bl _)
 | false=>exact (show RQ X σ H' (.ok ↥36) Q by simpa using z) _ H' ↥25 (.bl _)⟩⟩
theorem yX (h:ST X c gc) (ha:SE X a ga) (hb:SE X b gb):SE X (.IfExp c a b pos) (ife gc ga gb) :=
 PE.weak (AX h ha hb) fun σ H Q ⟨δ,hσ,q⟩=>⟨δ,hσ,(RQ.truthT q).to fun k H' s ⟨_,z⟩=>qs z (fun z=>⟨δ,hσ.mono s,z⟩) (fun z=>⟨δ,hσ.mono s,z⟩)⟩
theorem bZ:SA X [] []:=PA.weak uh fun σ H Q ⟨δ,hσ,h⟩=>h [] H (aC.refl H) .nil
theorem RA.cons (h:RA X σ H (evs (g::gs) δ) Q):RQ X σ H (g δ) fun v H1=>RA X σ H1 (evs gs δ) fun vs H2=>aC H1 H2->∀ d,Rep X.K X.mg H1 v d->Q (v::vs) H2:=by
 unfold evs at h
 cases q:g δ with
 | ok d =>
  rw [q] at h
  refine fun v H1 s1 r1 => ?_
  simp only [R.bind] at h
  cases q2:evs gs δ with
  | ok ds =>
   rw [q2] at h
   exact fun vs H2 s2 rs s2' d' r'=>h (v::vs) H2 (s1.trans s2) (.cons (r1.mono s2) rs)
  | ex C=>rw [q2] at h;exact fun Ca hc H' s'=>h Ca hc H' (s1.trans s')
  | bad=>rw [q2] at h;exact h
 | ex C=>rw [q] at h;exact h
 | bad=>rw [q] at h;exact h
theorem RA.to (h:RA X σ H r Q) (g:∀ v H',aC H H'->Q v H'->Q' v H'):RA X σ H r Q':=by
 cases r with
 | ok d=>exact fun v H' s r=>g v H' s (h v H' s r)
 | ex C=>exact h
 | bad=>exact h
theorem aj (ha:SE X e g) (hr:SA X es gs) (hs:starEach (e::es) X.env=↥38::starEach es X.env:=by rfl):SA X (e::es) (g::gs) :=
 PA.weak (oH ha hr hs) fun σ H Q ⟨δ,hσ,h⟩=>by
  refine ⟨δ,hσ,?_⟩
  cases q:g δ with
  | ok d =>
   have h':=RA.cons h
   rw [q] at h'
   exact fun v H1 s1 r1=>⟨δ,hσ.mono s1,(h' v H1 s1 r1).to fun vs H2 s2 z=>z s2 d r1⟩
  | ex C =>
   have h':=RA.cons h
   rw [q] at h'
   exact h'
  | bad =>
   have h':=RA.cons h
   rw [q] at h'
   exact h'
theorem bc {x1} (h:SA X es gs) (hl:es.length<=1000) (hg:gs.length=es.length:=by rfl):SE X (.Tuple es x1 pos) (df gs) :=
 PE.weak (H0 h) fun σ H Q ⟨δ,hσ,q⟩=>⟨δ,hσ,by
  have q':=RA.bind q
  cases e:evs gs δ with
  | ok ds =>
   have hd:ds.length=gs.length:=evs_len e
   rw [e] at q'
   refine fun vs H1 s1 rs => ?_
   obtain ⟨_,ds',rs',q2⟩:=q' vs H1 s1 rs
   refine ⟨by rw [rs.length,hd,hg];exact Nat.le_of_lt (lr hl),fun p hp=>q2 _ _ (bP hp _) (.tup (SqT.of bO) (rs'.mono (bP hp _)))⟩
  | ex C=>rw [e] at q';exact q'
  | bad=>rw [e] at q';exact q'⟩
where
 evs_len {δ:Dt}:∀ {gs:List E} {ds:List D},evs gs δ=.ok ds->ds.length=gs.length
  | [],ds,e=>by cases e;rfl
  | g::gs,ds,e=>by
   unfold evs at e
   cases q:g δ with
   | ok d =>
    rw [q] at e
    simp only [R.bind] at e
    cases q2:evs gs δ with
    | ok ds'=>rw [q2] at e;cases e;simp [evs_len q2]
    | ex C=>rw [q2] at e;cases e
    | bad=>rw [q2] at e;cases e
   | ex C=>rw [q] at e;cases e
   | bad=>rw [q] at e;cases e
theorem lZ (h:SA X es gs) (hl:es.length<=1000) (hg:gs.length=es.length:=by rfl):SE X (.List es pos) (vM gs) :=
 PE.weak (Ie h) fun σ H Q ⟨δ,hσ,q⟩=>⟨δ,hσ,by
  have q':=RA.bind q
  cases e:evs gs δ with
  | ok ds =>
   have hd:ds.length=gs.length:=bc.evs_len e
   rw [e] at q'
   refine fun vs H1 s1 rs => ?_
   obtain ⟨_,ds',rs',q2⟩:=q' vs H1 s1 rs
   refine ⟨by rw [rs.length,hd,hg];exact Nat.le_of_lt (lr hl),fun p hp=>q2 _ _ (bP hp _) (.lst (SqL.of bO) (rs'.mono (bP hp _)))⟩
  | ex C=>rw [e] at q';exact q'
  | bad=>rw [e] at q';exact q'⟩
theorem QN:mi oIx:=fun x y C z=>by
 unfold oIx at z
 split at z
 ·split at z<;>cases z
 ·split at z<;>cases z
 ·split at z
  ·split at z<;>cases z
  ·cases z
 ·cases z
theorem uM (rs:Reps X.K X.mg H xs ds) (h:((EV.ixN ds.length i).bind fun j=>ds[j]?)=some d):∃ v,atI xs i=some v/\Rep X.K X.mg H v d:=by
 have el:=rs.length
 cases q:EV.ixN ds.length i with
 | none=>rw [q] at h;cases h
 | some j =>
  rw [q] at h
  obtain ⟨v,h1,h2⟩:=rs.get h
  refine ⟨v,?_,h2⟩
  unfold atI
  rw [el,show L2.ixN ds.length i=some j from q]
  exact h1
theorem Q4:IxR X (rD X oIx):=by
 intro value slice pins s σ H x y v u Q I rx ry ⟨dx,dy,d,r1,r2,e,q⟩ hs
 unfold oIx at e
 split at e
 ·split at e
  ·rename_i h
   cases e;cases r1;cases r2
   rename_i a xs hq rs
   obtain ⟨w,h1,h2⟩:=uM rs h
   exact m7 value slice pins s σ H _ _ v u Q I rx ry ⟨a,xs,_,w,rfl,rfl,hq,h1,q _ _ ↥25 h2⟩ hs
  ·cases e
 ·split at e
  ·rename_i h
   cases e;cases r1;cases r2
   rename_i a xs hq rs
   obtain ⟨w,h1,h2⟩:=uM rs h
   exact Fv value slice pins s σ H _ _ v u Q I rx ry ⟨a,xs,_,w,rfl,rfl,hq,h1,q _ _ ↥25 h2⟩ hs
  ·cases e
 ·split at e
  ·rename_i hz
   split at e
   ·rename_i c h
    cases e;cases r1;cases r2
    refine Jk value slice pins s σ H _ _ v u Q I rx ry ⟨_,_,c,rfl,rfl,Nat.le_trans hz (by rw [sizeLine_eq];decide),?_,q _ _ ↥25 (.str _)⟩ hs
    exact h
   ·cases e
  ·cases e
 ·cases e
theorem pT (ha:SE X a ga) (hb:SE X b gb) (hs:zC b:=by intro _ _;rfl):SE X (.Subscript a b pos) (EV.bin oIx ga gb) :=
 PE.weak (Lb Q4 ha hb hs) fun σ H Q h=>by
  obtain ⟨δ,hσ,q⟩:=zh h
  refine ⟨δ,hσ,q.to fun x H1 s1 ⟨δ1,hσ1,q1⟩=>⟨δ1,hσ1,q1.to fun y H2 s2 ⟨dx,dy,r1,r2,q2⟩=>RQ.op QN r1 r2 q2⟩⟩
end
end ES
namespace ES
open PySem PySem.Spec PyProof.Rows L2 EV
unseal SE ST SW SA
abbrev Os:=List (Nat×Addr)
def j5 (os:Os):List Addr:=os.map (·.2)
def hide (H:Hp) (os:Os):Hp:=fun a=>if a∈j5 os then none else H a
theorem uw (H:Hp):hide H []=H:=by
 funext a
 unfold hide j5
 simp
theorem oX {H:Hp} {os:Os} {a:Addr} (h:a∈j5 os):hide H os a=none:=if_pos h
theorem cG {H:Hp} {os:Os} {a:Addr} (h:a∉j5 os):hide H os a=H a:=if_neg h
theorem bp (H:Hp) (os:Os):aC ↥26 H:=fun b o e=>by
 unfold hide at e
 split at e
 ·cases e
 ·exact e
theorem gq (os:Os) (s:aC H H'):aC ↥26 (hide H' os):=fun b o e=>by
 unfold hide at e ⊢
 split at e
 ·cases e
 ·rename_i h
  rw [if_neg h]
  exact s b o e
structure StO (X:Cx) (H:Hp) (σ:L2.St) (δ:Dt) (os:Os):Prop where
 st:Stt X.K X.mg ↥26 σ δ
 lst:∀ p∈os,∃ xs ds,H p.2=some (.lst xs)/\σ[p.1]? = some (some (.ref p.2))/\δ[p.1]? = some (some (.own ds))/\Reps X.K X.mg ↥26 xs ds
 own:∀ i ds,δ[i]? = some (some (.own ds))->∃ a,(i,a)∈os
 inj:∀ i j a,(i,a)∈os->(j,a)∈os->i=j
theorem i9 {os:Os} {a:Addr} (h:a∈j5 os):∃ p∈os,p.2=a:=by
 obtain ⟨p,hp,e⟩:=List.mem_map.mp h
 exact ⟨p,hp,e⟩
theorem jr {os:Os} {p:Nat×Addr} (h:p∈os):p.2∈j5 os:=List.mem_map.mpr ⟨p,h,rfl⟩
def Cw (h:Heap) (os:Os):List ↥12:=mW (j5 os) h
section
variable {X:Cx} {pins:List ↥12} {σ:L2.St} {H H':Hp} {s s':Shared} {os:Os}
def J2 (H:Hp) (os:Os):Prop:=∀ a∈j5 os,∃ xs,H a=some (.lst xs)
theorem kS (I:Inv X pins σ H s) (hl:J2 H os):Inv X (pins++Cw s.heap os) σ ↥26 s:=by
 have ne:∀ {b:Addr} {o:HO},H b=some o->(∀ xs,o ≠ .lst xs)->hide H os b=some o:=fun {b o} e n=>by
  rw [cG fun z => ?_];exact e
  obtain ⟨xs,q⟩:=hl b z
  rw [e] at q
  exact n xs (Option.some.inj q)
 refine ⟨I.ok,I.os,I.bare,⟨I.base.keep,I.base.slot,fun b o e n hx => ?_,I.base.there,fun b xs e => ?_,fun b o u e => ?_,fun b ps e => ?_⟩,I.loc,I.cell,?_,fun x c e => ?_,fun p hp => ?_,fun a o e => ?_,I.len⟩
 ·unfold hide;split
  ·rfl
  ·exact I.base.free b o e n hx
 ·exact ne (I.base.tups b xs e) fun _ z=>nomatch z
 ·exact ne (I.base.frzs b o u e) fun _ z=>nomatch z
 ·obtain ⟨more,q⟩:=I.base.tbls b ps e
  exact ⟨more,ne q fun _ z=>nomatch z⟩
 ·unfold hide;split
  ·rfl
  ·exact I.free
 ·unfold hide;split
  ·rfl
  ·exact I.freeC x c e
 ·rw [<- List.append_assoc] at hp
  rcases List.mem_append.mp hp with z | z
  ·obtain ⟨e,n,r⟩:=I.pin p z
   refine ⟨e,?_,r⟩
   unfold hide;split
   ·rfl
   ·exact n
  ·obtain ⟨hb,e⟩:=qj z
   obtain ⟨xs,q⟩:=hl p.1 hb
   obtain ⟨_,its,n,_,e'⟩:=I.hok p.1 _ q
   rw [e] at e'
   have e2:p.2={ cls:=.type "list",data:=.seq its.toArray n }:=Option.some.inj e'
   refine ⟨e,oX hb,fun z => ?_,fun z => ?_,fun v z => ?_⟩
   ·rw [z,I.free] at q;cases q
   ·have hx:p.1∉X.ex:=fun w=>I.ok.exfs p.1 w z
    obtain ⟨_,o0,ho0,_⟩:=I.ok.funs.mem z
    rw [I.base.free p.1 o0 ho0 (I.ok.frf p.1 z) hx] at q;cases q
   ·rw [e2] at z;cases z
 ·have hna:a∉j5 os:=fun z=>by rw [oX z] at e;cases e
  rw [cG hna] at e
  exact (I.hok a o e).stay (fun _ _ _ q=>q) (fun b q=>ne q fun _ z=>nomatch z) fun b xs q=>ne q fun _ z=>nomatch z
def fz (H H':Hp) (os:Os):Hp:=fun a=>if a∈j5 os then H a else H' a
theorem jc (h:∀ a∈j5 os,H' a=none):hide (fz H H' os) os=H':=by
 funext a
 unfold hide fz
 by_cases z:a∈j5 os
 ·rw [if_pos z,h a z]
 ·rw [if_neg z,if_neg z]
theorem kR (hx:X.ex=[]) (I0:Inv X pins σ H s) (hl:J2 H os) (I:Inv X (pins++Cw s.heap os) σ H' s'):Inv X pins σ (fz H H' os) s'/\∀ a∈j5 os,H' a=none:=by
 have pin:∀ a∈j5 os,∃ o,s.heap.get? a=some o/\s'.heap.get? a=some o/\H' a=none/\a≠X.env.locals/\a∉X.fs:=fun a ha=>by
  obtain ⟨xs,q⟩:=hl a ha
  obtain ⟨o,e⟩:∃ o,s.heap.get? a=some o:=by
   obtain ⟨_,its,n,_,e⟩:=I0.hok a _ q
   exact ⟨_,e⟩
  obtain ⟨e1,e2,e3,e4,_⟩:=I.pin (a,o) (List.mem_append_right _ (List.mem_append_right _ (dH ha e)))
  exact ⟨o,e,e1,e2,e3,e4⟩
 have hn:∀ a∈j5 os,H' a=none:=fun a ha=>(pin a ha).choose_spec.2.2.1
 have vis:∀ {b:Addr} {o:HO},H' b=some o->fz H H' os b=some o:=fun {b o} e=>by
  unfold fz;rw [if_neg fun z => ?_];exact e
  rw [hn b z] at e;cases e
 refine ⟨⟨I.ok,I.os,I.bare,⟨I.base.keep,I.base.slot,fun b o e n hx' => ?_,I.base.there,fun b xs e=>vis (I.base.tups b xs e),fun b o u e=>vis (I.base.frzs b o u e),fun b ps e => ?_⟩,I.loc,I.cell,?_,fun x c e => ?_,fun p hp => ?_,fun a o e => ?_,I.len⟩,hn⟩
 ·unfold fz;split
  ·exact I0.base.free b o e n hx'
  ·exact I.base.free b o e n hx'
 ·obtain ⟨more,q⟩:=I.base.tbls b ps e
  exact ⟨more,vis q⟩
 ·unfold fz;split
  ·exact I0.free
  ·exact I.free
 ·unfold fz;split
  ·exact I0.freeC x c e
  ·exact I.freeC x c e
 ·obtain ⟨e,n,r⟩:=I.pin p (by rw [<- List.append_assoc];exact List.mem_append_left _ hp)
  refine ⟨e,?_,r⟩
  unfold fz;split
  ·exact (I0.pin p hp).2.1
  ·exact n
 ·by_cases z:a∈j5 os
  ·obtain ⟨ob,e0,e1,_⟩:=pin a z
   unfold fz at e
   rw [if_pos z] at e
   obtain ⟨xs,q⟩:=hl a z
   rw [e] at q
   have q':o=.lst xs:=Option.some.inj q
   subst q'
   obtain ⟨hz,its,n,r,e2⟩:=I0.hok a _ e
   rw [e0] at e2
   have e3:ob=_:=Option.some.inj e2
   subst e3
   exact ⟨hz,its,n,r,e1⟩
  ·unfold fz at e
   rw [if_neg z] at e
   exact (I.hok a o e).stay (fun _ _ _ q=>q) (fun b q=>vis q) fun b xs q=>vis q
end
section
variable {K:PySem.W.Frag} {mg:Str->Option Value} {H H':Hp}
def NoL (H H':Hp):Prop:=∀ b o,H b=some o->(∀ xs,o ≠ .lst xs)->(∀ ob xs,o ≠ .frz ob (.lst xs))->H' b=some o
theorem AE (k:NoL H H') (h:SqT K H a xs):SqT K H' a xs:=by
 rcases h with (h | ⟨o,h⟩) | h
 ·exact .inl (.inl (k _ _ h (fun _ z=>nomatch z) fun _ _ z=>nomatch z))
 ·exact .inl (.inr ⟨o,k _ _ h (fun _ z=>nomatch z) fun _ _ z=>by cases z⟩)
 ·exact .inr h
mutual
theorem oB (k:NoL H H'):∀ {v:V} {d:D},d.flat=true->Rep K mg H v d->Rep K mg H' v d
 | _,_,_,.non=>.non
 | _,_,_,.bl b=>.bl b
 | _,_,_,.int i=>.int i
 | _,_,_,.str x=>.str x
 | _,.tup ds,f,.tup h r=>.tup (AE k h) (kO k (by simpa [D.flat] using f) r)
 | _,.lst ds,f,_=>by simp [D.flat] at f
 | _,_,_,.ty n=>.ty n
 | _,_,_,.cls h=>.cls h
 | _,_,_,.exc h e=>.exc h (k _ _ e (fun _ z=>nomatch z) fun _ _ z=>nomatch z)
 | _,.ins n ds,f,.ins h e r=>.ins h (k _ _ e (fun _ z=>nomatch z) fun _ _ z=>nomatch z) (ue k (by simpa [D.flat] using f) r)
theorem kO (k:NoL H H'):∀ {vs:List V} {ds:List D},D.flats ds=true->Reps K mg H vs ds->Reps K mg H' vs ds
 | _,_,_,.nil=>.nil
 | _,d::r,f,.cons h t=>by
  have f':d.flat=true/\D.flats r=true:=by simpa [D.flats] using f
  exact .cons (oB k f'.1 h) (kO k f'.2 t)
theorem ue (k:NoL H H'):∀ {vs:List (Str×V)} {ds:List (String×D)},D.flatf ds=true->Repf K mg H vs ds->Repf K mg H' vs ds
 | _,_,_,.nil=>.nil
 | _,(_,d)::r,f,.cons h t=>by
  have f':d.flat=true/\D.flatf r=true:=by simpa [D.flatf] using f
  exact .cons (oB k f'.1 h) (ue k f'.2 t)
end
theorem uj {os:Os} (hl:J2 H os):NoL H ↥26:=fun b o e n _=>by
 rw [cG fun z => ?_];exact e
 obtain ⟨xs,q⟩:=hl b z
 rw [e] at q
 exact n xs (Option.some.inj q)
end
section
variable {X:Cx} {σ:L2.St} {δ:Dt} {H H':Hp} {os:Os}
theorem StO.lsts (S:StO X H σ δ os):J2 H os:=fun a ha=>by
 obtain ⟨p,hp,rfl⟩:=i9 ha
 obtain ⟨xs,_,h,_⟩:=S.lst p hp
 exact ⟨xs,h⟩
theorem StO.nil (h:Stt X.K X.mg H σ δ) (hn:∀ (i:Nat) (ds:List D),δ[i]? ≠ some (some (.own ds))):StO X H σ δ []:=⟨by rw [uw];exact h,fun p hp=>(nomatch hp),fun i ds e=>absurd e (hn i ds),fun _ _ _ z=>(nomatch z)⟩
theorem StO.mono (S:StO X H σ δ os) (s:aC H H'):StO X H' σ δ os :=
 ⟨S.st.mono (gq os s),fun p hp=>let ⟨xs,ds,a,b,c,d⟩:=S.lst p hp;⟨xs,ds,s _ _ a,b,c,d.mono (gq os s)⟩,S.own,S.inj⟩
theorem StO.shown (S:StO X H σ δ os) (s:aC ↥26 H') (hn:∀ a∈j5 os,H' a=none):StO X (fz H H' os) σ δ os:=by
 have e:=jc (H:=H) hn
 refine ⟨by rw [e];exact S.st.mono s,fun p hp => ?_,S.own,S.inj⟩
 obtain ⟨xs,ds,a,b,c,d⟩:=S.lst p hp
 exact ⟨xs,ds,by unfold fz;rw [if_pos (jr hp)];exact a,b,c,by rw [e];exact d.mono s⟩
theorem StO.view (S:StO X H σ δ os):Stt X.K X.mg H σ (view δ):=by
 refine ⟨by unfold EV.view;rw [List.length_map];exact S.st.1,fun i d e n => ?_⟩
 unfold EV.view at e
 rw [List.getElem?_map] at e
 cases q:δ[i]? with
 | none=>rw [q] at e;cases e
 | some c =>
  rw [q] at e
  cases c with
  | none=>cases e
  | some d0 =>
   by_cases ho:∃ ds,d0=.own ds
   ·obtain ⟨ds,rfl⟩:=ho
    have e':D.lst ds=d:=Option.some.inj (Option.some.inj e)
    subst e'
    obtain ⟨a,ha⟩:=S.own i ds q
    obtain ⟨xs,ds',h1,h2,h3,h4⟩:=S.lst _ ha
    rw [q] at h3
    cases h3
    exact ⟨.ref a,h2,.lst (SqL.of h1) (h4.mono (bp H os))⟩
   ·have e':d0=d:=by
     cases d0<;>first | exact absurd ⟨_,rfl⟩ ho | exact Option.some.inj (Option.some.inj e)
    subst e'
    obtain ⟨v,h1,h2⟩:=S.st.2 i d0 q n
    exact ⟨v,h1,h2.mono (bp H os)⟩
theorem StO.noOwn (S:StO X H σ δ os) (s:aC ↥26 H'):Stt X.K X.mg H' σ (noOwn δ):=by
 refine ⟨by unfold EV.noOwn;rw [List.length_map];exact S.st.1,fun i d e n => ?_⟩
 unfold EV.noOwn at e
 rw [List.getElem?_map] at e
 cases q:δ[i]? with
 | none=>rw [q] at e;cases e
 | some c =>
  rw [q] at e
  cases c with
  | none=>cases e
  | some d0 =>
   by_cases ho:∃ ds,d0=.own ds
   ·obtain ⟨ds,rfl⟩:=ho
    cases e
   ·have e':d0=d:=by
     cases d0<;>first | exact absurd ⟨_,rfl⟩ ho | exact Option.some.inj (Option.some.inj e)
    subst e'
    obtain ⟨v,h1,h2⟩:=S.st.2 i d0 q n
    exact ⟨v,h1,h2.mono s⟩
end
def FQ (X:Cx) (σ:L2.St) (H:Hp) (os:Os) (δ:Dt) (r:R D) (Q:VK):Prop:=match r with
 | .ok d=>∀ v H',StO X H' σ δ os->aC ↥26 (hide H' os)->Rep X.K X.mg (hide H' os) v d->Q v H'
 | .ex C=>∀ Ca,X.mg C=some (.ref Ca)->∀ H',aC ↥26 H'->Stt X.K X.mg H' σ (noOwn δ)->ew X Ca σ H'
 | .bad=>False
def tF (X:Cx) (g:E):TE:=fun σ H Q=>∃ δ os,StO X H σ δ os/\FQ X σ H os δ (g δ) Q
def FT (X:Cx) (σ:L2.St) (H:Hp) (os:Os) (δ:Dt) (r:R D) (Q:Bool->Hp->Prop):Prop:=match r with
 | .ok (.bl b)=>∀ H',StO X H' σ δ os->aC ↥26 (hide H' os)->Q b H'
 | .ex C=>∀ Ca,X.mg C=some (.ref Ca)->∀ H',aC ↥26 H'->Stt X.K X.mg H' σ (noOwn δ)->ew X Ca σ H'
 | _=>False
def tFT (X:Cx) (g:E):TT:=fun σ H Q=>∃ δ os,StO X H σ δ os/\FT X σ H os δ (g δ) Q
section
variable {X:Cx} {e:Expr} {g:E}
theorem yQ (hx:X.ex=[]) (h:SE X e g):PE X e (tF X g):=by
 intro pins s σ H Q I ⟨δ,os,S,q⟩
 have hl:=S.lsts
 have hw:RQ X σ ↥26 (g δ) (fun v H1=>aC ↥26 H1/\∃ d,g δ=.ok d/\Rep X.K X.mg H1 v d):=by
  cases r:g δ with
  | ok d=>exact fun v H' s r=>⟨s,d,rfl,r⟩
  | ex C =>
   rw [r] at q
   exact fun Ca hc H' s'=>q Ca hc H' s' (S.noOwn s')
  | bad=>rw [r] at q;exact q
 refine thn (h _ s σ _ _ (kS I hl) ⟨δ,S.st,hw⟩) fun u s' ⟨v,H1,I1,rv,sm,d,e,rd⟩ => ?_
 obtain ⟨I2,hn⟩:=kR hx I hl I1
 rw [e] at q
 have eh:=jc (H:=H) hn
 exact ⟨v,_,I2,rv,q v _ (S.shown sm hn) (by rw [eh];exact sm) (by rw [eh];exact rd)⟩
theorem CJ (hx:X.ex=[]) (h:ST X e g):PT X e (tFT X g):=by
 intro pins s σ H Q I ⟨δ,os,S,q⟩
 have hl:=S.lsts
 have hw:RT X σ ↥26 (g δ) (fun b H1=>aC ↥26 H1/\g δ=.ok (.bl b)):=by
  cases r:g δ with
  | ok d =>
   rw [r] at q
   cases d with
   | bl b=>exact fun H' s=>⟨s,rfl⟩
   | _=>exact False.elim q
  | ex C =>
   rw [r] at q
   exact fun Ca hc H' s'=>q Ca hc H' s' (S.noOwn s')
  | bad=>rw [r] at q;exact False.elim q
 refine thn (h _ s σ _ _ (kS I hl) ⟨δ,S.st,hw⟩) fun b s' ⟨H1,I1,sm,e⟩ => ?_
 obtain ⟨I2,hn⟩:=kR hx I hl I1
 rw [e] at q
 have eh:=jc (H:=H) hn
 exact ⟨_,I2,q _ (S.shown sm hn) (by rw [eh];exact sm)⟩
def tB (X:Cx) (g:E):TE:=fun σ H Q=>∃ δ os,StO X H σ δ os/\(∀ d,g (view δ)=.ok d->d.flat=true)/\FQ X σ H os δ (g (view δ)) Q
def tBT (X:Cx) (g:E):TT:=fun σ H Q=>∃ δ os,StO X H σ δ os/\FT X σ H os δ (g (view δ)) Q
theorem F5 (h:SE X e g):PE X e (tB X g):=by
 intro pins s σ H Q I ⟨δ,os,S,hf,q⟩
 refine h pins s σ H Q I ⟨_,S.view,?_⟩
 cases r:g (view δ) with
 | ok d =>
  rw [r] at q
  refine fun v H' s r'=>q v H' (S.mono s) (gq os s) (oB (uj ((S.mono s).lsts)) (hf d r) r')
 | ex C =>
  rw [r] at q
  exact fun Ca hc H' s'=>q Ca hc H' ((bp H os).trans s') (S.noOwn ((bp H os).trans s'))
 | bad=>rw [r] at q;exact q
theorem F4 (h:ST X e g):PT X e (tBT X g):=by
 intro pins s σ H Q I ⟨δ,os,S,q⟩
 refine h pins s σ H Q I ⟨_,S.view,?_⟩
 cases r:g (view δ) with
 | ok d =>
  rw [r] at q
  cases d with
  | bl b=>exact fun H' s=>q H' (S.mono s) (gq os s)
  | _=>exact False.elim q
 | ex C =>
  rw [r] at q
  exact fun Ca hc H' s'=>q Ca hc H' ((bp H os).trans s') (S.noOwn ((bp H os).trans s'))
 | bad=>rw [r] at q;exact False.elim q
end
def OQ (X:Cx) (D:Ends) (F:Hp):O->Prop
 | .nx δ=>∀ σ H os,StO X H σ δ os->aC F ↥26->D.nx σ H
 | .bk δ=>∀ σ H os,StO X H σ δ os->aC F ↥26->D.bk σ H
 | .ct δ=>∀ σ H os,StO X H σ δ os->aC F ↥26->D.ct σ H
 | .rt d=>∀ v H,aC F H->Rep X.K X.mg H v d->D.rt v H
 | .ex C δ=>∀ σ H,aC F H->Stt X.K X.mg H σ δ->∀ Ca,X.mg C=some (.ref Ca)->ew X Ca σ H
 | .mk C δ=>∀ σ H,aC F H->∀ Ca,X.mg C=some (.ref Ca)->em X Ca σ H
 | .hx C δ=>∀ σ H,aC F H->Stt X.K X.mg H σ δ->∀ Ca,X.mg C=some (.ref Ca)->ehx X Ca σ H
 | .bad=>False
def tS (X:Cx) (g:S):TS:=fun D σ H=>∃ δ os,StO X H σ δ os/\OQ X D ↥26 (g δ)
@[irreducible] def SS (X:Cx) (st:Stmt) (g:S):Prop:=PS X st (tS X g)
@[irreducible] def SSs (X:Cx) (st:List Stmt) (g:S):Prop:=PSs X st (tS X g)
unseal SS SSs
theorem OQ.mono {X:Cx} {D:Ends} {F F':Hp} {o:O} (s:aC F F') (h:OQ X D F o):OQ X D F' o:=by
 cases o with
 | nx δ=>exact fun σ H os S s'=>h σ H os S (s.trans s')
 | bk δ=>exact fun σ H os S s'=>h σ H os S (s.trans s')
 | ct δ=>exact fun σ H os S s'=>h σ H os S (s.trans s')
 | rt d=>exact fun v H s' r=>h v H (s.trans s') r
 | ex C δ=>exact fun σ H s' S=>h σ H (s.trans s') S
 | mk C δ=>exact fun σ H s'=>h σ H (s.trans s')
 | hx C δ=>exact fun σ H s' S=>h σ H (s.trans s') S
 | bad=>exact h
theorem OQ.lv {X:Cx} {D:Ends} {F:Hp} {o:O} {n:L2.St->Hp->Prop} (hn:∀ δ,o ≠ .nx δ) (h:OQ X D F o):OQ X { D with nx:=n } F o:=by
 cases o with
 | nx δ=>exact absurd rfl (hn δ)
 | _=>exact h
section
variable {X:Cx} {N:List Str} {H:Hp} {σ:L2.St} {δ:Dt} {os:Os}
theorem bS (os:Os) (i:Nat):∀ p∈os.filter (fun p=>p.1 != i),p∈os/\p.1≠i:=fun p hp=>by
 have:=List.mem_filter.mp hp
 exact ⟨this.1,by simpa using this.2⟩
theorem qv (h:∀ p∈os',p∈os):aC ↥26 (hide H os'):=fun b o e=>by
 have hb:b∉j5 os:=fun z=>by rw [oX z] at e;cases e
 rw [cG hb] at e
 rw [cG fun z => ?_];exact e
 obtain ⟨p,hp,rfl⟩:=i9 z
 exact hb (jr (h p hp))
theorem StO.set (S:StO X H σ δ os) (r:Rep X.K X.mg ↥26 v d):StO X H (σ.set i (some v)) (δ.set i (some d)) (os.filter fun p=>p.1 != i)/\aC ↥26 (hide H (os.filter fun p=>p.1 != i)):=by
 have sm:aC ↥26 (hide H (os.filter fun p=>p.1 != i)):=qv fun p hp=>(bS os i p hp).1
 refine ⟨⟨(S.st.mono sm).set (r.mono sm),fun p hp => ?_,fun j ds e => ?_,fun a b c h1 h2=>S.inj a b c (bS os i _ h1).1 (bS os i _ h2).1⟩,sm⟩
 ·obtain ⟨hp',ne⟩:=bS os i p hp
  obtain ⟨xs,ds,h1,h2,h3,h4⟩:=S.lst p hp'
  exact ⟨xs,ds,h1,by rw [List.getElem?_set_ne (Ne.symm ne)];exact h2,by rw [List.getElem?_set_ne (Ne.symm ne)];exact h3,h4.mono sm⟩
 ·by_cases hj:j=i
  ·subst hj
   by_cases hl:j<δ.length
   ·rw [List.getElem?_set_self hl] at e
    have e':d=.own ds:=Option.some.inj (Option.some.inj e)
    subst e'
    cases r
   ·rw [List.getElem?_eq_none (by simp;omega)] at e
    cases e
  ·rw [List.getElem?_set_ne (Ne.symm hj)] at e
   obtain ⟨a,ha⟩:=S.own j ds e
   exact ⟨a,List.mem_filter.mpr ⟨ha,by simpa using hj⟩⟩
structure Sx (X:Cx) (N:List Str):Prop where
 sc:Sc X N
 ex:X.ex=[]
variable {e c:Expr} {g gc:E} {pos:Pos} {st:Stmt} {rest body els:List Stmt} {gs gr gb ge:S}
theorem FQ.then {r:R EV.D} {Q:VK} {D:Ends} {f:EV.D->O} (h:OQ X D ↥26 (match r with | .ok d=>f d | .ex C=>.ex C (noOwn δ) | .bad=>.bad))
  (hq:∀ d v H',r=.ok d->StO X H' σ δ os->aC ↥26 (hide H' os)->Rep X.K X.mg (hide H' os) v d->OQ X D (hide H' os) (f d)->Q v H'):FQ X σ H os δ r Q:=by
 cases r with
 | ok d=>exact fun v H' S s r=>hq d v H' rfl S s r (OQ.mono s h)
 | ex C=>exact fun Ca hc H' s' st=>h σ H' s' st Ca hc
 | bad=>exact h
theorem aA:SSs X [] az:=PSs.weak EB fun D σ H ⟨δ,os,S,h⟩=>h σ H os S ↥25
theorem ao (h:SS X st gs):SSs X [st] gs:=xE h
theorem ah (h:SS X st gs) (hr:SSs X rest gr):SSs X (st::rest) (seq gs gr):=PSs.weak (AV h hr) fun D σ H ⟨δ,os,S,h⟩=>⟨δ,os,S,by
 unfold seq at h
 cases q:gs δ with
 | nx δ' =>
  rw [q] at h
  exact fun σ' H' os' S' s'=>⟨δ',os',S',OQ.mono s' h⟩
 | _=>rw [q] at h;exact OQ.lv (fun _ z=>nomatch z) h⟩
theorem KQ (C:Sx X N) (i:Nat) (hN:N[i]? = some x) (hx:Sto X x) (h:SE X e g) (hsw:swapsWith e (some (.Name x pos')) pos.line X.env=pure false:=by rfl):SS X (.Assign [.Name x pos'] e pos) (assign i g) :=
 PS.weak (HU (i:=i) (by rw [C.sc.n];exact C.sc.nd) (by rw [C.sc.n];exact hN) hx.1 (yQ C.ex h) hsw hx.2) fun D σ H ⟨δ,os,S,q⟩=>⟨δ,os,S,FQ.then q fun d v H' e S' s r q'=>by
  obtain ⟨S2,s2⟩:=S'.set (i:=i) r
  exact q' _ _ _ S2 s2⟩
theorem HD (C:Sx X N) (h:SE X e g) (hs:swapsWith e none pos.line X.env=pure false:=by rfl):SS X (.Expr e pos) (expr g) :=
 PS.weak (xF (yQ C.ex h) hs) fun D σ H ⟨δ,os,S,q⟩=>⟨δ,os,S,FQ.then q fun d v H' e S' s r q'=>q' _ _ _ S' ↥25⟩
theorem KR (C:Sx X N) (h:SE X e g):SS X (.Return (some e) pos) (ret g) :=
 PS.weak (HV (yQ C.ex h)) fun D σ H ⟨δ,os,S,q⟩=>⟨δ,os,S,FQ.then q fun d v H' e S' s r q'=>q' v H' (bp _ _) (r.mono (bp _ _))⟩
theorem FT.then {r:R EV.D} {Q:Bool->Hp->Prop} {D:Ends} {ta fa:O} (h:OQ X D ↥26 (match r with | .ok ↥36=>ta | .ok (.bl false)=>fa | .ex C=>.ex C (noOwn δ) | _=>.bad))
  (hq:∀ b H',StO X H' σ δ os->aC ↥26 (hide H' os)->OQ X D (hide H' os) (if b=true then ta else fa)->Q b H'):FT X σ H os δ r Q:=by
 cases r with
 | ok d =>
  cases d with
  | bl b =>
   cases b with
   | true=>exact fun H' S s=>hq true H' S s (by rw [if_pos rfl];exact OQ.mono s h)
   | false=>exact fun H' S s=>hq false H' S s (by rw [if_neg ↥1];exact OQ.mono s h)
  | _=>exact h
 | ex C=>exact fun Ca hc H' s' st=>h σ H' s' st Ca hc
 | bad=>exact h
theorem Pw (C:Sx X N) (hc:ST X c gc) (ha:SSs X body gb) (hb:SSs X els ge):SS X (.If c body els pos) (ifs gc gb ge) :=
 PS.weak (HW (CJ C.ex hc) ha hb) fun D σ H ⟨δ,os,S,q⟩=>⟨δ,os,S,FT.then q fun b H' S' s q'=>by
  cases b with
  | true=>exact Fx ⟨δ,os,S',by simpa using q'⟩
  | false=>exact Fy ⟨δ,os,S',by simpa using q'⟩⟩
theorem jY {α:Type} {xs:List α} {n:Nat} {x:α} (h:xs[n]? = some x):xs.drop n=x::xs.drop (n+1):=by
 obtain ⟨h1,h2⟩:=List.getElem?_eq_some_iff.mp h
 rw [List.drop_eq_getElem_cons h1,h2]
def Pv (X:Cx) (D:Ends) (F F1:Hp) (i:Nat) (gb:S) (ds:List EV.D) (n:Nat) (σ:L2.St) (H:Hp):Prop:=∃ δ os,StO X H σ δ os/\aC F1 ↥26/\aC F F1/\OQ X D F (forL i gb (ds.drop n) δ)
theorem Av {D:Ends} {F F1:Hp} {i n:Nat} {ds:List EV.D} {d:EV.D} {v:V} {δ:Dt} {os:Os} (hd:ds[n]? = some d) (S:StO X H σ δ os) (s1:aC F1 ↥26) (s0:aC F F1) (q:OQ X D F (forL i gb (ds.drop n) δ)) (r:Rep X.K X.mg ↥26 v d) :
  vU i v σ H fun σ2 H2=>tS X gb { D with nx:=Pv X D F F1 i gb ds (n+1),ct:=Pv X D F F1 i gb ds (n+1),bk:=D.nx } σ2 H2:=by
 rw [jY hd] at q
 obtain ⟨S2,s2⟩:=S.set (i:=i) r
 refine ⟨_,_,S2,?_⟩
 unfold forL trn at q
 have s3:=(s0.trans s1).trans s2
 cases e:gb (δ.set i (some d)) with
 | nx δ1=>rw [e] at q;exact fun σ' H' os' S' s'=>⟨δ1,os',S',(s1.trans s2).trans s',s0,q⟩
 | ct δ1=>rw [e] at q;exact fun σ' H' os' S' s'=>⟨δ1,os',S',(s1.trans s2).trans s',s0,q⟩
 | bk δ1=>rw [e] at q;exact fun σ' H' os' S' s'=>q σ' H' os' S' (s3.trans s')
 | rt d'=>rw [e] at q;exact fun v' H' s' r'=>q v' H' (s3.trans s') r'
 | ex C δ1=>rw [e] at q;exact fun σ' H' s' r'=>q σ' H' (s3.trans s') r'
 | mk C δ1=>rw [e] at q;exact fun σ' H' s'=>q σ' H' (s3.trans s')
 | hx C δ1=>rw [e] at q;exact fun σ' H' s' r'=>q σ' H' (s3.trans s') r'
 | bad=>rw [e] at q;exact q
theorem JE {D:Ends} {F F1:Hp} {i n:Nat} {ds:List EV.D} (hn:ds.length<=n) (p:Pv X D F F1 i gb ds n σ H):D.nx σ H:=by
 obtain ⟨δ,os,S,s1,s0,q⟩:=p
 rw [List.drop_eq_nil_of_le hn] at q
 exact q σ H os S (s0.trans s1)
structure Lp (X:Cx):Prop where
 own:PassesOwn ↥7 X.A X.env X.xe
 calm:X.calm=true
theorem bz {c:E} {b:S}:∀ {n:Nat} {δ:Dt},bG c b n δ ≠ .bad->∀ k,bG c b (n+k) δ=bG c b n δ
 | 0,δ,h,_=>absurd rfl h
 | n+1,δ,h,k=>by
  rw [show n+1+k=(n+k)+1 by omega]
  unfold bG at h ⊢
  split
  ·rename_i q
   rw [q] at h
   simp only at h
   unfold trn at h ⊢
   split
   ·rename_i q2;rw [q2] at h;exact bz h k
   ·rename_i q2;rw [q2] at h;exact bz h k
   ·rfl
   ·rfl
  ·rfl
  ·rfl
theorem tU {c:E} {b:S} {n:Nat} {δ:Dt} {o:O} (h:bG c b n δ=o) (ho:o ≠ .bad):jU c b δ=o:=by
 have hx:∃ n,bG c b n δ ≠ .bad:=⟨n,by rw [h];exact ho⟩
 unfold jU
 rw [dif_pos hx]
 have h1:=bz hx.choose_spec n
 have h2:=bz (show bG c b n δ ≠ .bad by rw [h];exact ho) hx.choose
 rw [Nat.add_comm] at h1
 rw [<- h1,h2,h]
theorem Ek (C:Sx X N) (L:PassesOwn ↥7 X.A X.env X.xe) (hc:ST X c gc) (hb:SSs X body gb):SS X (.While c body [] pos) (jU gc gb):=by
 refine PS.weak (AW L (CJ C.ex hc) hb) fun D σ H ⟨δ,os,S,q⟩ => ?_
 unfold jU at q
 split at q
 ·rename_i hx
  refine ⟨fun m σ H'=>∃ δ os',StO X H' σ δ os'/\aC ↥26 (hide H' os')/\OQ X D ↥26 (bG gc gb m δ),⟨_,δ,os,S,aC.refl _,q⟩,?_⟩
  rintro m σ1 H1 ⟨δ1,os1,S1,s1,q1⟩
  refine ⟨δ1,os1,S1,?_⟩
  cases m with
  | zero=>exact False.elim q1
  | succ m =>
   unfold bG at q1
   cases r:gc δ1 with
   | ok d =>
    rw [r] at q1
    cases d with
    | bl b =>
     cases b with
     | true =>
      intro H2 S2 s2
      refine Fx ⟨fun σ' H'=>∃ δ os',StO X H' σ' δ os'/\aC ↥26 (hide H' os')/\OQ X D ↥26 (bG gc gb m δ),fun σ' H' w=>⟨m,Nat.lt_succ_self _,w⟩,δ1,os1,S2,?_⟩
      simp only [trn] at q1
      have s12:=s1.trans s2
      cases e:gb δ1 with
      | nx δ2=>rw [e] at q1;exact fun σ' H' os' S' s'=>⟨δ2,os',S',s12.trans s',q1⟩
      | ct δ2=>rw [e] at q1;exact fun σ' H' os' S' s'=>⟨δ2,os',S',s12.trans s',q1⟩
      | bk δ2=>rw [e] at q1;exact fun σ' H' os' S' s'=>q1 σ' H' os' S' (s12.trans s')
      | rt d'=>rw [e] at q1;exact fun v' H' s' r'=>q1 v' H' (s12.trans s') r'
      | ex C δ1=>rw [e] at q1;exact fun σ' H' s' r'=>q1 σ' H' (s12.trans s') r'
      | mk C δ1=>rw [e] at q1;exact fun σ' H' s'=>q1 σ' H' (s12.trans s')
      | hx C δ1=>rw [e] at q1;exact fun σ' H' s' r'=>q1 σ' H' (s12.trans s') r'
      | bad=>rw [e] at q1;exact q1
     | false=>exact fun H2 S2 s2=>Fy (q1 σ1 H2 os1 S2 (s1.trans s2))
    | _=>exact False.elim q1
   | ex C=>rw [r] at q1;exact False.elim q1
   | bad=>rw [r] at q1;exact False.elim q1
 ·exact False.elim q
end
end ES
namespace ES
open PySem PySem.Spec PyProof.Rows L2 EV
unseal SE ST SW SA SS SSs
theorem ql {P:Program} {w:World} {H:Hp} {h:Heap} {a:Addr} {o:HO} (x:iI P w H h a o):∃ ob,h.get? a=some ob:=by
 cases o with
 | lst xs=>obtain ⟨_,_,_,_,e⟩:=x;exact ⟨_,e⟩
 | tup xs=>obtain ⟨_,_,_,ob,e,_⟩:=x;exact ⟨_,e⟩
 | dK kvs=>obtain ⟨_,_,_,_,ob,_,_,e,_⟩:=x;exact ⟨_,e⟩
 | dT kvs=>obtain ⟨_,_,_,_,ob,_,_,e,_⟩:=x;exact ⟨_,e⟩
 | set S n=>obtain ⟨ob,_,_,_,e,_⟩:=x;exact ⟨_,e⟩
 | ins C dx fs=>obtain ⟨_,_,_,e,_⟩:=x;exact ⟨_,e⟩
 | own y=>exact x
 | xd fs=>obtain ⟨_,⟨_,_,_,e,_⟩,_⟩:=x;exact ⟨_,e⟩
 | rng lo hi=>obtain ⟨_,_,_,e⟩:=x;exact ⟨_,e⟩
 | frz ob u=>obtain ⟨e,_⟩:=x;exact ⟨_,e⟩
 | tbl ps=>exact ⟨_,(show h.get? a=some _ from x)⟩
 | met f y=>exact ⟨_,(show h.get? a=some _ from x)⟩
 | ext φ=>obtain ⟨_,e,_⟩:=x;exact e
theorem wN {fs:List Addr} {H H':Hp} {h h1 h2 B:Heap} (u:Un fs [] H H' h h1) (same:aC H H') (i1:∀ b o,h.get? b=some o->H b=none->b∉fs->B.get? b=some o)
  (i2:∀ b u o,H' b=some u->h1.get? b=some o->B.get? b=some o) (st:B.StaysIn h2) (up:h1.UpToSlots h2) (ff:∀ b∈fs,∀ o,h1.get? b=some o->∀ vs,o.data ≠ .fields vs):Un fs [] H H' h h2:=by
 have slot:∀ b o,h.get? b=some o->H b=none->b∈fs->b∉([]:List Addr)->∃ sl,h2.get? b=some { o with slots:=sl }:=fun b o e n hb hx=>by
  obtain ⟨sl,e1⟩:=u.slot b o e n hb hx
  obtain ⟨sl2,e2⟩:=up b _ e1 (ff b hb _ e1)
  exact ⟨sl2,e2⟩
 refine ⟨fun b o e n hb _=>st b o (i1 b o e n hb),slot,u.free,fun b o e hx => ?_,u.tups,u.frzs,u.tbls⟩
 cases n:H b with
 | none =>
  by_cases hb:b∈fs
  ·obtain ⟨sl,e2⟩:=slot b o e n hb hx
   exact ⟨_,e2⟩
  ·exact ⟨o,st b o (i1 b o e n hb)⟩
 | some x =>
  obtain ⟨o',e1⟩:=u.there b o e hx
  exact ⟨o',st b o' (i2 b x o' (same b x n) e1)⟩
theorem oW {P:Program} {w:World} {H':Hp} {h1 h2 B:Heap} (hok:HOk P w H' h1) (i2:∀ b u o,H' b=some u->h1.get? b=some o->B.get? b=some o) (st:B.StaysIn h2):HOk P w H' h2:=fun a o e =>
 (hok a o e).stay (fun b u hb q=>by
  rcases hb with rfl | hb
  ·exact st b u (i2 b o u e q)
  ·exact st b u (i2 b _ u hb q)) (fun _ q=>q) fun _ _ q=>q
theorem ur {P:Program} {w:World} {H':Hp} {h1 h2 B:Heap} (hok:HOk P w H' h1) (i2:∀ b u o,H' b=some u->h1.get? b=some o->B.get? b=some o) (st:B.StaysIn h2):∀ b u o,H' b=some u->h2.get? b=some o->B.get? b=some o:=fun b u o e q=>by
 obtain ⟨ob,e1⟩:=ql (hok b u e)
 have e2:=i2 b u ob e e1
 have e3:=st b ob e2
 rw [q] at e3
 cases e3
 exact e2
theorem vV {base h:Heap} {l:List Env} (x:h.FunFrames base l):∀ b∈frs l,∀ o,h.get? b=some o->∀ vs,o.data ≠ .fields vs:=fun b hb o e=>by
 obtain ⟨_,o',e',d⟩:=x.mem hb
 rw [e] at e'
 cases e'
 exact d
section
variable {X:Cx} {pins:List ↥12} {σ:L2.St} {H H':Hp} {s s':Shared} {C ea:Addr}
structure Own (X:Cx):Prop where
 stk:X.stack=X.env::X.outer
 frm:X.env.frame=some X.env.locals
 ex:X.ex=[]
theorem Own.frs (h:Own X):L2.frs X.stack=X.env.locals::X.fs:=by
 rw [h.stk]
 unfold L2.frs
 rw [List.filterMap_cons,h.frm]
 rfl
theorem jl (I:Inv X pins σ H s) (O:Own X) {B:Heap} (i1:∀ b o,s.heap.get? b=some o->H b=none->b∉L2.frs X.stack->B.get? b=some o):∀ b o,X.s₀.heap.get? b=some o->X.H₀ b=none->b∉X.fs->B.get? b=some o:=fun b o e n hb=>by
 have hx:b∉X.ex:=by rw [O.ex];simp
 refine i1 b o (I.base.keep b o e n hb hx) (I.base.free b o e n hx) fun z => ?_
 rw [O.frs] at z
 rcases List.mem_cons.mp z with q | q
 ·exact absurd (Nat.lt_of_lt_of_le (Heap.lt_size e) I.ok.above) (by rw [q];exact Nat.lt_irrefl _)
 ·exact hb q
theorem ym (I:Inv X pins σ H s) (O:Own X) (h:s.heap.get? ea=none):X.s₀.heap.get? ea=none:=by
 cases q:X.s₀.heap.get? ea with
 | none=>rfl
 | some o =>
  obtain ⟨o',e⟩:=I.base.there ea o q (by rw [O.ex];simp)
  rw [h] at e
  cases e
theorem pH (I:Inv X pins σ H s) (O:Own X):Un X.fs [] X.H₀ H X.s₀.heap s.heap:=by
 have z:=I.base
 rw [O.ex] at z
 exact z
theorem yS (I:Inv X pins σ H s) (F:FlyX X.prog X.w X.stack H s C H' ea s'):Inv X pins σ H' s':=I.call' (ch:=[]) F.os F.un F.hok F.bare fun b z=>absurd z (by simp)
theorem yE {M:Model} {E:Value->Shared->Prop} {Q:Unit->Shared->Prop} (I:Inv X pins σ H s) (O:Own X) (F:FlyX X.prog X.w X.stack H s C H' ea s') (same:aC X.H₀ H')
  (hQ:∀ s'',FlyX X.prog X.w X.outer X.H₀ X.s₀ C H' ea s''->Q () s''):wpAny M X.A (leaving X.env (.ref ea)) Q E s':=by
 obtain ⟨a0,B,hfl,i1,i2⟩:=F.fly
 have I':=yS I F
 have ff:=vV hfl.2.2.1
 rw [O.stk] at hfl
 refine wpAny_leaves_onW (by rw [I.ok.frames,O.stk]) O.frm hfl fun h' f1 up=>hQ _ ⟨F.os.trans I.os,F.bare,?_,oW F.hok i2 f1.1,same,ym I O F.new,a0,B,f1,jl I O i1,ur F.hok i2 f1.1⟩
 exact wN (pH I' O) same (jl I O i1) i2 f1.1 up fun b hb=>ff b (by rw [O.frs];exact List.mem_cons_of_mem _ hb)
theorem sO {M:Model} {E:Value->Shared->Prop} {Q:Unit->Shared->Prop} (O:Own X) (F:HeldX X pins σ C H' ea s') (same:aC X.H₀ H')
  (hQ:∀ s'',FlyX X.prog X.w X.outer X.H₀ X.s₀ C H' ea s''->Q () s''):wpAny M X.A (leaving X.env (.ref ea)) Q E s':=by
 obtain ⟨a0,B,hh,i1,i2⟩:=F.fly
 have I:=F.inv
 have ff:=vV hh.2.2.1
 rw [O.stk] at hh
 unfold leaving
 refine wpAny_bind (wpAny_noteFrame_againW O.frm hh.2.2.2 ?_)
 refine wpAny_landsW hh fun h' f1 up => ?_
 obtain ⟨k1,k2,⟨_,_,k3⟩,k4⟩:=f1
 refine hQ _ ⟨I.os,I.bare,?_,oW I.hok i2 k1,same,F.new,a0,B,⟨k1,k2,k3,k4⟩,i1,ur I.hok i2 k1⟩
 exact wN (pH I O) same i1 i2 k1 up fun b hb=>ff b (by rw [O.frs];exact List.mem_cons_of_mem _ hb)
theorem sN {M:Model} {E:Value->Shared->Prop} {Q:Unit->Shared->Prop} {h1:Heap} {vs:List Value} (I:Inv X pins σ H s) (O:Own X) (made:Heap.MadeExcOf s.heap h1 ea (.ref C) vs) (same:aC X.H₀ H)
  (hQ:∀ s'',FlyX X.prog X.w X.outer X.H₀ X.s₀ C H ea s''->Q () s''):wpAny M X.A (leaving X.env (.ref ea)) Q E { s with heap:=h1 }:=by
 have hst:=I.stack
 have ff:=vV hst
 have i1:∀ b o,s.heap.get? b=some o->H b=none->b∉L2.frs X.stack->(PySem.W.hideAll s.heap (L2.frs X.stack)).get? b=some o:=fun b o e _ hb=>PySem.W.hideAll_get _ e hb
 have i2:∀ b u o,H b=some u->s.heap.get? b=some o->(PySem.W.hideAll s.heap (L2.frs X.stack)).get? b=some o:=fun b u o e q=>PySem.W.hideAll_get _ q fun z=>by
  rw [I.stkFree b z] at e
  cases e
 have hl:=PySem.W.funFrames_hide (as:=L2.frs X.stack) hst fun env he b hb=>List.mem_filterMap.mpr ⟨env,he,hb⟩
 rw [O.stk] at hl
 refine wpAny_leaves_madeW (s:={ s with heap:=h1 }) (base:=PySem.W.hideAll s.heap (L2.frs X.stack)) (by rw [I.ok.frames,O.stk]) O.frm (fun b o e=>PySem.W.of_hideAll _ e) (by rw [O.stk] at *;exact hl) made fun h' t f1 _ _ up=>hQ _ ⟨I.os,I.bare,?_,oW I.hok i2 f1.1,same,ym I O made.new,_,_,f1,jl I O i1,ur I.hok i2 f1.1⟩
 exact wN (pH I O) same (jl I O i1) i2 f1.1 ((Heap.UpToSlots.of_keeps made.keeps).trans up) fun b hb=>ff b (by rw [O.frs];exact List.mem_cons_of_mem _ hb)
end
def CXF (P:Program) (w:World):CXT:=fun outer H s E e s'=>∃ C H' ea,e=.ref ea/\FlyX P w outer H s C H' ea s'/\E (.ref C) none H'
def spP (K:PySem.W.Frag) (mg:Str->Option Value) (f:List D->R D):Sp:=fun vs H Q E=>∃ ds,Reps K mg H vs ds/\match f ds with
 | .ok d=>∀ v H',aC H H'->Rep K mg H' v d->Q v H'
 | .ex C=>∀ Ca,mg C=some (.ref Ca)->∀ H',aC H H'->E (.ref Ca) none H'
 | .bad=>False
theorem oI {CX:CXT} {P:Program} {w:World} {K:PySem.W.Frag} {mg:Str->Option Value} {base:Heap} {N:List Str} {qual:Str} {sc:Scope} {f:Addr} {cdv:Value} {A:Around} {outer:List Env} {s:Shared} {H:Hp} {E:XK} :
  Own (zb CX P w K mg base N qual sc f cdv A outer s H E):=⟨rfl,rfl,rfl⟩
section
variable {P:Program} {w:World} {K:PySem.W.Frag} {mg:Str->Option Value} {base:Heap} {N:List Str} {qual:Str} {sc:Scope} {f:Addr} {cdv:Value} {A:Around} {outer:List Env} {s:Shared} {H H':Hp} {E:XK} {C:Addr} {σ:L2.St}
theorem JB (same:aC H H') (hE:E (.ref C) none H'):ew (zb (CXF P w) P w K mg base N qual sc f cdv A outer s H E) C σ H' :=
 fun pins H1 s1 ea s' I F=>yE I oI F same fun s'' F'=>⟨C,H',ea,rfl,F',hE⟩
theorem FR (same:aC H H') (hE:E (.ref C) none H'):ehx (zb (CXF P w) P w K mg base N qual sc f cdv A outer s H E) C σ H' :=
 fun pins ea s' F=>sO oI F same fun s'' F'=>⟨C,H',ea,rfl,F',hE⟩
theorem JF (same:aC H H') (hE:E (.ref C) none H'):em (zb (CXF P w) P w K mg base N qual sc f cdv A outer s H E) C σ H' :=
 fun pins s1 h' ea vs I made=>sN I oI made same fun s'' F'=>⟨C,H',ea,rfl,F',hE⟩
end
structure ScF (N G ps:List Str) (sc:Scope):Prop where
 fs:FnScope N ps sc
 loc:∀ x∈N,Loc sc x
 glb:∀ x∈G,sc.names.lookup x=some .globalImplicit
 dbg:∀ x∈N,(x == ("__debug__":Str))=false/\(x == ("__classdict__":Str))=false
 dbgG:∀ x∈G,(x == ("__debug__":Str))=false/\x≠"__name__"
structure Pl (X:Cx) (N G:List Str):Prop extends Sx X N where
 sto:∀ x∈N,Sto X x
 gb:∀ x∈G,Gb X x
noncomputable instance locDec {sc:Scope} {x:Str}:Decidable (Loc sc x):=inferInstanceAs (Decidable (_\/_))
theorem Je {sc:Scope} {x:Str} (h:Loc sc x):Vis sc x:=h.elim .inl fun z=>.inr (.inl z)
theorem xb {K:PySem.W.Frag} {mg:Str->Option Value} {H:Hp} {N:List Str} {n m:Nat}:∀ {vs:List V} {ds:List D},Reps K mg H vs ds->ds.length=n->N.length=m->Stt K mg H (L2.start N vs) (EV.start n m ds):=by
 intro vs ds r hn hm
 have hl:=r.length
 refine ⟨by simp [L2.start,EV.start,hl,hn,hm],fun i d e _ => ?_⟩
 unfold EV.start at e
 by_cases hi:i<ds.length
 ·rw [List.getElem?_append_left (by simpa using hi),List.getElem?_map] at e
  cases q:ds[i]? with
  | none=>rw [q] at e;cases e
  | some d' =>
   rw [q] at e
   have e':d'=d:=Option.some.inj (Option.some.inj e)
   subst e'
   obtain ⟨v,h1,h2⟩:=r.get q
   exact ⟨v,by unfold L2.start;rw [List.getElem?_append_left (by simp;omega),List.getElem?_map,h1];rfl,h2⟩
 ·rw [List.getElem?_append_right (by simpa using hi),List.getElem?_replicate] at e
  split at e<;>cases e
theorem rM {K:PySem.W.Frag} {mg:Str->Option Value} {H:Hp} {n m:Nat} {vs:List V} {ds:List D} (r:Reps K mg H vs ds) (i:Nat) (es:List D):(EV.start n m ds)[i]? ≠ some (some (.own es)):=fun e=>by
 unfold EV.start at e
 by_cases hi:i<ds.length
 ·rw [List.getElem?_append_left (by simpa using hi),List.getElem?_map] at e
  cases q:ds[i]? with
  | none=>rw [q] at e;cases e
  | some d' =>
   rw [q] at e
   have e':d'=.own es:=Option.some.inj (Option.some.inj e)
   subst e'
   obtain ⟨v,h1,h2⟩:=r.get q
   cases h2
 ·rw [List.getElem?_append_right (by simpa using hi),List.getElem?_replicate] at e
  split at e<;>cases e
theorem LL {P:Program} {w:World} {K:PySem.W.Frag} {mg:Str->Option Value} {base:Heap} {x qual:Str} {st:Stmt} {f:Addr} {fd:FuncData} {N G ps:List Str} {k n m:Nat} {g:S}
  (F:Fun K x qual st f fd) (S:ScF N G ps (ae st)) (hn:ps.length=n) (hm:N.length=m)
  (hbody:∀ X:Cx,X.prog=P->X.w=w->X.K=K->X.mg=mg->X.base=base->Room k X.A->Lp X->Own X->Pl X N G->X.env.scope=ae st->SSs X (ak st) g) :
  FnOk P w K mg base (CXF P w) (k+1) f fd ps (spP K mg (fn n m g)):=by
 obtain ⟨oc,od,kV,doc,pm,an,cdv,ct,osl,rfl,lk,hcd⟩:=F.ex
 have len:∀ {ds:List D},fn n m g ds ≠ .bad->ds.length=n:=fun {ds} h=>by
  unfold fn at h
  split at h
  ·assumption
  ·exact absurd rfl h
 refine Jy lk hcd S.fs (fun vs H Q E h => ?_) fun A outer s H vs Q E hr h => ?_
 ·obtain ⟨ds,rs,h⟩:=h
  rw [rs.length,hn]
  refine len fun z => ?_
  rw [z] at h
  exact h
 ·obtain ⟨ds,rs,h⟩:=h
  have hl:ds.length=n:=len fun z=>by rw [z] at h;exact h
  refine ⟨_,hbody (zb (CXF P w) P w K mg base N qual (ae st) f cdv A outer s H E) rfl rfl rfl rfl rfl hr ⟨PassesOwn.leaving,rfl⟩ oI ⟨⟨⟨rfl,S.fs.nd,fun y hy=>Je (S.loc y hy),S.dbg⟩,rfl⟩,fun y hy=>⟨S.loc y hy,.inl rfl⟩,fun y hy=>⟨S.glb y hy,(S.dbgG y hy).1,(S.dbgG y hy).2⟩⟩ rfl,_,[],StO.nil (xb rs hl hm) (rM rs),?_⟩
  rw [uw]
  unfold fn at h
  rw [if_pos hl] at h
  cases e:g (EV.start n m ds) with
  | nx δ=>rw [e] at h;exact fun σ H' os _ s'=>h .non H' (s'.trans (bp _ _)) .non
  | rt d=>rw [e] at h;exact fun v H' s' r=>h v H' s' r
  | ex C δ=>rw [e] at h;exact fun σ H' s' _ Ca hc=>JB s' (h Ca hc H' s')
  | mk C δ=>rw [e] at h;exact fun σ H' s' Ca hc=>JF s' (h Ca hc H' s')
  | hx C δ=>rw [e] at h;exact fun σ H' s' _ Ca hc=>FR s' (h Ca hc H' s')
  | bk δ=>rw [e] at h;exact False.elim h
  | ct δ=>rw [e] at h;exact False.elim h
  | bad=>rw [e] at h;exact False.elim h
abbrev at5 (X:Cx) (P:Program) (w:World) (K:PySem.W.Frag) (mg:Str->Option Value) (base:Heap):Cx:={ X with prog:=P,w:=w,K:=K,mg:=mg,base:=base }
theorem qy {P:Program} {w:World} {K:PySem.W.Frag} {mg:Str->Option Value} {base:Heap} {x qual:Str} {st:Stmt} {f:Addr} {fd:FuncData} {N G ps:List Str} {k n m:Nat} {g:S}
  (F:Fun K x qual st f fd) (S:ScF N G ps (ae st)) (hn:ps.length=n) (hm:N.length=m)
  (hbody:∀ X:Cx,Room k (at5 X P w K mg base).A->Lp (at5 X P w K mg base)->Own (at5 X P w K mg base)->Pl (at5 X P w K mg base) N G->(at5 X P w K mg base).env.scope=ae st->SSs (at5 X P w K mg base) (ak st) g) :
  FnOk P w K mg base (CXF P w) (k+1) f fd ps (spP K mg (fn n m g)):=LL F S hn hm fun X hP hw hK hM hB hr L O Pl hS=>by
 subst hP hw hK hM hB
 exact hbody X hr L O Pl hS
theorem us1 {C:List Value->Prop} (h:∀ a,C [a]) (us:List Value) (hl:us.length=1):C us:=by
 match us,hl with
 | [_],_=>exact h _
theorem us2 {C:List Value->Prop} (h:∀ a b,C [a,b]) (us:List Value) (hl:us.length=2):C us:=by
 match us,hl with
 | a::us,hl=>exact us1 (C:=fun us=>C (a::us)) (h a) us (Nat.succ.inj hl)
theorem us3 {C:List Value->Prop} (h:∀ a b c,C [a,b,c]) (us:List Value) (hl:us.length=3):C us:=by
 match us,hl with
 | a::us,hl=>exact us2 (C:=fun us=>C (a::us)) (h a) us (Nat.succ.inj hl)
theorem us4 {C:List Value->Prop} (h:∀ a b c d,C [a,b,c,d]) (us:List Value) (hl:us.length=4):C us:=by
 match us,hl with
 | a::us,hl=>exact us3 (C:=fun us=>C (a::us)) (h a) us (Nat.succ.inj hl)
theorem us5 {C:List Value->Prop} (h:∀ a b c d e,C [a,b,c,d,e]) (us:List Value) (hl:us.length=5):C us:=by
 match us,hl with
 | a::us,hl=>exact us4 (C:=fun us=>C (a::us)) (h a) us (Nat.succ.inj hl)
theorem us6 {C:List Value->Prop} (h:∀ a b c d e f,C [a,b,c,d,e,f]) (us:List Value) (hl:us.length=6):C us:=by
 match us,hl with
 | a::us,hl=>exact us5 (C:=fun us=>C (a::us)) (h a) us (Nat.succ.inj hl)
theorem eA {K:PySem.W.Frag} {x qual:Str} {st:Stmt} {f:Addr} {fd:FuncData} {ps:List Str} (F:Fun K x qual st f fd) (hp:ps.length=1)
  (h:∀ (kV doc pm:Value) (an:Option Addr) (cdv ct:Value) (a:Value),bindArgs ↥2 ⟨[a],[]⟩=pure (ps.zip [a])):Binds K fd ps [] :=
 F.binds fun kV doc pm an cdv ct us hl=>us1 (C:=fun us=>bindArgs ↥2 ⟨us,[]⟩=pure (ps.zip us)) (h kV doc pm an cdv ct) us (hl.trans hp)
theorem cj {K:PySem.W.Frag} {x qual:Str} {st:Stmt} {f:Addr} {fd:FuncData} {ps:List Str} (F:Fun K x qual st f fd) (hp:ps.length=2)
  (h:∀ (kV doc pm:Value) (an:Option Addr) (cdv ct:Value) (a b:Value),bindArgs ↥2 ⟨[a,b],[]⟩=pure (ps.zip [a,b])):Binds K fd ps [] :=
 F.binds fun kV doc pm an cdv ct us hl=>us2 (C:=fun us=>bindArgs ↥2 ⟨us,[]⟩=pure (ps.zip us)) (h kV doc pm an cdv ct) us (hl.trans hp)
theorem fj {K:PySem.W.Frag} {x qual:Str} {st:Stmt} {f:Addr} {fd:FuncData} {ps:List Str} (F:Fun K x qual st f fd) (hp:ps.length=3)
  (h:∀ (kV doc pm:Value) (an:Option Addr) (cdv ct:Value) (a b c:Value),bindArgs ↥2 ⟨[a,b,c],[]⟩=pure (ps.zip [a,b,c])):Binds K fd ps [] :=
 F.binds fun kV doc pm an cdv ct us hl=>us3 (C:=fun us=>bindArgs ↥2 ⟨us,[]⟩=pure (ps.zip us)) (h kV doc pm an cdv ct) us (hl.trans hp)
theorem gy {K:PySem.W.Frag} {x qual:Str} {st:Stmt} {f:Addr} {fd:FuncData} {ps:List Str} (F:Fun K x qual st f fd) (hp:ps.length=4)
  (h:∀ (kV doc pm:Value) (an:Option Addr) (cdv ct:Value) (a b c d:Value),bindArgs ↥2 ⟨[a,b,c,d],[]⟩=pure (ps.zip [a,b,c,d])):Binds K fd ps [] :=
 F.binds fun kV doc pm an cdv ct us hl=>us4 (C:=fun us=>bindArgs ↥2 ⟨us,[]⟩=pure (ps.zip us)) (h kV doc pm an cdv ct) us (hl.trans hp)
theorem CS {K:PySem.W.Frag} {x qual:Str} {st:Stmt} {f:Addr} {fd:FuncData} {ps:List Str} (F:Fun K x qual st f fd) (hp:ps.length=5)
  (h:∀ (kV doc pm:Value) (an:Option Addr) (cdv ct:Value) (a b c d e:Value),bindArgs ↥2 ⟨[a,b,c,d,e],[]⟩=pure (ps.zip [a,b,c,d,e])):Binds K fd ps [] :=
 F.binds fun kV doc pm an cdv ct us hl=>us5 (C:=fun us=>bindArgs ↥2 ⟨us,[]⟩=pure (ps.zip us)) (h kV doc pm an cdv ct) us (hl.trans hp)
theorem JO {K:PySem.W.Frag} {x qual:Str} {st:Stmt} {f:Addr} {fd:FuncData} {ps:List Str} (F:Fun K x qual st f fd) (hp:ps.length=6)
  (h:∀ (kV doc pm:Value) (an:Option Addr) (cdv ct:Value) (a b c d e f:Value),bindArgs ↥2 ⟨[a,b,c,d,e,f],[]⟩=pure (ps.zip [a,b,c,d,e,f])):Binds K fd ps [] :=
 F.binds fun kV doc pm an cdv ct us hl=>us6 (C:=fun us=>bindArgs ↥2 ⟨us,[]⟩=pure (ps.zip us)) (h kV doc pm an cdv ct) us (hl.trans hp)
structure FnP (P:Program) (w:World) (K:PySem.W.Frag) (mg:Str->Option Value) (base:Heap) (x:Str) (k:Nat) (f:List D->R D):Prop where
 ex:∃ fa fd ps,FnOk P w K mg base (CXF P w) k fa fd ps (spP K mg f)/\mg x=some (.ref fa)/\PySem.W.keepIn K (.ref fa)=true/\Binds K fd ps []
theorem Jz {P:Program} {w:World} {K:PySem.W.Frag} {mg:Str->Option Value} {base:Heap} {x:Str} {fa:Addr} {fd:FuncData} {ps:List Str} {k:Nat} {f:List D->R D}
  (F:FnOk P w K mg base (CXF P w) k fa fd ps (spP K mg f)) (kp:PySem.W.keepIn K (.ref fa)=true) (hm:mg x=some (.ref fa)) (hb:Binds K fd ps []):FnP P w K mg base x k f:=⟨fa,fd,ps,F,hm,kp,hb⟩
structure Callee (X:Cx) (x:Str) (f:List D->R D):Prop where
 ex:∃ k fa fd ps,FnOk X.prog X.w X.K X.mg X.base (CXF X.prog X.w) k fa fd ps (spP X.K X.mg f)/\Room k X.A/\X.mg x=some (.ref fa)/\PySem.W.keepIn X.K (.ref fa)=true/\Binds X.K fd ps []
theorem FnP.callee {X:Cx} {x:Str} {k j:Nat} {f:List D->R D} (F:FnP X.prog X.w X.K X.mg X.base x k f) (hr:Room j X.A) (h:k<=j):Callee X x f:=by
 obtain ⟨fa,fd,ps,a,b,c,d⟩:=F.ex
 exact ⟨k,fa,fd,ps,a,hr.mono h,b,c,d⟩
section
variable {X:Cx} {x:Str} {f:List D->R D} {e:Expr} {es:List Expr} {gs:List E} {p pos:Pos}
theorem HE {k:Nat} {fa:Addr} {fd:FuncData} {ps:List Str} {pins:List ↥12} {σ:L2.St} {H:Hp} {s:Shared} {Q:VK} {us:List Value} {vs:List V} {ds:List D}
  (F:FnOk X.prog X.w X.K X.mg X.base (CXF X.prog X.w) k fa fd ps (spP X.K X.mg f)) (hr:Room k X.A) (hb:Binds X.K fd ps []) (I:Inv X pins σ H s) (r:Vals vs us) (rs:Reps X.K X.mg H vs ds) (q:RQ X σ H (f ds) Q) :
  wpAny ↥7 X.A (PySem.call (.ref fa) us) (EP X pins σ Q) X.xe s:=by
 have hsp:spP X.K X.mg f vs H Q (fun c _ H'=>∃ C Ca,f ds=.ex C/\X.mg C=some (.ref Ca)/\c=.ref Ca/\aC H H'):=⟨ds,rs,by
  cases e:f ds with
  | ok d=>rw [e] at q;exact q
  | ex C=>exact fun Ca hc H' s'=>⟨C,Ca,rfl,hc,rfl,s'⟩
  | bad=>rw [e] at q;exact q⟩
 have hl:us.length=ps.length:=by rw [<- r.length];exact F.len _ _ _ _ hsp
 have hb':=hb s us I.kIn (by rw [List.append_nil];exact hl)
 rw [List.append_nil] at hb'
 refine wpAny_call (codeAny_mono (F.run X.A X.stack s H ⟨us,[]⟩ us vs _ _ hr I.env0 hb' r hsp) fun r s' hq => ?_)
 cases r with
 | error er =>
  obtain ⟨C',H',ea,rfl,FX,C,Ca,e1,hc,e2,s2⟩:=hq
  cases e2
  rw [e1] at q
  exact q C' hc H' s2 pins H s ea s' I FX
 | ok fl =>
  cases fl with
  | ret u=>exact I.after hq
  | next=>exact False.elim hq
  | brk=>exact False.elim hq
  | cont=>exact False.elim hq
theorem qA (c:Callee X x f) (G:Gb X x) (ha:SA X (e::es) gs) (he:starEach (e::es) X.env=↥38::starEach es X.env:=by rfl) (hpl:(backTo pos (starEach es X.env)).any (·.1)=false:=by rfl) :
  SE X (.Call (.Name x p) (e::es) [] pos) (EV.call f gs):=by
 obtain ⟨k,fa,fd,ps,F,hr,hm,hk,hb⟩:=c.ex
 intro pins s σ H Q I ⟨δ,hσ,h⟩
 refine wpAny_Call_Name_kw (oS I G.g hm ?_ G.d)
 refine PySem.W.callWith_K (h₀:=X.base) I.ok.mod.kin hk (thn (ha pos pins s σ H _ I ⟨δ,hσ,RA.bind h⟩) fun us s1 ⟨vs,H1,I1,r,sm,ds,rs,q⟩=>⟨I1.kIn,HE F hr hb I1 r rs q⟩) he hpl
end
theorem EH {K:PySem.W.Frag} {h:Heap} {C:Addr} {bmB:List Value} {newId:String} (KX:K.In h) (q:PySem.W.excIn K C bmB newId=true) :
  ∃ bm M nm qn bs hd sn sub ab col dd k0 k1 k2 k3 k5 mN,h.get? C=some (excClassObj nm qn C M bs bm hd sn sub ab col dd k0 k1 k2 k3 k5 newId)/\h.Ns M mN/\mN "__init__"=none/\OwnTail h bmB bm:=by
 unfold PySem.W.excIn at q
 split at q
 ·rename_i d1 cd sl hlk
  split at q
  ·rename_i C' bm k0 k1 k2 k3 n k5 e1 e2
   simp only [Bool.and_eq_true,beq_iff_eq,Bool.not_eq_true'] at q
   obtain ⟨⟨⟨⟨⟨r1,r2⟩,r3⟩,r4⟩,r5⟩,r6⟩:=q
   subst r1 r2
   obtain ⟨nm,bs,mro,ns,qn,hd,sn,sub,ab,col,del⟩:=cd
   dsimp only at e1 r3 r5 r6
   subst e1 r3
   have e3:sl = #[k0,k1,k2,k3,some (.builtin n),k5]:=by
    obtain ⟨l⟩:=sl
    simp only at e2
    rw [e2]
   subst e3
   exact ⟨bm,ns,nm,qn,bs,hd,sn,sub,ab,col,d1,k0,k1,k2,k3,k5,_,KX _ _ hlk,.of_isNs (PySem.W.isNs_of_in KX r5),PySem.W.nsMap_none_of_in KX r5 r6,PySem.W.tail_of_in KX r4⟩
  ·cases q
 ·cases q
def bmV:List Value:=[.type "ValueError",.type "Exception",.type "BaseException",.type "object"]
section
variable {X:Cx} {pos:Pos} {x:String} {C:Addr}
theorem gi (hc:X.calm=true) {np cp p3:Pos} {m:Str} {j:Nat} (G:Gb X x) (hm:X.mg x=some (.ref C)) (hq:PySem.W.excIn X.K C bmV "ValueError.__new__"=true) :
  SS X (.Raise (some (.Call (.Name x np) [.Constant (.str m) j p3] [] cp)) none pos) (raise x):=by
 intro pins s σ H D I ⟨δ,os,S,h⟩
 obtain ⟨bm,M,nm,qn,bs,hd,sn,sub,ab,col,dd,k0,k1,k2,k3,k5,mN,hC,hN,hni,T⟩:=EH I.mod.kin hq
 have FB:ExcBaseFacts "ValueError" "ValueError.__new__" "ValueError.__init__" bmV:=PySem.F.excBase_ValueError
 refine wpAny_Raise_call_subT (C:=C) (nm:=nm) (q:=qn) (N:=M) (bs:=bs) (bm:=bm) (hdct:=hd) (sn:=sn) (sub:=sub) (ab:=ab) (col:=col) (dd:=dd) (k0:=k0) (k1:=k1) (k2:=k2) (k3:=k3) (k5:=k5)
  FB (mN:=mN) (T.hasType FB.hasBase) (I.ok.hd hc) rfl hni (oS I G.g hm ⟨rfl,?_⟩ G.d)
 have hsp:=(oH (X:=X) (Cy (x:=m) (j:=j) (pos:=p3)) uh) cp pins s σ H (fun vs H1=>vs.length=1/\H1=H) I (show (1=1/\H=H) from ⟨rfl,rfl⟩)
 refine Calls.evalArgs_plain (thn hsp fun us s2 ⟨vs,H1,I1,r,q1,q2⟩ => ?_)
 subst q2
 have hl:us.length=1:=by rw [<- r.length];exact q1
 exact ⟨rfl,by show us.length<=_;rw [hl,sizeLine_eq];decide,I1.bk _ _ hC,hN.keeps I1.bk,T.keeps I1.bk,fun h' e1 made=>h σ H1 (bp _ _) C hm pins s2 h' e1 us I1 made⟩
end
section
variable {K:PySem.W.Frag} {M:Model} {h:Heap} {C C' e:Addr}
end
section
variable {X:Cx} {pins:List ↥12} {σ:L2.St} {H H':Hp} {s s':Shared} {C ea:Addr} {W:Value->Shared->Prop}
end
structure Catch (K:PySem.W.Frag) (C C':Addr):Prop where
 c1:(PySem.W.clsIn K C').isSome=true
 c2:PySem.W.typeIn K (.ref C')=some (.type "type")
 c3:PySem.W.subIn K (.type "type") ↥6=some false
 c4:PySem.W.mroIn K C' (.type "BaseException")=some true
 c5:PySem.W.mroIn K C (.ref C')=some true
section
variable {X:Cx} {N G:List Str} {pos np hpos:Pos} {n:Str} {cls:String} {C':Addr} {body suite:List Stmt} {b₀:Stmt} {gb gs:S}
end
end ES
namespace ES
open PySem PySem.Spec PyProof.Rows L2 EV
unseal SE ST SW SA SS SSs
def rC (X:Cx) (f:List D->R D):List V->Hp->VK->Prop:=fun vs H Q=>∃ ds d,Reps X.K X.mg H vs ds/\f ds=.ok d/\∀ v H',aC H H'->Rep X.K X.mg H' v d->Q v H'
def NoX (f:List D->R D):Prop:=∀ ds C,f ds ≠ .ex C
theorem RQ.cl (nx:NoX f) (r:Reps X.K X.mg H vs ds) (h:RQ X σ H (f ds) Q):rC X f vs H Q:=by
 cases e:f ds with
 | ok d=>rw [e] at h;exact ⟨ds,d,r,e,h⟩
 | ex C=>exact absurd e (nx ds C)
 | bad=>rw [e] at h;exact False.elim h
section
variable {X:Cx} {x:Str} {id T:String} {f:List D->R D} {e o:Expr} {es:List Expr} {gs:List E} {g:E} {p pos apos:Pos}
theorem dh (hc:iJ X (.builtin id) (rC X f)) (nx:NoX f) (G:Gb X x) (hm:X.mg x=none) (hv:bootBuiltins x=some (.builtin id)) (ha:SA X (e::es) gs)
  (he:starEach (e::es) X.env=↥38::starEach es X.env:=by rfl) (hpl:(backTo pos (starEach es X.env)).any (·.1)=false:=by rfl):SE X (.Call (.Name x p) (e::es) [] pos) (EV.call f gs) :=
 PE.weak (ug hc G.g hm hv ha G.n G.d he hpl) fun σ H Q ⟨δ,hσ,h⟩=>⟨δ,hσ,(RA.bind h).to fun vs H' s ⟨_,ds,rs,q⟩=>RQ.cl nx rs q⟩
theorem sf (r:Reps X.K X.mg H vs [d]):∃ v,vs=[v]/\Rep X.K X.mg H v d:=by
 cases r with
 | cons r rr=>cases rr;exact ⟨_,rfl,r⟩
theorem AS (r:Reps X.K X.mg H vs [d,d']):∃ v v',vs=[v,v']/\Rep X.K X.mg H v d/\Rep X.K X.mg H v' d':=by
 cases r with
 | cons r rr =>
  cases rr with
  | cons r' rr=>cases rr;exact ⟨_,_,rfl,r,r'⟩
theorem Bp:NoX zS:=fun ds C z=>by unfold zS at z;split at z<;>first | cases z | exact fS z
theorem BY:iJ X (.builtin "len") (rC X zS):=by
 intro pins s σ H xs us Q I rs ⟨ds,d,r,e,q⟩
 unfold zS at e
 split at e
 ·cases e
  obtain ⟨v,rfl,r1⟩:=sf r
  cases r1 with
  | @lst a ys _ hq rr=>exact j4 pins s σ H _ us Q I rs ⟨a,ys,rfl,.inl hq,by rw [rr.length];exact q _ _ ↥25 (.int _)⟩
 ·cases e
  obtain ⟨v,rfl,r1⟩:=sf r
  cases r1 with
  | @tup a ys _ hq rr=>exact j4 pins s σ H _ us Q I rs ⟨a,ys,rfl,.inr hq,by rw [rr.length];exact q _ _ ↥25 (.int _)⟩
 ·split at e
  ·rename_i hz
   cases e
   obtain ⟨v,rfl,r1⟩:=sf r
   cases r1
   exact qG pins s σ H _ us Q I rs ⟨_,rfl,Nat.le_trans hz (by rw [sizeLine_eq];decide),q _ _ ↥25 (.int _)⟩
  ·cases e
 ·cases e
theorem Ly:NoX GA:=fun ds C z=>by unfold GA at z;split at z<;>cases z
theorem LS:iJ X (.builtin "abs") (rC X GA):=by
 intro pins s σ H xs us Q I rs ⟨ds,d,r,e,q⟩
 unfold GA at e
 split at e
 ·cases e
  obtain ⟨v,rfl,r1⟩:=sf r
  cases r1
  exact BX pins s σ H _ us Q I rs ⟨_,rfl,q _ _ ↥25 (.int _)⟩
 ·cases e
theorem sG:NoX uL:=fun ds C z=>by unfold uL at z;split at z<;>cases z
theorem tq (hc:X.calm=true):iJ X (.builtin "max") (rC X uL):=by
 intro pins s σ H xs us Q I rs ⟨ds,d,r,e,q⟩
 unfold uL at e
 split at e
 ·cases e
  obtain ⟨v,v',rfl,r,r'⟩:=AS r
  cases r;cases r'
  exact zg hc pins s σ H _ us Q I rs ⟨_,_,rfl,q _ _ ↥25 (.int _)⟩
 ·cases e
theorem Ff:NoX B9:=fun ds C z=>by unfold B9 at z;split at z<;>cases z
theorem F0 (hc:X.calm=true):iJ X (.builtin "min") (rC X B9):=by
 intro pins s σ H xs us Q I rs ⟨ds,d,r,e,q⟩
 unfold B9 at e
 split at e
 ·cases e
  obtain ⟨v,v',rfl,r,r'⟩:=AS r
  cases r;cases r'
  exact ze hc pins s σ H _ us Q I rs ⟨_,_,rfl,q _ _ ↥25 (.int _)⟩
 ·cases e
theorem qu:∀ {xs:List V} {ds:List D} {ns:List Int} {us:List Value},intsOf ds=some ns->Reps X.K X.mg H xs ds->Vals xs us->∃ ts:List (Int×Tok),us=ts.map (fun p=>Value.int p.1 p.2)/\ts.map (·.1)=ns
 | _,[],_,_,e,.nil,.nil=>by cases e;exact ⟨[],rfl,rfl⟩
 | _,.int i::r,ns,_,e,.cons h t,.cons h' t'=>by
  cases h
  unfold intsOf at e
  cases q:intsOf r with
  | none=>rw [q] at e;cases e
  | some ms =>
   rw [q] at e
   have e':i::ms=ns:=Option.some.inj e
   subst e'
   obtain ⟨tk,rfl⟩:=h'
   obtain ⟨ts,e1,e2⟩:=qu q t t'
   exact ⟨(i,tk)::ts,by rw [e1];rfl,by rw [List.map_cons,e2]⟩
 | _,.non::_,_,_,e,_,_=>by cases e
 | _,.bl _::_,_,_,e,_,_=>by cases e
 | _,.str _::_,_,_,e,_,_=>by cases e
 | _,.tup _::_,_,_,e,_,_=>by cases e
 | _,.lst _::_,_,_,e,_,_=>by cases e
 | _,.own _::_,_,_,e,_,_=>by cases e
 | _,.ty _::_,_,_,e,_,_=>by cases e
 | _,.cls _::_,_,_,e,_,_=>by cases e
 | _,.exc _::_,_,_,e,_,_=>by cases e
 | _,.ins _ _::_,_,_,e,_,_=>by cases e
theorem yt:MtR X "int.bit_length" (fun x xs H Q=>∃ i,x=.int i/\xs=[]/\Q (.int (nb i)) H):=by
 intro pins s σ H x xs v us Q I rx rs ⟨i,ex,exs,q⟩
 subst ex exs
 obtain ⟨t,rfl⟩:=rx
 cases rs
 refine call_int_bit_length ⟨.int (nb i),H,I.tok _,⟨_,by rw [yp]⟩,q⟩
theorem lb (ho:SE X o g) (hbase:attributeBase o "bit_length" X.env (eval o X.env)=eval o X.env:=by rfl) (hline:(apos.endLine == pos.line)=true:=by rfl):SE X (.Call (.Attribute o "bit_length" apos) [] [] pos) (EV.call gz [g]) :=
 PE.weak (Ii PySem.F.plainAttrs_int PySem.F.slot_int_bit_length PySem.F.type_int_bit_length yt ho hbase hline) fun σ H Q ⟨δ,hσ,h⟩=>⟨δ,hσ,by
  have h':RQ X σ H ((g δ).bind fun d=>gz [d]) Q:=by
   unfold EV.call evs at h
   cases r:g δ with
   | ok d=>rw [r] at h;exact h
   | ex C=>rw [r] at h;exact h
   | bad=>rw [r] at h;exact h
  refine (RQ.bind h').to fun v H' s ⟨_,d,r,q⟩ => ?_
  unfold gz at q
  split at q
  ·rename_i e
   cases e
   cases r
   exact ⟨rfl,_,rfl,rfl,q _ _ ↥25 (.int _)⟩
  ·exact False.elim q⟩
def tyV (mg:Str->Option Value):D->Option Value
 | .non=>some (.type "NoneType")
 | .bl _=>some (.type "bool")
 | .int _=>some (.type "int")
 | .str _=>some (.type "str")
 | .tup _=>some ↥6
 | .lst _=>some (.type "list")
 | .exc n=>mg n
 | _=>none
def O1 (mg:Str->Option Value):D->Option Value
 | .ty n=>some (.type n)
 | .cls n=>mg n
 | _=>none
def Isi (X:Cx) (c:D):Prop:=∀ d k t u,mS [d,c]=.ok (.bl k)->tyV X.mg d=some t->O1 X.mg c=some u->PySem.W.kitOne X.K t u=some k
def rB (X:Cx):Prop:=∀ (e C:Addr) (n:String),av.contains n=true->X.mg n=some (.ref C)->PySem.W.KitX X.K (.ref e) (.ref C) (fun h=>∃ o vs,h.get? e=some o/\o.cls=.ref C/\o.data=.fields vs)
theorem zx:(∃ d c k,ds=[d,c]/\mS ds=.ok (.bl k))\/mS ds=.bad:=by
 rcases ds with _ | ⟨d,_ | ⟨c,_ | ⟨x,y⟩⟩⟩
 ·exact .inr rfl
 ·exact .inr rfl
 ·cases c<;>first
   | exact .inr rfl
   | (cases d<;>first
     | exact .inr rfl
     | exact Jp rfl)
 ·first
   | exact .inr rfl
   | (cases c<;>exact .inr rfl)
theorem yT (h:mS [.exc n,c]=.ok (.bl k)):av.contains n=true:=by
 cases c with
 | cls B =>
  have z:=(fI h).1
  rw [Bool.and_eq_true] at z
  exact z.1
 | ty B =>
  have z:=(fI h).1
  rw [Bool.and_eq_true] at z
  exact z.1
 | _=>cases h
theorem LQ (hI:Isi X c) (hE:rB X):iJ X (.builtin "isinstance") (fun vs H Q=>∃ dx d,Reps X.K X.mg H vs [dx,c]/\mS [dx,c]=.ok d/\∀ v H',aC H H'->Rep X.K X.mg H' v d->Q v H'):=by
 intro pins s σ H xs us Q I rs ⟨dx0,d,r,e,q⟩
 rcases zx (ds:=[dx0,c]) with ⟨dx,dc,k,ez,e'⟩ | e'<;>rw [e'] at e<;>cases e
 cases ez
 obtain ⟨v,v',rfl,r1,r2⟩:=AS r
 cases rs with
 | cons h1 h2 =>
  cases h2 with
  | cons h2 h3 =>
   cases h3
   rename_i u w
   have fin:∀ tk,EP X pins σ Q (.bool k) { s with toks:=tk }:=fun tk=>⟨.bl k,H,I.tok tk,rfl,q _ _ ↥25 (.bl k)⟩
   have hw:O1 X.mg c=some w:=by
    cases r2 with
    | ty n=>cases h2;rfl
    | cls hc=>cases h2;exact hc
    | _=>cases dx0<;>cases e'
   cases r1 with
   | non=>cases (show u=Value.none from h1);exact PySem.W.kia_one PySem.W.kitx_none I.kIn True.intro (hI _ k _ _ e' rfl hw) (fun z=>nomatch z) fin
   | bl y=>cases (show u=Value.bool y from h1);exact PySem.W.kia_one PySem.W.kitx_bool I.kIn True.intro (hI _ k _ _ e' rfl hw) (fun z=>nomatch z) fin
   | int i=>obtain ⟨t,z⟩:=(show ∃ t,u=Value.int i t from h1);cases z;exact PySem.W.kia_one PySem.W.kitx_int I.kIn True.intro (hI _ k _ _ e' rfl hw) (fun z=>nomatch z) fin
   | str y=>obtain ⟨t,z⟩:=(show ∃ t,u=Value.str y t from h1);cases z;exact PySem.W.kia_one PySem.W.kitx_str I.kIn True.intro (hI _ k _ _ e' rfl hw) (fun z=>nomatch z) fin
   | @tup a ys ds hq rr =>
    cases (show u=Value.ref a from h1)
    obtain ⟨its,_,⟨o,g1,g2,_⟩,_⟩:=I.tuple hq
    exact PySem.W.kia_one PySem.W.kitx_tuple I.kIn ⟨o,g1,g2⟩ (hI _ k _ _ e' rfl hw) (fun z=>nomatch z) fin
   | @lst a ys ds hq rr =>
    cases (show u=Value.ref a from h1)
    obtain ⟨its,_,⟨o,n,g1,g2,_⟩,_⟩:=I.list hq
    exact PySem.W.kia_one PySem.W.kitx_list I.kIn ⟨o,g1,g2⟩ (hI _ k _ _ e' rfl hw) (fun z=>nomatch z) fin
   | @exc a C n hn hq =>
    cases (show u=Value.ref a from h1)
    exact PySem.W.kia_one (hE a C n (yT e') hn) I.kIn (I.hok a _ hq).1 (hI _ k _ _ e' hn hw) (fun z=>nomatch z) fin
   | ty n=>cases c<;>cases e'
   | cls _=>cases c<;>cases e'
   | ins _ _ _=>cases c<;>cases e'
theorem FW (hI:Isi X c) (hE:rB X) (G:Gb X "isinstance") (hm:X.mg "isinstance"=none) (ha:SE X e g) (hb:SE X e2 (con c))
  (hs:starEach [e,e2] X.env=↥38::starEach [e2] X.env:=by rfl) (hs2:starEach [e2] X.env=[(false,eval e2 X.env)]:=by rfl) (hpl:(backTo pos (starEach [e2] X.env)).any (·.1)=false:=by rfl) :
  SE X (.Call (.Name "isinstance" p) [e,e2] [] pos) (EV.call mS [g,con c]) :=
 PE.weak (ug (LQ hI hE) G.g hm PyProof.Rows.boot_isinstance (aj ha (aj hb bZ hs2) hs) G.n G.d hs hpl) fun σ H Q ⟨δ,hσ,h⟩=>⟨δ,hσ,by
  cases r:g δ with
  | ok d =>
   have e1:evs [g,con c] δ=.ok [d,c]:=by simp [evs,r,con,R.bind]
   unfold EV.call at h
   rw [e1] at h ⊢
   refine fun vs H' s rs => ?_
   have h':RQ X σ H' (mS [d,c]) Q:=RQ.mono s h
   rcases zx (ds:=[d,c]) with ⟨_,_,k,_,e'⟩ | e'
   ·rw [e'] at h';exact ⟨d,_,rs,e',h'⟩
   ·rw [e'] at h';exact False.elim h'
  | ex C =>
   have e1:evs [g,con c] δ=.ex C:=by simp [evs,r,R.bind]
   unfold EV.call at h
   rw [e1] at h ⊢
   exact h
  | bad =>
   have e1:evs [g,con c] δ=.bad:=by simp [evs,r,R.bind]
   unfold EV.call at h
   rw [e1] at h
   exact False.elim h⟩
end
end ES
namespace ES
open PySem PySem.Spec PyProof.Rows L2 EV
unseal SE ST SW SA SS SSs
section
variable {prog:Program} {w:World} {A:Around} {s:Shared} {K:PySem.W.Frag} {e C:Addr}
open PySem.W PySem.Builtin PySem.Builtin.Getset_descriptor in
theorem GU {R:Result->Shared->Prop} {tp:Value} (L1:Looks ↥22 s.heap (isSubtype (.ref C) (.type "object")) true) (L0:Looks ↥22 s.heap (typeOf (.ref e)) (.ref C)) (done:R (.ok (.ret (.ref C))) s) :
  codeAny ↥22 A (.call (.builtin "getset_descriptor.__get__") ⟨[.builtin "object.__class__",.ref e,tp],[]⟩) R s:=by
 obtain ⟨hh,g,dr,t,os⟩:=s
 refine codeAny_call_builtin KF.slot_gs.plain KF.entry_gs (KF.slot_gs.check _ _ _ _ _ _ _ _ KF.type_class (KF.args_gs _ _ tp) ?_)
 unfold Builtin.«getset_descriptor.__get__»;unfold descrGet;rw [dga_obj]
 refine wpAny_bind (wpAny_pure ?_)
 simp only [descrGetter,descrCheckInstance,descrNameAndClass,isInstance,KF.owner_class]
 repeat lk
 refine ⟨Code.quiet_builtin _ (by decide +kernel),?_⟩
 refine codeAny_builtin KF.entry_class ?_
 unfold Builtin.«object.__class__»;unfold shownTypeOf
 repeat lk
 exact done
open PySem.W PySem.Builtin PySem.Builtin.Getset_descriptor in
theorem zX {E:Value->Shared->Prop} {Q:Fin->Shared->Prop} {tk:Tok} (L1:Looks ↥22 s.heap (isSubtype (.ref C) (.type "object")) true) (L0:Looks ↥22 s.heap (typeOf (.ref e)) (.ref C))
  (L2:Looks ↥22 s.heap (typeLookup (.ref C) "__class__") (some (.builtin "object.__class__"))) (done:Q (.done (.ret (.ref C))) s) :
  wpAny ↥22 A (Builtin.«object.__getattribute__» ⟨[.ref e,.str "__class__" tk],[]⟩) Q E s:=by
 obtain ⟨hh,g,dr,t,os⟩:=s
 have f5:=F.typeOf_object_class
 have f6:=F.slot_gs_get.lookup
 have f7:=F.slot_gs_set.lookup
 have hT5:(⟨hh,g,dr,t,os⟩:Shared).TypeIs (.builtin "object.__class__") "getset_descriptor":=F.typeOf_object_class
 repeat (any_goals (first | assumption | with_reducible refine L0.at ?_ | with_reducible refine L2.at ?_ | wp_step))
 refine GU L1 L0 ?_
 repeat (any_goals (first | assumption | wp_step))
open PySem.W PySem.Builtin PySem.Builtin.Getset_descriptor in
theorem zY {M:Model} {E:Value->Shared->Prop} {nameV:Value} {Q:Unit->Shared->Prop} (L3:Looks M s.heap (isSubtype (.ref C) (.type "BaseException")) true) (L0:Looks M s.heap (typeOf (.ref e)) (.ref C)) (done:Q () s) :
  wpAny M A (checkBuiltinCall "BaseException.__getattribute__" ⟨[.ref e,nameV],[]⟩) Q E s:=by
 obtain ⟨hh,g,dr,t,os⟩:=s
 have k1:builtinKind "BaseException.__getattribute__"=some .slot:=by decide +kernel
 have k2:splitId "BaseException.__getattribute__"=some ("BaseException","__getattribute__"):=by decide +kernel
 have ha:=F.args_bexc_ga (.ref e) nameV
 simp only [checkBuiltinCall,k1,k2]
 refine wpAny_bind ?_
 unfold isInstance
 repeat (first | with_reducible refine L0.at ?_ | with_reducible refine L3.at ?_ | wp_step)
 exact done
structure XCls (K:PySem.W.Frag) (C:Addr):Prop where
 c0:PySem.W.mroIn K C (.type "object")=some true
 c1:PySem.W.mroIn K C (.type "BaseException")=some true
 c2:PySem.W.findIn K (.ref C) "__class__"=some (some (.builtin "object.__class__"))
 c3:PySem.W.findIn K (.ref C) "__getattribute__"=some (some (.builtin "BaseException.__getattribute__"))
 c4:PySem.W.findIn K (.ref C) "__getattr__"=some none
 c5:∃ cd,PySem.W.clsIn K C=some cd
open PySem.W PySem.Builtin PySem.Builtin.Getset_descriptor in
theorem Kg {E:Value->Shared->Prop} {Q:Value->Shared->Prop} {tk:Tok} (FB:ExcAttrFacts "ValueError") (L0:Looks ↥22 s.heap (typeOf (.ref e)) (.ref C)) (c:XCls K C) (KX:K.In s.heap) (done:Q (.ref C) s) :
  wpAny ↥22 A (getAttrBy (.ref e) (.str "__class__" tk) false) Q E s:=by
 have L1:Looks ↥22 s.heap (isSubtype (.ref C) (.type "object")) true:=looks_mroIn KX c.c0
 have L3:Looks ↥22 s.heap (isSubtype (.ref C) (.type "BaseException")) true:=looks_mroIn KX c.c1
 have L2:Looks ↥22 s.heap (typeLookup (.ref C) "__class__") (some (.builtin "object.__class__")):=looks_findIn KX c.c2
 have L4:Looks ↥22 s.heap (typeLookup (.ref C) "__getattribute__") (some (.builtin "BaseException.__getattribute__")):=looks_findIn KX c.c3
 have L5:Looks ↥22 s.heap (typeLookup (.ref C) "__getattr__") none:=looks_findIn KX c.c4
 obtain ⟨hh,g,dr,t,os⟩:=s
 have f3:=FB.ga.bind (.ref e)
 have q2:(Value.builtin "BaseException.__getattribute__" == Value.builtin "object.__getattribute__")=false:=by decide +kernel
 have q0:(false&&onTheHeap (Value.builtin "BaseException.__getattribute__"))=false:=rfl
 have q1:(onTheHeap (Value.ref C)&&Value.builtin "BaseException.__getattribute__" == Value.builtin "object.__getattribute__")=false:=by rw [q2];rfl
 repeat (any_goals (first | assumption | with_reducible refine L0.at ?_ | with_reducible refine L4.at ?_ | with_reducible refine L5.at ?_ | wp_step))
 refine codeAny_call_builtin FB.ga.plain F.entry_bexc_ga (zY L3 L0 (zX L1 L0 L2 ?_))
 repeat (any_goals (first | assumption | wp_step))
open PySem.W in
theorem FK (c:XCls K C):KitX K (.ref e) (.ref C) (fun h=>∃ o vs,h.get? e=some o/\o.cls=.ref C/\o.data=.fields vs) where
 ty:=fun M h KX ⟨o,vs,h1,h2,h3⟩=>h2▸(Looks.ld h1).andThen .now
 it:=fun M h KX _=>by
  obtain ⟨cd,hc⟩:=c.c5
  unfold clsIn at hc
  split at hc
  ·rename_i hlk
   intro A' Q' E' s' k q
   unfold isType loadHead
   exact wpAny_bind (wpAny_loadPart (k _ _ (KX _ _ hlk)) (wpAny_pure q))
  ·cases hc
 ne:=fun h tp dd its n sl KX htp=>by
  obtain ⟨cd,hc⟩:=c.c5
  unfold clsIn at hc
  split at hc
  ·rename_i hlk
   have h1:=KX _ _ hlk
   by_cases z:C=tp
   ·subst z
    rw [htp] at h1
    cases h1
   ·simpa using z
  ·cases hc
 ca:=fun {prog w A E Q s} KX ⟨o,vs,h1,h2,h3⟩ q=>by
  obtain ⟨hh,g,dr,t,os⟩:=s
  have L0:Looks ↥22 hh (typeOf (.ref e)) (.ref C):=h2▸(Looks.ld h1).andThen .now
  have by_:∀ {tk:Tok} {t':Nat} {E':Value->Shared->Prop} {Q':Value->Shared->Prop},Q' (.ref C) ⟨hh,g,dr,t',os⟩->wpAny ↥22 A (getAttrBy (.ref e) (.str "__class__" tk) false) Q' E' ⟨hh,g,dr,t',os⟩:=fun {tk t' E' Q'} done=>Kg (s:=⟨hh,g,dr,t',os⟩) PySem.F.excAttr_ValueError L0 c KX done
  clear h1
  unfold getAttr? getAttrBy?
  repeat (any_goals (first | assumption | with_reducible apply by_ | wp_step))
end
theorem qz (h:∀ (n:String) (C:Addr),av.contains n=true->X.mg n=some (.ref C)->XCls X.K C):rB X:=fun e C n hx hn=>FK (h n C hx hn)
end ES
namespace ES
open PySem PySem.Spec PyProof.Rows L2 EV
unseal SE ST SW SA SS SSs
theorem mG {G:List Str} (i:Nat) {x:Str} (h:G[i]? = some x:=by rfl):x∈G:=List.mem_of_getElem? h
structure XF (K:PySem.W.Frag) (mg:Str->Option Value) (n:String):Prop where
 ex:mg n=none\/∃ C,mg n=some (.ref C)/\XCls K C
theorem wH {K:PySem.W.Frag} {mg:Str->Option Value} (h:∀ n∈av,XF K mg n) (n:String) (C:Addr) (hn:av.contains n=true) (hm:mg n=some (.ref C)):XCls K C:=by
 rcases (h n (by simpa using hn)).ex with z | ⟨C',z,x⟩
 ·rw [hm] at z;cases z
 ·rw [hm] at z;cases z;exact x
structure CF (K:PySem.W.Frag) (mg:Str->Option Value) (B:Addr) (n:String):Prop where
 ex:mg n=none\/∃ C,mg n=some (.ref C)/\PySem.W.mroIn K C (.ref B)=some true
structure CB (K:PySem.W.Frag) (B:Addr):Prop where
 c1:∃ cd,PySem.W.clsIn K B=some cd
 c2:PySem.W.typeIn K (.ref B)=some (.type "type")
 c3:PySem.W.subIn K (.type "type") ↥6=some false
 c4:PySem.W.mroIn K B (.type "BaseException")=some true
theorem yG (hn:n≠"ValueError") (i0:PySem.W.kitOne X.K (.type "NoneType") (.type n)=some false) (i1:PySem.W.kitOne X.K (.type "bool") (.type n)=some (n == "int"||n == "bool")) (i2:PySem.W.kitOne X.K (.type "int") (.type n)=some (n == "int"))
  (i3:PySem.W.kitOne X.K (.type "str") (.type n)=some (n == "str")) (i4:PySem.W.kitOne X.K ↥6 (.type n)=some (n == "tuple")) (i5:PySem.W.kitOne X.K (.type "list") (.type n)=some (n == "list")):Isi X (.ty n):=by
 intro d k t u e ht hu
 cases hu
 cases d with
 | exc C =>
  have z:=(fI e).1
  rw [Bool.and_eq_true,beq_iff_eq] at z
  exact absurd z.2 hn
 | non=>cases ht;obtain ⟨_,rfl⟩:=fI e;exact i0
 | bl b=>cases ht;obtain ⟨_,rfl⟩:=fI e;exact i1
 | int b=>cases ht;obtain ⟨_,rfl⟩:=fI e;exact i2
 | str b=>cases ht;obtain ⟨_,rfl⟩:=fI e;exact i3
 | tup b=>cases ht;obtain ⟨_,rfl⟩:=fI e;exact i4
 | lst b=>cases ht;obtain ⟨_,rfl⟩:=fI e;exact i5
 | _=>cases e
structure IF (K:PySem.W.Frag) (mg:Str->Option Value) (c:Value) (k:Bool) (n:String):Prop where
 ex:mg n=none\/∃ C,mg n=some (.ref C)/\PySem.W.kitOne K (.ref C) c=some k
theorem iw:∀ {ns:List Int},PySem.W.WData.weightAll (ns.map PySem.W.WData.int)<=2^20->∀ n∈ns,nb n<=2^20
 | [],_,_,h=>nomatch h
 | m::r,hw,n,h=>by
  rw [List.map_cons,PySem.W.WData.weightAll] at hw
  rcases List.mem_cons.mp h with rfl | h
  ·have:PySem.W.WData.weight (.int n)=Builtin.Int.intBits n:=by simp only [PySem.W.WData.weight,Builtin.Int.intBits]
   rw [yp]
   omega
  ·exact iw (ns:=r) ⋯ n h
open PySem.W PySem.Calls Att in
theorem tM {l:OpenLaw} {n:Nat} {q:Program} {loose:List Str} {XP:(Str->Option Value)->Heap->Prop} {YP:World->Heap->Prop} {d:DefRec}
  (hn:l.most=some n) (hdf:d.params.defaults=[])
  (call:∀ (w:World) (s₀ s₁:Shared) (mg mb:Str->Option Value) (fa:Addr) (a:Addr) (vs:List Value) (ns:List Int),
   Ground q loose [] XP w s₀ mg mb s₁.heap->YP w s₁.heap->mg d.name=some (.ref fa) ->
   s₁.heap.get? a=some { cls:=.type "list",data:=.seq vs.toArray }->IntsAre vs ns->ns.length<=n->(∀ m∈ns,nb m<=2^20)->s₁.gens = #[] ->
   codeAny (model l.prog w) callerA (.call (.ref fa) ⟨[.ref a],[]⟩) (fun r s'=>r=.ok (.ret (.bool true))/\OldK s₁.heap s'.heap/\s'.os=s₁.os/\AllBare s'.gens) s₁) :
  WalkO q loose XP YP l.row.toRowW d [] (fun f vs=>PySem.call f vs):=by
 intro w s₀ s₁ mg mb G Y fa o pm cd doc dV kV ho hd hcd hD hmg hg args vals as hpre hlay hrd hwl hlo
 obtain rfl:dV=.none:=Dflts.none hD hdf
 obtain rfl:kV=.none:=Dflts.noKw hD
 obtain ⟨a,vs,ns,rfl,rfl,hobj,hints,hlen⟩:=xi hn hpre hwl
 have hb:∀ m∈ns,nb m<=2^20:=by
  have h1:=(layableW_iff.mp (layW_cons hlay).1).2.2
  rw [WData.weight] at h1
  exact iw h1
 refine enter_call (codeAny_mono (call w s₀ s₁ mg mb fa a vs ns G Y hmg hobj hints hlen hb hg) fun r s' hq => ?_)
 obtain ⟨rfl,h2,h3,h4⟩:=hq
 exact ⟨.inl ⟨.bool true,.bool true,[],rfl,fun _=>rfl,.bool true,xG l _,fun _=>⟨List.Pairwise.nil,fun _ hm=>(nomatch hm)⟩⟩,h2,h3,h4⟩
theorem Ab {l:PySem.W.OpenLaw} {k:Nat} {q:Program} {loose:List Str} {XP:(Str->Option Value)->Heap->Prop} {YP:World->Heap->Prop} {d:DefRec} {K:Params->PySem.W.Frag} {x:Str} {f:List D->R D}
  (hf:Good f) (hn:l.most=some 63) (hdf:d.params.defaults=[]) (hr:Room k callerA)
  (hY:∀ (w:World) (h:Heap),YP w h->(K w.params).In h)
  (F:∀ (w:World) (mg:Str->Option Value) (fa:Addr) (h:Heap),(K w.params).In h->h.Ns mainGlobals mg->mg d.name=some (.ref fa) ->
   ∃ fd:FuncData,(∀ (s:Shared) (u:Value),BindsTo s fd ⟨[u],[]⟩ [(x,u)]) /\
    ∀ base:Heap,(K w.params).In base->base.Ns mainGlobals mg->FnOk l.prog w (K w.params) mg base (CXF l.prog w) k fa fd [x] (spP (K w.params) mg f)) :
  PySem.W.WalkO q loose XP YP l.row.toRowW d [] (fun f vs=>PySem.call f vs):=by
 refine tM hn hdf fun w s₀ s₁ mg mb fa a vs ns G Y hmg hobj hints hlen hbits hg => ?_
 have KX:=hY w _ Y
 obtain ⟨fd,hb,hF⟩:=F w mg fa _ KX G.T.g hmg
 refine BA KX G.T.g G.T.b G.T.builtins G.T.nolimit hg hobj hints (Nat.le_trans hlen ↥1) hr hF hb (fun H hO hS=>⟨[.lst (ns.map .int)],.cons (.lst hS (Reps.ints ns)) .nil,?_⟩) fun H e s' ⟨_,_,_,_,_,z⟩=>z
 rw [hf ns hlen hbits]
 exact fun v H' _ r=>by cases r;rfl
end ES
namespace ES
open PySem PySem.Spec PyProof.Rows L2 EV
unseal SE ST SW SA SS SSs
structure FldOk (X:Cx) (cn f:String):Prop where
 ex:∃ C,X.mg cn=some (.ref C)/\Cls X.K C/\js X.K C f
structure MethOk (X:Cx) (cn m:String) (F:List D->R D):Prop where
 ex:∃ C fa k fd ps,X.mg cn=some (.ref C)/\Cls X.K C/\Meth X.K C m fa/\FnOk X.prog X.w X.K X.mg X.base (CXF X.prog X.w) k fa fd ps (spP X.K X.mg F)/\Room k X.A/\Binds X.K fd ps []
section
variable {X:Cx} {o e:Expr} {es:List Expr} {go:E} {gs:List E} {pos apos p:Pos} {cn f m:String} {F:List D->R D}
theorem yY (h:FldOk X cn f) (ho:SE X o go) (hb:attributeBase o f X.env (eval o X.env)=eval o X.env:=by rfl):SE X (.Attribute o f pos) (un (wj cn f) go):=by
 obtain ⟨C,hC,cl,na⟩:=h.ex
 refine PE.weak (Ih ho hb) fun σ H Q ⟨δ,hσ,h⟩=>⟨δ,hσ,(RQ.bind h).to fun v H' s ⟨_,d,r,q⟩ => ?_⟩
 cases r with
 | @ins a C' dx n fs ds hn ha rf =>
  unfold wj at q
  simp only at q
  split at q
  ·rename_i hcn
   rw [beq_iff_eq] at hcn
   subst hcn
   split at q
   ·rename_i d hd
    obtain ⟨v,e1,e2⟩:=rf.lookup hd
    rw [hC] at hn
    cases hn
    exact ⟨a,C,dx,fs,v,rfl,ha,cl,na,e1,q _ _ ↥25 e2⟩
   ·exact False.elim q
  ·exact False.elim q
 | _=>exact False.elim q
theorem Fq {σ:L2.St} {H:Hp} {δ:Dt} {d:D} {es:List E} {Q:VK} (h:RQ X σ H (if fc cn m d then (evs es δ).bind fun ds=>F (d::ds) else .bad) Q):fc cn m d=true/\RA X σ H (evs es δ) fun vs H'=>aC H H'/\∃ ds,Reps X.K X.mg H' vs ds/\RQ X σ H' (F (d::ds)) Q:=by
 by_cases hm:fc cn m d=true
 ·rw [if_pos hm] at h
  refine ⟨hm,?_⟩
  have h2:RQ X σ H ((evs es δ).bind fun ds=>F (d::ds)) Q:=h
  cases r:evs es δ with
  | ok ds=>rw [r] at h2;exact fun vs H' s rs=>⟨s,ds,rs,RQ.mono s h2⟩
  | ex C=>rw [r] at h2;exact h2
  | bad=>rw [r] at h2;exact h2
 ·rw [if_neg hm] at h;exact False.elim h
theorem uF (h:MethOk X cn m F) (ho:SE X o go) (ha:SA X (e::es) gs)
  (hst:starEach (e::es) X.env=↥38::starEach es X.env:=by rfl) (hpl:(backTo pos (starEach es X.env)).any (·.1)=false:=by rfl)
  (ht:eval (.Call (.Attribute o m apos) (e::es) [] pos) X.env=(do
   let ov<-eval o X.env
   standAt apos.atName
   let (f,first)<-holding [ov] (getMethod ov m pl)
   callWith pos f first (backTo pos (starEach (e::es) X.env)) (backToKw pos (keywordEach [] X.env))):=by rfl) :
  SE X (.Call (.Attribute o m apos) (e::es) [] pos) (Gx cn m F go gs):=by
 obtain ⟨C,fa,k,fd,ps,hC,cl,hm,FO,hr,hb⟩:=h.ex
 intro pins s σ H Q I ⟨δ,hσ,h⟩
 refine PySem.W.methodCall_KW (pl:=pl) (thn (ho pins s σ H _ I ⟨δ,hσ,RQ.bind h⟩) fun u s1 ⟨x,H1,I1,rx,sm,d,rd,q⟩ => ?_) ht
 obtain ⟨im,qa⟩:=Fq q
 cases rd with
 | @ins a C' dx n fs ds hn hA rf =>
  unfold fc at im
  rw [Bool.and_eq_true,beq_iff_eq] at im
  obtain ⟨e1,e2⟩:=im
  subst e1
  rw [hC] at hn
  cases hn
  have l:fs.lookup (m:Str)=none:=rf.lookupN (by simpa using e2)
  obtain rfl:u=Value.ref a:=rx
  refine vR I1 hA cl hm l ?_
  refine PySem.W.callWith_K (first:=[.ref a]) (h₀:=X.base) I.ok.mod.kin hm.kp (thn (ha pos pins s1 σ H1 _ I1 ⟨δ,hσ.mono sm,qa⟩) fun us s2 ⟨vs,H2,I2,r,sm2,ds',rs,q2⟩=>⟨I2.kIn,?_⟩) hst hpl
  exact HE (us:=.ref a::us) (vs:=.ref a::vs) FO hr hb I2 (.cons rfl r) (.cons (.ins hC (sm2 _ _ hA) (rf.mono sm2)) rs) q2
 | _=>cases im
def spI (K:PySem.W.Frag) (f:Str):Sp:=fun vs H Q _=>∃ x v C dx,vs=[.ref x,v]/\H x=some (.ins C dx [])/\Cls K C/\js K C f/\Q .non (upd H x (.ins C dx [(f,v)]))
theorem Fz {P:Program} {w:World} {K:PySem.W.Frag} {mg:Str->Option Value} {base:Heap} {x qual ps pa f:Str} {st:Stmt} {fa:Addr} {fd:FuncData} {p1 p2 p3 p4:Pos} {k:Nat} (F:Fun K x qual st fa fd)
  (S:FnScope [ps,pa] [ps,pa] (ae st)) (h0:(ae st).names.lookup ps=some .local) (h1:(ae st).names.lookup pa=some .local) (d0:(ps == ("__debug__":Str))=false/\(ps == ("__classdict__":Str))=false) (d1:(pa == ("__debug__":Str))=false/\(pa == ("__classdict__":Str))=false)
  (hb:ak st=[.Assign [.Attribute (.Name ps p1) f p2] (.Name pa p3) p4]) (hsw:∀ env,swapsWith (.Name pa p3) (some (.Attribute (.Name ps p1) f p2)) p4.line env=pure false):FnOk P w K mg base CX0 (k+1) fa fd [ps,pa] (spI K f):=by
 refine F.ok S (fun vs H Q E h => ?_) fun cdv A outer s H vs Q E hr h => ?_
 ·obtain ⟨_,_,_,_,rfl,_⟩:=h
  rfl
 ·obtain ⟨a,v,C,dx,rfl,hH,cl,na,q⟩:=h
  rw [hb]
  refine ⟨_,xE (HY (uf (i:=0) rfl (.inl h0) d0.1 d0.2) (uf (i:=1) rfl (.inl h1) d1.1 d1.2) (hsw _)),?_⟩
  exact ⟨v,rfl,_,rfl,a,C,dx,[],rfl,hH,cl,na,by decide,q⟩
structure MakeOk (X:Cx) (cn f:String):Prop where
 ex:∃ C fa k fd ps,X.mg cn=some (.ref C)/\Cls X.K C/\js X.K C f/\Mk X.K C fa/\FnOk X.prog X.w X.K X.mg X.base CX0 k fa fd ps (spI X.K f)/\Room (k+1) X.A/\Binds X.K fd ps []
theorem FV (h:MakeOk X cn f) (G:Gb X cn) (ha:SA X (e::es) gs) (he:starEach (e::es) X.env=↥38::starEach es X.env:=by rfl) (hpl:(backTo pos (starEach es X.env)).any (·.1)=false:=by rfl) :
  SE X (.Call (.Name cn p) (e::es) [] pos) (EV.call (mk1 cn f) gs):=by
 obtain ⟨C,fa,k,fd,ps,hC,cl,na,M,F,hr,hb⟩:=h.ex
 refine PE.weak (EE (E:=fun _ _ _=>False) M F hr G.g hC hb .nil Le ha G.d he hpl) fun σ H Q ⟨δ,hσ,h⟩=>⟨δ,hσ,(RA.bind h).to fun vs H' s ⟨_,ds,rs,q⟩ x dx hx hdx hne => ?_⟩
 unfold mk1 at q
 split at q
 ·rename_i d
  obtain ⟨v,rfl,r⟩:=sf rs
  refine ⟨x,v,C,dx,rfl,bO,cl,na,rfl,?_⟩
  have s1:aC H' (upd H' dx (.own x)):=bP hdx _
  have hx1:(upd H' dx (.own x)) x=none:=by rw [bB (Ne.symm hne)];exact hx
  have s2:aC (upd H' dx (.own x)) (upd (upd H' dx (.own x)) x (.ins C dx [])):=bP hx1 _
  have s3:aC H' (upd (upd (upd H' dx (.own x)) x (.ins C dx [])) x (.ins C dx [((f:Str),v)])):=fun b o e=>by
   have hb:b≠x:=cR e hx
   rw [bB hb,bB hb]
   exact s1 b o e
  exact q _ _ s3 (.ins hC bO (.cons (r.mono s3) .nil))
 ·exact False.elim q
end
end ES
namespace ES
open PySem PySem.Spec PyProof.Rows L2 EV
unseal SE ST SW SA SS SSs
def zB (X:Cx) (J:It) (H:Hp) (ds:List D):Prop:=∀ Hc,aC H Hc ->
 (∀ i d,ds[i]? = some d->J.go i Hc/\∀ x H',J.yld i Hc x H'->aC Hc H'/\∀ Hq,aC H Hq->(∀ b o,H' b=some o->Hc b=none->Hq b=some o)->Rep X.K X.mg Hq x d)/\∀ i,ds.length<=i->J.stop i Hc
theorem rG {X:Cx} {H Hc H':Hp} {x:V} {d:D} (e:H'=Hc) (r:Rep X.K X.mg H x d):aC Hc H'/\∀ Hq,aC H Hq->(∀ b o,H' b=some o->Hc b=none->Hq b=some o)->Rep X.K X.mg Hq x d :=
 ⟨by rw [e];exact aC.refl _,fun Hq s _=>r.mono s⟩
def RI (X:Cx) (σ:L2.St) (H:Hp) (r:R (List D)) (Q:It->Hp->Prop):Prop:=match r with
 | .ok ds=>∀ J H',aC H H'->zB X J H' ds->Q J H'
 | .ex C=>∀ Ca,X.mg C=some (.ref Ca)->∀ H',aC H H'->ew X Ca σ H'
 | .bad=>False
def tI (X:Cx) (g:IT):TI:=fun σ H Q=>∃ δ,Stt X.K X.mg H σ δ/\RI X σ H (g δ) Q
@[irreducible] def SI (X:Cx) (tg iter:Expr) (g:IT):Prop:=PI X tg iter (tI X g)
unseal SI
section
variable {X:Cx} {tg e a b:Expr} {g ga gb:E} {σ:L2.St} {H H1:Hp}
theorem RI.mono (s:aC H H1) (h:RI X σ H r Q):RI X σ H1 r Q:=by
 cases r with
 | ok d=>exact fun v H' s' r=>h v H' (s.trans s') r
 | ex C=>exact fun Ca hc H' s'=>h Ca hc H' (s.trans s')
 | bad=>exact h
theorem RI.bind (h:RI X σ H (r.bind f) Q):RQ X σ H r (fun v H'=>aC H H'/\∃ d,Rep X.K X.mg H' v d/\RI X σ H' (f d) Q):=by
 cases r with
 | ok d=>exact fun v H' s r=>⟨s,d,r,h.mono s⟩
 | ex C=>exact h
 | bad=>exact h
theorem RI.bindA (h:RI X σ H (r.bind f) Q):RA X σ H r (fun vs H'=>aC H H'/\∃ ds,Reps X.K X.mg H' vs ds/\RI X σ H' (f ds) Q):=by
 cases r with
 | ok d=>exact fun v H' s r=>⟨s,d,r,h.mono s⟩
 | ex C=>exact h
 | bad=>exact h
theorem PI.weak (h:PI X tg e t) (w:∀ σ H Q,t' σ H Q->t σ H Q):PI X tg e t':=fun pins s σ H Q I q=>h pins s σ H Q I (w σ H Q q)
theorem CI (h:SE X e g):SI X tg e (itL g):=PI.weak (ED h) fun σ H Q ⟨δ,hσ,q⟩=>⟨δ,hσ,(RI.bind q).to fun v H' s ⟨_,d,r,q⟩=>by
 cases d with
 | lst ds =>
  cases r with
  | @lst p xs _ hq rs =>
   refine ⟨p,rfl,⟨xs,hq⟩,q _ _ ↥25 fun Hc sc=>⟨fun i d hd => ?_,fun i hi=>⟨xs,sc.seq hq,by rw [rs.length];exact hi⟩⟩⟩
   obtain ⟨v,e1,r1⟩:=rs.get hd
   exact ⟨⟨xs,v,sc.seq hq,e1⟩,fun x H'' ⟨e2,y⟩=>by
    have:=y xs (sc.seq hq)
    rw [e1] at this
    cases this
    exact rG e2 r1⟩
 | _=>exact False.elim q⟩
theorem LD (h:SE X e g):SI X tg e (itT g):=PI.weak (HZ h) fun σ H Q ⟨δ,hσ,q⟩=>⟨δ,hσ,(RI.bind q).to fun v H' s ⟨_,d,r,q⟩=>by
 cases d with
 | tup ds =>
  cases r with
  | @tup p xs _ hq rs =>
   refine ⟨p,rfl,⟨xs,hq⟩,q _ _ ↥25 fun Hc sc=>⟨fun i d hd => ?_,fun i hi=>⟨xs,gh sc hq,by rw [rs.length];exact hi⟩⟩⟩
   obtain ⟨v,e1,r1⟩:=rs.get hd
   exact ⟨⟨xs,v,gh sc hq,e1⟩,fun x H'' ⟨e2,y⟩=>by
    have:=y xs (gh sc hq)
    rw [e1] at this
    cases this
    exact rG e2 r1⟩
 | _=>exact False.elim q⟩
end
def FI (X:Cx) (σ:L2.St) (H:Hp) (os:Os) (δ:Dt) (r:R (List D)) (Q:It->Hp->Prop):Prop:=match r with
 | .ok ds=>∀ J H',StO X H' σ δ os->aC ↥26 (hide H' os)->zB X J (hide H' os) ds->Q J H'
 | .ex C=>∀ Ca,X.mg C=some (.ref Ca)->∀ H',aC ↥26 H'->Stt X.K X.mg H' σ (noOwn δ)->ew X Ca σ H'
 | .bad=>False
def tFI (X:Cx) (g:IT):TI:=fun σ H Q=>∃ δ os,StO X H σ δ os/\FI X σ H os δ (g δ) Q
section
variable {X:Cx} {N:List Str} {tg e:Expr} {g:IT}
theorem Jx (hx:X.ex=[]) (h:SI X tg e g):PI X tg e (tFI X g):=by
 intro pins s σ H Q I ⟨δ,os,S,q⟩
 have hl:=S.lsts
 have hw:RI X σ ↥26 (g δ) (fun J H1=>aC ↥26 H1/\∃ ds,g δ=.ok ds/\zB X J H1 ds):=by
  cases r:g δ with
  | ok d=>exact fun v H' s r=>⟨s,d,rfl,r⟩
  | ex C =>
   rw [r] at q
   exact fun Ca hc H' s'=>q Ca hc H' s' (S.noOwn s')
  | bad=>rw [r] at q;exact q
 refine thn (h _ s σ _ _ (kS I hl) ⟨δ,S.st,hw⟩) fun v s1 h1=>thn h1 fun itv s2 h2 => ?_
 obtain ⟨it,fp,tn,J,H1,e1,I1,T,st,fpk,sm,ds,e2,wk⟩:=h2
 obtain ⟨I2,hn⟩:=kR hx I hl I1
 rw [e2] at q
 have eh:=jc (H:=H) hn
 refine ⟨it,fp,tn,J,fz H H1 os,e1,I2,T,st,fun b hb => ?_,q J _ (S.shown sm hn) (by rw [eh];exact sm) (by rw [eh];exact wk)⟩
 obtain ⟨f0,f1,f2,f3,f4,f5⟩:=fpk b hb
 have nb:b∉j5 os:=fun z=>by
  obtain ⟨xs,hh⟩:=hl b z
  obtain ⟨o,eo⟩:∃ o,s.heap.get? b=some o:=by
   obtain ⟨_,its,n,_,eo⟩:=I.hok b _ hh
   exact ⟨_,eo⟩
  exact f5 (b,o) (List.mem_append_right _ (List.mem_append_right _ (dH z eo))) rfl
 refine ⟨by unfold fz;rw [if_neg nb];exact f0,f1,f2,f3,f4,fun p hp=>f5 p ?_⟩
 rw [<- List.append_assoc]
 exact List.mem_append_left _ hp
variable {body:List Stmt} {gb:S} {pos:Pos}
theorem xv (C:Sx X N) (L:Lp X) (i:Nat) (hN:N[i]? = some x) (hx:Sto X x) (he:SI X (.Name x pos') e g) (hb:SSs X body gb) (hs:∀ x,foldedSetIterable e X.env x=pure x:=by intro _;rfl) :
  SS X (.For (.Name x pos') e body [] pos) (Gy i g gb):=by
 refine PS.weak (HX L.own L.calm (Jx C.ex he) (sv (i:=i) (by rw [C.sc.n];exact C.sc.nd) (by rw [C.sc.n];exact hN) hx.1 hx.2) hb hs) fun D σ H ⟨δ,os,S,q⟩=>⟨δ,os,S,?_⟩
 unfold Gy ovI at q
 cases r:g δ with
 | ok ds =>
  rw [r] at q
  intro J H1 S1 s1 wk
  refine ⟨fun n m σ' H'=>m=ds.length - n/\n<=ds.length/\Pv X D ↥26 (hide H1 os) i gb ds n σ' H',⟨ds.length,by simp,Nat.zero_le _,δ,os,S1,aC.refl _,s1,by rw [List.drop_zero];exact q⟩,?_⟩
  rintro n m σ' H' ⟨rfl,hn,p⟩
  obtain ⟨δ',os',S',s',s0,q'⟩:=id p
  have w:=wk H' (s'.trans (bp _ _))
  by_cases hlt:n<ds.length
  ·have hd:ds[n]? = some ds[n]:=List.getElem?_eq_getElem hlt
   refine .inr ⟨(w.1 n _ hd).1,Pv X D ↥26 (hide H1 os) i gb ds (n+1),fun σ2 H2 z=>⟨ds.length - (n+1),⋯,rfl,⋯,z⟩,fun x H'' y => ?_⟩
   obtain ⟨e1,r1⟩:=(w.1 n _ hd).2 x H'' y
   have sm:=s'.trans (gq os' e1)
   exact Av hd (S'.mono e1) sm s0 q' (r1 _ sm fun b o z1 z2=>by
    rw [cG fun z=>by obtain ⟨xs,hx⟩:=S'.lsts b z;rw [z2] at hx;cases hx]
    exact z1)
  ·exact .inl ⟨w.2 n ⋯,JE ⋯ p⟩
 | ex C=>rw [r] at q;exact fun Ca hc H' s' st=>q σ H' s' st Ca hc
 | bad=>rw [r] at q;exact q
end
end ES
namespace ES
open PySem PySem.Spec PyProof.Rows L2 EV
unseal SE ST SW SA SS SSs SI
def zR (env:Env):List (Str×NameKind)->List (Str×Addr)->List (Str×Addr)
 | [],cs=>cs
 | (n,k)::r,cs=>zR env r (if k == .free then (n,(env.cells.lookup n).getD 0)::cs else cs)
theorem vY (h:∀ y,(y,NameKind.free)∈sc.names->∃ c,env.cells.lookup y=some c):closureFor sc env=pure (zR env sc.names []):=by
 unfold closureFor
 have key:∀ (l:List (Str×NameKind)) (cs:List (Str×Addr)),(∀ y,(y,NameKind.free)∈l->∃ c,env.cells.lookup y=some c) ->
   (forIn l cs fun x (r:List (Str×Addr))=>(match x with | (name,kind)=>if (kind == NameKind.free)=true then do let a<-cellOf env name;pure (ForInStep.yield ((name,a)::r)) else pure (ForInStep.yield r)):Sem _)=pure (zR env l cs):=by
  intro l
  induction l with
  | nil=>intro cs _;rfl
  | cons p r ih =>
   intro cs hl
   obtain ⟨n,k⟩:=p
   rw [List.forIn_cons]
   by_cases hk:(k == NameKind.free)=true
   ·obtain ⟨c,hc⟩:=hl n (by rw [beq_iff_eq] at hk;subst hk;exact .head _)
    simp only [hk,if_true,cellOf,hc,zR]
    exact ih _ fun y hy=>hl y (.tail _ hy)
   ·simp only [hk,Bool.false_eq_true,if_false,zR]
    exact ih _ fun y hy=>hl y (.tail _ hy)
 simp only [key sc.names [] h]
 rfl
theorem CM:∀ {l:List (Str×NameKind)} {cs:List (Str×Addr)},(∀ y,(y,NameKind.free)∈l->∃ c,env.cells.lookup y=some c)->(∀ y c,cs.lookup y=some c->env.cells.lookup y=some c)->∀ y c,(zR env l cs).lookup y=some c->env.cells.lookup y=some c
 | [],_,_,h=>h
 | (n,k)::r,cs,hl,h=>by
  refine CM (l:=r) (fun y hy=>hl y (.tail _ hy)) fun y c e => ?_
  by_cases hk:(k == NameKind.free)=true
  ·rw [if_pos hk,List.lookup_cons] at e
   cases q:(y == n) with
   | true =>
    rw [q] at e
    obtain ⟨c',hc⟩:=hl n (by rw [beq_iff_eq] at hk;subst hk;exact .head _)
    rw [beq_iff_eq] at q
    subst q
    rw [hc] at e ⊢
    simpa using e
   | false=>rw [q] at e;exact h y c e
  ·rw [if_neg hk] at e;exact h y c e
theorem zd:∀ {l:List (Str×NameKind)} {cs:List (Str×Addr)} {y:Str},((y,NameKind.free)∈l\/∃ c,cs.lookup y=some c)->∃ c,(zR env l cs).lookup y=some c
 | [],_,_,h=>h.elim (fun z=>nomatch z) id
 | (n,k)::r,cs,y,h=>by
  refine zd (l:=r) ?_
  rcases h with h | ⟨c,h⟩
  ·rcases List.mem_cons.mp h with z | z
   ·cases z
    exact .inr ⟨_,by rw [if_pos (show (NameKind.free == NameKind.free)=true from rfl),List.lookup_cons,beq_self_eq_true]⟩
   ·exact .inl z
  ·refine .inr ?_
   by_cases hk:(k == NameKind.free)=true
   ·rw [if_pos hk,List.lookup_cons]
    cases q:(y == n) with
    | true=>exact ⟨_,rfl⟩
    | false=>exact ⟨c,h⟩
   ·rw [if_neg hk];exact ⟨c,h⟩
theorem gj (hk:k ≠ .free):sc.names.lookup x=some k->(relabel sc env).names.lookup x=some k:=by
 unfold relabel
 simp only
 generalize sc.names=l
 induction l with
 | nil=>intro h;cases h
 | cons p r ih =>
  obtain ⟨n,k'⟩:=p
  intro h
  rw [List.lookup_cons] at h
  rw [List.map_cons]
  cases q:(x == n) with
  | true =>
   rw [q] at h
   have e:k'=k:=by simpa using h
   subst e
   have:(k' == NameKind.free)=false:=by simpa using hk
   simp [this,List.lookup_cons,q]
  | false =>
   rw [q] at h
   split<;>(rw [List.lookup_cons,q];exact ih h)
theorem jW (hf:env.scope.kind=.function) (hc:env.kindOf x=some .cell):sc.names.lookup x=some .free->(relabel sc env).names.lookup x=some .cell:=by
 unfold relabel
 simp only
 generalize sc.names=l
 induction l with
 | nil=>intro h;cases h
 | cons p r ih =>
  obtain ⟨n,k'⟩:=p
  intro h
  rw [List.lookup_cons] at h
  rw [List.map_cons]
  cases q:(x == n) with
  | true =>
   rw [q] at h
   have e:k'=.free:=by simpa using h
   subst e
   rw [beq_iff_eq] at q
   subst q
   simp [hf,hc,List.lookup_cons]
  | false =>
   rw [q] at h
   split<;>(rw [List.lookup_cons,q];exact ih h)
theorem mV:(relabel sc env).names.lookup x=some k->sc.names.lookup x=some k\/(sc.names.lookup x=some .free/\k=.cell):=by
 unfold relabel
 simp only
 generalize sc.names=l
 induction l with
 | nil=>intro h;cases h
 | cons p r ih =>
  obtain ⟨n,k'⟩:=p
  intro h
  rw [List.map_cons] at h
  rw [List.lookup_cons]
  cases q:(x == n) with
  | true =>
   split at h
   ·rename_i hc
    rw [List.lookup_cons,q] at h
    have e:NameKind.cell=k:=by simpa using h
    simp only [Bool.and_eq_true,beq_iff_eq] at hc
    exact .inr ⟨by rw [hc.1.1],e.symm⟩
   ·rw [List.lookup_cons,q] at h
    have e:k'=k:=by simpa using h
    exact .inl (by rw [e])
  | false=>split at h<;>(rw [List.lookup_cons,q] at h;exact ih h)
structure ScU (xs ks G:List Str) (sc:Scope):Prop where
 kind:sc.kind=.function
 noc:∀ y∈sc.names,y.2 ≠ .cell
 nms:∀ y∈sc.names,y.2=.local->sc.names.lookup y.1=some .local
 loc:∀ y∈xs,sc.names.lookup y=some .local
 fre:∀ y∈ks,sc.names.lookup y=some .free
 all:∀ y∈sc.names,y.2=.free->y.1∈ks
 glb:∀ y∈G,sc.names.lookup y=some .globalImplicit
 nd:(xs++ks).Nodup
 dbg:∀ y∈xs++ks,(y == ("__debug__":Str))=false/\(y == ("__classdict__":Str))=false
 dbgG:∀ y∈G,(y == ("__debug__":Str))=false/\y≠"__name__"
def cxU (X:Cx) (xs ks:List Str) (sc:Scope) (C:Addr) (fp:List Addr) (s:Shared) (H:Hp) (W:Value->Shared->Prop):Cx :=
 { X with N:=xs++ks,s₀:=s,H₀:=H,env:={ newEnv sc C X.env.globals (zR X.env sc.names []) X.env.qual none .none (some X.env) X.env.builtins with scope:=relabel sc X.env },outer:=X.stack,stack:=X.stack,ex:=fp,fn:=fun _=>false,pn:=[],xe:=W }
theorem GZ (u:Un fs ex H H' h h1) (hC:h.objs.size<=C) (sb:Heap.SameBut C h1 h2):Un fs ex H H' h h2:=by
 have ne:∀ {b:Addr} {o:Obj},h.get? b=some o->b≠C:=fun {b o} e=>Nat.ne_of_lt (Nat.lt_of_lt_of_le (Heap.lt_size e) hC)
 refine ⟨fun b o e n hb hx=>(sb.2 b (ne e)).trans (u.keep b o e n hb hx),fun b o e n hb hx => ?_,u.free,fun b o e hx => ?_,u.tups,u.frzs,u.tbls⟩
 ·obtain ⟨sl,q⟩:=u.slot b o e n hb hx
  exact ⟨sl,(sb.2 b (ne e)).trans q⟩
 ·obtain ⟨o',q⟩:=u.there b o e hx
  exact ⟨o',(sb.2 b (ne e)).trans q⟩
theorem FC (hok:HOk P w H h1) (hC:H C=none) (sb:Heap.SameBut C h1 h2):HOk P w H h2:=fun b u e =>
 (hok b u e).stay (fun c o hc q=>(sb.2 c (fun z=>by
  subst z
  rcases hc with rfl | hc
  ·rw [hC] at e;cases e
  ·rw [hC] at hc;cases hc)).trans q) (fun _ q=>q) fun _ _ q=>q
def NB (prog:Program) (w:World) (A:Around) (env:Env) (R:Result->Shared->Prop):Value->Shared->Prop:=notedBy ↥22 A env fun x s'=>R (.error x) s'
theorem yB {prog:Program} {w:World} {A:Around} {R:Result->Shared->Prop} {s:Shared} {elt target iter:Expr} {ifs:List Expr} {scope:Scope} {pos:Pos} {it acc:Value} {env:Env} (J:Nat->Shared->Prop)
  (turn:∀ n s,J n s->wpAny ↥22 A (pyNext it) (fun r s1=>match r with
   | none=>R (.ok .next) s1
   | some v=>wpAny ↥22 A (letOwnedTupleGo target it v) (fun _ s2=>wpAny ↥22 A (assign target env v) (fun _ s3 =>
     wpAny ↥22 A (forIn ifs true fun c r=>if r=true then do let ok<-isTrue c env (eval c env);pure (ForInStep.yield ok) else pure (ForInStep.yield r)) (fun ok s4 =>
      if ok=true then wpAny ↥22 A (eval elt env) (fun x s5=>wpAny ↥22 A (PySem.call (.builtin "list.append") [acc,x]) (fun _ s6=>∃ m,m<n/\J m s6) (NB prog w A env R) s5) (NB prog w A env R) s4
      else ∃ m,m<n/\J m s4) (NB prog w A env R) s3) (NB prog w A env R) s2) (NB prog w A env R) s1) (NB prog w A env R) s)
  (n:Nat) (h:J n s):codeAny ↥22 A (.compLoop (.ListComp elt [⟨target,iter,ifs,0⟩] scope pos) 0 it acc env) R s:=by
 refine codeAny_loop rfl J (fun n s hJ => ?_) n h
 show wpAny _ _ ((compTurn (.ListComp elt [⟨target,iter,ifs,0⟩] scope pos) 0 it acc env).onRaise fun x=>do
  noteFrame x env
  theTreesLotGoes x) _ _ s
 refine wpAny_noted ?_
 rw [compTurn_list]
 refine wpAny_bind (wpAny_standAt (wpAny_bind (wpAny_mono (turn n s hJ) (fun r s1 h1 => ?_) fun _ _ z=>z)))
 cases r with
 | none=>exact wpAny_pure h1
 | some v =>
  refine wpAny_bind (wpAny_mono h1 (fun _ s2 h2 => ?_) fun _ _ z=>z)
  refine wpAny_bind (wpAny_mono h2 (fun _ s3 h3 => ?_) fun _ _ z=>z)
  refine wpAny_bind (wpAny_mono h3 (fun ok s4 h4 => ?_) fun _ _ z=>z)
  cases ok with
  | true =>
   rw [if_pos rfl] at h4
   simp only [if_true]
   refine wpAny_bind (wpAny_bind (wpAny_mono h4 (fun x s5 h5 => ?_) fun _ _ z=>z))
   exact wpAny_bind (wpAny_mono h5 (fun _ s6 h6=>wpAny_pure (wpAny_pure ⟨rfl,h6⟩)) fun _ _ z=>z)
  | false =>
   rw [if_neg Bool.false_ne_true] at h4
   simp only [Bool.false_eq_true,if_false]
   first
    | exact wpAny_pure ⟨rfl,h4⟩
    | exact wpAny_bind (wpAny_pure (wpAny_pure ⟨rfl,h4⟩))
def dS (M:Model) (A:Around) (E:Value->Shared->Prop) (use:Option (Value->Sem Unit)) (Q:Value->Shared->Prop) (acc:Value) (C:Addr) (fr:Option Addr) (r:Result) (s':Shared):Prop :=
 match r,use with
 | .ok _,none=>∃ m,s'.heap.Ns C m/\∀ h',Heap.SameBut C s'.heap h'->Q acc { s' with heap:=h' }
 | .ok _,some u=>wpAny M A (u acc) (fun _ s''=>∃ m,s''.heap.Ns C m/\∀ h',Heap.SameBut C s''.heap h'->Q .none { s'' with heap:=h' }) E s'
 | .error x,_=>∃ m,s'.heap.Ns C m/\∀ h',Heap.SameBut C s'.heap h'->∀ cenv:Env,cenv.frame=fr->wpAny M A (passOn "comprehension.variables-let-go" x cenv:Sem Value) (fun _ _=>False) E { s' with heap:=h' }
theorem l4 {M:Model} {A:Around} {E:Value->Shared->Prop} {s:Shared} {env:Env} {e:Expr} {scope:Scope} {pos:Pos} {newAcc first:Sem Value} {g:Comprehension} {gs:List Comprehension} {cl:List (Str×Addr)} {use:Option (Value->Sem Unit)}
  {Q:Value->Shared->Prop}
  (hcl:clausesOf e=g::gs) (hs:∀ x,foldedSetIterable g.iter env x=pure x) (hclos:closureFor scope env=pure cl)
  (hkind:scope.kind=.function) (hnames:∀ x∈scope.names,x.2=.local->scope.names.lookup x.1=some .local)
  (h:wpAny M A first (fun x s₁=>wpAny M A (pyIter x) (fun it s₂=>wpAny M A newAcc (fun acc s₃ =>
   wpAny M A (newFunctionEnv scope env.globals cl [] env.qual none .none (some env)) (fun cenv s₄=>cenv.frame=env.frame /\
    codeAny M A (.compStart e 0 it acc { cenv with scope:=relabel scope env }) (dS M A E use Q acc cenv.locals env.frame) s₄) E s₃) E s₂) E s₁) E s) :
  wpAny M A (comprehension e scope env pos newAcc false first use) Q E s:=by
 unfold comprehension
 rw [hclos,hcl]
 refine wpAny_bind (wpAny_mono h (fun x s₁ h₁=>wpAny_bind (wpAny_standAt (wpAny_bind (wpAny_of_eq (hs x) (wpAny_bind (wpAny_holding (wpAny_mono h₁ (fun it s₂ h₂ =>
  wpAny_standIf (wpAny_bind (wpAny_mono h₂ (fun acc s₃ h₃=>wpAny_bind (wpAny_pure (wpAny_bind (wpAny_mono h₃ (fun cenv s₄ h₄ => ?_) fun _ _ h'=>h')))) fun _ _ h'=>h')))
   fun _ _ h'=>h'))))))) fun _ _ h'=>h')
 obtain ⟨hfr,h₄⟩:=h₄
 dsimp only
 have hv:∀ x∈(scope.names.filter fun x=>(x.2 == .local||x.2 == .cell)&&x.1 != (".0":Str)).reverse,x.2=.local ->
   Env.kindOf { cenv with scope:=relabel scope env } x.1=some .local:=fun x hx hl=>lookup_relabel_local (hnames x (List.mem_filter.mp (List.mem_reverse.mp hx)).1 hl)
 have hv':∀ x∈(scope.names.filter fun x=>(x.2 == .local||x.2 == .cell)&&x.1 != (".0":Str)).reverse.drop 1++(scope.names.filter fun x=>(x.2 == .local||x.2 == .cell)&&x.1 != (".0":Str)).reverse.take 1,
   x.2=.local->Env.kindOf { cenv with scope:=relabel scope env } x.1=some .local:=fun x hx hl=>by
  rcases List.mem_append.mp hx with h1 | h1
  ·exact hv x (List.mem_of_mem_drop h1) hl
  ·exact hv x (List.mem_of_mem_take h1) hl
 refine wpAny_holding (wpAny_bind (wpAny_attempt (wpAny_holding (wpAny_run (codeAny_mono h₄ fun r s' hr => ?_)))))
 cases r with
 | ok f =>
  cases use with
  | none =>
   obtain ⟨m,hn,hr⟩:=hr
   exact wpAny_bind (wpAny_holding (wpAny_comp_letGo (cenv:={ cenv with scope:=relabel scope env }) hkind _ s' m hv hn fun h' m' _ hs'=>wpAny_pure (hr h' hs')))
  | some u =>
   refine wpAny_bind (wpAny_rule (wpAny_bind (wpAny_holding (wpAny_mono hr (fun _ s'' hr' => ?_) fun _ _ h'=>h'))))
   obtain ⟨m,hn,hr'⟩:=hr'
   exact wpAny_bind (wpAny_comp_letGo (cenv:={ cenv with scope:=relabel scope env }) hkind _ s'' m hv' hn fun h' m' _ hs'=>wpAny_pure (hr' h' hs'))
 | error x =>
  have hr':∃ m,s'.heap.Ns cenv.locals m/\∀ h',Heap.SameBut cenv.locals s'.heap h'->∀ cenv':Env,cenv'.frame=env.frame->wpAny M A (passOn "comprehension.variables-let-go" x cenv':Sem Value) (fun _ _=>False) E { s' with heap:=h' }:=by cases use<;>exact hr
  obtain ⟨m,hn,hr⟩:=hr'
  exact wpAny_bind (wpAny_holding (wpAny_comp_letGo (cenv:={ cenv with scope:=relabel scope env }) hkind _ s' m hv hn fun h' m' _ hs'=>wpAny_mono (hr h' hs' _ hfr) (fun _ _ f=>f.elim) fun _ _ y=>y))
theorem xw {st:D->R (Option D)} {l:List D} {d:D} {r1:List D} {o:Option D} (h1:runC st l=.ok r1) (h2:st d=.ok o):runC st (l++[d])=.ok (r1++o.toList):=by
 induction l generalizing r1 with
 | nil =>
  cases h1
  rw [List.nil_append]
  unfold runC
  rw [h2]
  cases o<;>rfl
 | cons x l ih =>
  rw [List.cons_append]
  unfold runC at h1 ⊢
  cases q:st x with
  | ok o' =>
   rw [q] at h1
   simp only [R.bind] at h1 ⊢
   cases q2:runC st l with
   | ok r =>
    rw [q2] at h1
    rw [ih q2]
    cases o'<;>(cases h1;rfl)
   | ex C=>rw [q2] at h1;cases h1
   | bad=>rw [q2] at h1;cases h1
  | ex C=>rw [q] at h1;cases h1
  | bad=>rw [q] at h1;cases h1
theorem kP (h:mC r=.ex C):False:=by cases r<;>cases h
theorem yk (h:mC r=.ok a):r=.ok a:=by
 cases r with
 | ok x=>exact h
 | ex C=>cases h
 | bad=>cases h
theorem rX {st:D->R (Option D)} {d:D} {l2:List D}:∀ {l1 r1:List D},runC st l1=.ok r1->(st d=.bad->runC st (l1++d::l2)=.bad)/\∀ C,st d=.ex C->runC st (l1++d::l2)=.ex C
 | [],_,_=>⟨fun e=>by rw [List.nil_append];unfold runC;rw [e];rfl,fun C e=>by rw [List.nil_append];unfold runC;rw [e];rfl⟩
 | a::l1,r1,h=>by
  unfold runC at h
  cases q:st a with
  | ok o =>
   rw [q] at h
   simp only [R.bind] at h
   cases q2:runC st l1 with
   | ok r =>
    obtain ⟨i1,i2⟩:=rX (d:=d) (l2:=l2) q2
    refine ⟨fun e => ?_,fun C e => ?_⟩
    ·rw [List.cons_append];unfold runC;rw [q,i1 e];rfl
    ·rw [List.cons_append];unfold runC;rw [q,i2 C e];rfl
   | ex C=>rw [q2] at h;cases h
   | bad=>rw [q2] at h;cases h
  | ex C=>rw [q] at h;cases h
  | bad=>rw [q] at h;cases h
theorem nh:∀ {a:List D} {r:D},D.flats a=true->D.flat r=true->D.flats (a++[r])=true
 | [],r,_,h=>by show (D.flat r&&D.flats [])=true;rw [h];rfl
 | x::a,r,h,hr=>by
  have h':D.flat x=true/\D.flats a=true:=by simpa [D.flats] using h
  show (D.flat x&&D.flats (a++[r]))=true
  rw [h'.1,nh h'.2 hr]
  rfl
def stG (pt:D->Option (List D)) (c elt:E) (ks:List Nat) (δ:Dt) (d:D):R (Option D):=match pt d with
 | some xs=>(mC (c (xs.map some++ks.map fun k=>δ.getD k none))).bind fun b=>truth b ((elt (xs.map some++ks.map fun k=>δ.getD k none)).bind fun r=>if D.flat r=true then .ok (some r) else .bad) (.ok none)
 | none=>.bad
theorem Ed (h:EV.R.bad≠stG pt c elt ks δ d):∃ xs k,pt d=some xs/\c (xs.map some++ks.map fun k=>δ.getD k none)=.ok (.bl k) /\
  ((k=true/\stG pt c elt ks δ d=(elt (xs.map some++ks.map fun k=>δ.getD k none)).bind fun r=>if D.flat r=true then .ok (some r) else .bad)\/(k=false/\stG pt c elt ks δ d=.ok none)):=by
 unfold stG at h ⊢
 cases e:pt d with
 | none=>rw [e] at h;exact absurd rfl h
 | some xs =>
  rw [e] at h
  simp only at h ⊢
  cases q:mC (c (xs.map some++ks.map fun k=>δ.getD k none)) with
  | ok b =>
   have q':=yk q
   rw [q] at h
   simp only [R.bind] at h ⊢
   cases b with
   | bl k =>
    refine ⟨xs,k,rfl,q',?_⟩
    cases k with
    | true=>exact .inl ⟨rfl,rfl⟩
    | false=>exact .inr ⟨rfl,rfl⟩
   | _=>exact absurd rfl h
  | ex C=>exact (kP q).elim
  | bad=>rw [q] at h;exact absurd rfl h
def Put (σ:L2.St) (vs:List V) (σ':L2.St):Prop:=σ'.length=σ.length/\(∀ (j:Nat) (v:V),vs[j]? = some v->σ'[j]? = some (some v))/\∀ j:Nat,vs.length<=j->σ'[j]? = σ[j]?
structure Tgt (X:Cx) (n:Nat) (pt:D->Option (List D)) (gT:TG):Prop where
 len:∀ d xs,pt d=some xs->xs.length=n
 put:∀ {d:D} {xs:List D} {v:V} {σ:L2.St} {H:Hp} {Q:L2.St->Hp->Prop},pt d=some xs->Rep X.K X.mg H v d->n<=σ.length->(∀ vs σ',Reps X.K X.mg H vs xs->Put σ vs σ'->Q σ' H)->gT v σ H Q
inductive Tst (X':Cx):List Expr->E->Prop
 | nil:Tst X' [] (con ↥36)
 | one {c:Expr} {g:E}:ST X' c g->Tst X' [c] g
theorem DG {X':Cx} {ifs:List Expr} {g:E} (h:Tst X' ifs g) {pins:List ↥12} {s:Shared} {σ:L2.St} {H:Hp} {δ:Dt} {k:Bool} (I:Inv X' pins σ H s) (hσ:Stt X'.K X'.mg H σ δ) (hg:g δ=.ok (.bl k)) {E:Value->Shared->Prop} (hE:∀ e s,X'.xe e s->E e s) :
  wpAny (model X'.prog X'.w) X'.A (forIn ifs true fun c r=>if r=true then do let ok<-isTrue c X'.env (eval c X'.env);pure (ForInStep.yield ok) else pure (ForInStep.yield r)) (fun ok s'=>ok=k/\∃ H',Inv X' pins σ H' s'/\aC H H') E s:=by
 cases h with
 | nil=>cases hg;exact wpAny_tests_nil ⟨rfl,H,I,aC.refl _⟩
 | one h =>
  refine wpAny_mono (wpAny_tests_one (E:=X'.xe) (thn (h pins s σ H (fun b H'=>b=k/\aC H H') I ⟨δ,hσ,?_⟩) fun b s' ⟨H',I',e,sm⟩=>⟨e,H',I',sm⟩)) (fun _ _ x=>x) hE
  rw [hg]
  exact fun H' sm=>⟨rfl,sm⟩
theorem JA {base h h':Heap}:∀ {l:List Env},h.FunFrames base l->(∀ b∈frs l,h'.get? b=h.get? b)->h'.FunFrames base l
 | [],_,_=>trivial
 | env::r,⟨hk,⟨L,o,hf,hn,ho,hd⟩,hr⟩,k=>by
  have e:frs (env::r)=L::frs r:=by unfold frs;rw [List.filterMap_cons,hf]
  rw [e] at k
  exact ⟨hk,⟨L,o,hf,hn,(k L (.head _)).trans ho,hd⟩,JA hr fun b hb=>k b (.tail _ hb)⟩
theorem BV {X:Cx} (O:Own X) {xs ksn:List Str} {sc:Scope} {fp:List Addr} {WW:Value->Shared->Prop} {pins pins':List ↥12} {σ σ6:L2.St} {H3 Hx H':Hp} {s3 sx s':Shared} {ea Ca:Addr} {use:Option (Value->Sem Unit)} {Qf:Value->Shared->Prop} {acc:Value} {cenv:Env}
  (I3:Inv X pins σ H3 s3) (f3:∀ b∈fp,wm X pins H3 b) (hcf:cenv.frame=X.env.frame) (Ix:Inv ↥14 pins' σ6 Hx sx) (FX:FlyX X.prog X.w X.stack Hx sx Ca H' ea s')
  (kx:∀ b u,H3 b=some u->∃ u',H' b=some u') (hx:∀ ea s',HeldX X pins σ Ca H' ea s'->X.xe (.ref ea) s') :
  NB X.prog X.w X.A cenv (dS ↥7 X.A X.xe use Qf acc s3.heap.objs.size X.env.frame) (.ref ea) s':=by
 have en:noteFrame (.ref ea) cenv=noteFrame (.ref ea) X.env:=by unfold noteFrame PySem.frameOf;rw [hcf]
 unfold NB notedBy
 rw [en]
 obtain ⟨a0,B,hfl,i1,i2⟩:=FX.fly
 have Iy:Inv ↥14 pins' σ6 H' s':=yS Ix FX
 have ff:=vV hfl.2.2.1
 rw [O.stk] at hfl
 refine wpAny_looks_onW (by rw [I3.ok.frames,O.stk]) O.frm hfl fun h4 held up => ?_
 have IX:Inv X pins σ Hx sx:=I3.call' (s':=sx) (ch:=fp) Ix.os Ix.base Ix.hok Ix.bare fun b hb=>⟨(f3 b hb).2.2.2.1,(f3 b hb).2.1,(f3 b hb).2.2.2.2.1,(f3 b hb).2.2.2.2.2⟩
 obtain ⟨m,⟨oC,es,ep,hoC,rC⟩,_⟩:=Ix.loc
 have hoC:sx.heap.get? s3.heap.objs.size=some oC:=hoC
 have nfr:s3.heap.objs.size∉frs X.stack:=fun z=>by
  rw [O.frs] at z
  rcases List.mem_cons.mp z with q | q
  ·exact absurd I3.lt (by rw [<- q];exact Nat.lt_irrefl _)
  ·exact I3.nofs ↥37 q
 have hBC:B.get? s3.heap.objs.size=some oC:=i1 _ _ hoC Ix.free nfr
 have h4C:h4.get? s3.heap.objs.size=some oC:=held.1 _ _ hBC
 refine ⟨m,⟨oC,es,ep,h4C,rC⟩,fun h5 sb5 cenv' hcf' => ?_⟩
 have kB:(PySem.W.hideAll B [s3.heap.objs.size]).StaysIn B:=fun b o e=>PySem.W.of_hideAll _ e
 have held':=PySem.W.heldW_base kB held
 have st4:∀ b o,(PySem.W.hideAll B [s3.heap.objs.size]).get? b=some o->b≠s3.heap.objs.size:=fun b o e z=>by
  rw [z,PySem.W.hideAll_none _ (by simp)] at e
  cases e
 obtain ⟨_,hne,hff,oe,vs,T,oT,ts,he,hcls,hd,h1,hnT,hTe,hT,hdT,h3⟩:=held
 have neC:∀ b,B.get? b=none->b≠s3.heap.objs.size:=fun b e z=>by rw [z,hBC] at e;cases e
 have he5:h5.get? ea=some oe:=(sb5.2 _ (neC _ hne)).trans he
 have hT5:h5.get? T=some oT:=(sb5.2 _ (neC _ hnT)).trans hT
 have hsz3:3<ts.size:=(Array.getElem?_eq_some_iff.mp h3).1
 unfold PySem.passOn
 refine wpAny_bind (wpAny_field he5 hd h1 ?_)
 rw [if_neg (by simp)]
 show wpAny _ _ (setFlight (.ref ea) cenv'.frame >>= _) _ _ _
 refine wpAny_bind ?_
 unfold setFlight
 refine wpAny_bind (wpAny_field he5 hd h1 ?_)
 rw [if_pos (show (Value.ref T != Value.none)=true from by simp),hcf',O.frm]
 refine wpAny_setField hT5 hdT hsz3 ?_
 refine wpAny_throw (hx ea _ ?_)
 have other:∀ b,b≠T->(h5.update T (Obj.mapFields (·.setIfInBounds 3 ((some X.env.locals).elim Value.none fun f=>rawInt f)))).get? b=h5.get? b:=fun b hb=>Heap.get?_update_other _ _ (Ne.symm hb)
 have hT6:=Heap.get?_update_self (Obj.mapFields (·.setIfInBounds 3 ((some X.env.locals).elim Value.none fun f=>rawInt f))) hT5 (Obj.isFreed_of_fields (Obj.data_mapFields hdT _))
 generalize h5.update T (Obj.mapFields (·.setIfInBounds 3 ((some X.env.locals).elim Value.none fun f=>rawInt f)))=h6 at other hT6 ⊢
 have k46:∀ b,b≠T->b≠s3.heap.objs.size->h6.get? b=h4.get? b:=fun b q1 q2=>(other b q1).trans (sb5.2 b q2)
 have st6:(PySem.W.hideAll B [s3.heap.objs.size]).StaysIn h6:=fun b o e=>by
  rw [k46 b (fun z=>by rw [z] at e;have:=kB _ _ e;rw [hnT] at this;cases this) (st4 b o e)]
  exact held'.1 b o e
 have i2':∀ b u o,H' b=some u->s'.heap.get? b=some o->(PySem.W.hideAll B [s3.heap.objs.size]).get? b=some o:=fun b u o e q=>PySem.W.hideAll_get _ (i2 b u o e q) fun z=>by
  have z':b=s3.heap.objs.size:=by simpa using z
  rw [z'] at e
  have:H' s3.heap.objs.size=none:=Iy.free
  rw [this] at e
  cases e
 have i1':∀ b o,s3.heap.get? b=some o->H3 b=none->b∉frs X.stack->b∉fp->(PySem.W.hideAll B [s3.heap.objs.size]).get? b=some o:=fun b o e n hb hp=>PySem.W.hideAll_get _ (i1 b o (Ix.base.keep b o e n hb hp) (Ix.base.free b o e n hp) hb) fun z=>by
  have z':b=s3.heap.objs.size:=by simpa using z
  exact absurd (Heap.lt_size e) (by rw [z'];exact Nat.lt_irrefl _)
 have u6:Un (frs X.stack) fp H3 H' s3.heap h6:=by
  have u:=Iy.base
  have slot:∀ b o,s3.heap.get? b=some o->H3 b=none->b∈frs X.stack->b∉fp->∃ sl,h6.get? b=some { o with slots:=sl }:=fun b o e n hb hp=>by
   obtain ⟨sl,e1⟩:=u.slot b o e n hb hp
   obtain ⟨sl2,e2⟩:=up b _ e1 (ff b hb _ e1)
   refine ⟨sl2,?_⟩
   rw [k46 b (fun z => ?_) (fun z=>nfr (z▸hb))]
   ·exact e2
   ·have:=vV hff b (by rw [<- O.stk];exact hb) oT (by rw [z];exact hT) ts
    exact this hdT
  refine ⟨fun b o e n hb hp=>st6 b o (i1' b o e n hb hp),slot,u.free,fun b o e hp => ?_,u.tups,u.frzs,u.tbls⟩
  cases n:H3 b with
  | none =>
   by_cases hb:b∈frs X.stack
   ·obtain ⟨sl,e2⟩:=slot b o e n hb hp
    exact ⟨_,e2⟩
   ·exact ⟨o,st6 b o (i1' b o e n hb hp)⟩
  | some x =>
   obtain ⟨o',e1⟩:=u.there b o e hp
   obtain ⟨x',n'⟩:=kx b x n
   exact ⟨o',st6 b o' (i2' b x' o' n' e1)⟩
 refine ⟨I3.call' (s':={ s' with heap:=h6 }) (ch:=fp) Iy.os u6 (oW Iy.hok i2' st6) Iy.bare fun b hb=>⟨(f3 b hb).2.2.2.1,(f3 b hb).2.1,(f3 b hb).2.2.2.2.1,(f3 b hb).2.2.2.2.2⟩,?_,a0,PySem.W.hideAll B [s3.heap.objs.size],?_,fun b o e n hb => ?_,ur Iy.hok i2' st6⟩
 ·exact ym IX O FX.new
 ·rw [O.stk]
  have nT:∀ b∈frs (X.env::X.outer),h6.get? b=h4.get? b:=fun b hb=>k46 b (fun z=>vV hff b hb oT (by rw [z];exact hT) ts hdT) (fun z=>nfr (by rw [O.stk];exact z▸hb))
  exact ⟨st6,held'.2.1,JA held'.2.2.1 nT,oe,vs,T,_,_,(k46 ea (Ne.symm hTe) (neC _ hne)).trans he,hcls,hd,h1,PySem.W.fresh_of_stays kB hnT,hTe,hT6,Obj.data_mapFields hdT _,by simp [hsz3]⟩
 ·exact PySem.W.hideAll_get _ (jl IX O i1 b o e n hb) fun z=>by
   have z':b=s3.heap.objs.size:=by simpa using z
   exact absurd (Nat.lt_of_lt_of_le (Heap.lt_size e) I3.sz) (by rw [z'];exact Nat.lt_irrefl _)
section
variable {X:Cx}
set_option maxHeartbeats 2000000 in
theorem qB (hc:X.calm=true) {N:List Str} (S:Sc X N) {xs ksn G:List Str} {ks:List Nat} {tg elt iter:Expr} {ifs:List Expr} {pos ps:Pos} {sc:Scope} {git:IT} {gc ge:E} {pt:EV.D->Option (List EV.D)} {gT:TG} (SC:ScU xs ksn G sc)
  (hks:ks.map (fun k=>N.getD k "")=ksn) (hlt:∀ k∈ks,k<N.length) (hcell:∀ y∈ksn,X.env.scope.names.lookup y=some .cell)
  (he:SI X tg iter git) (TT:Tgt X xs.length pt gT)
  (htg:∀ C fp s H W,Sc ↥8 (xs++ksn)->↥39->PG ↥8 tg gT)
  (htst:∀ C fp s H W,Sc ↥8 (xs++ksn)->(∀ y∈G,Gb ↥8 y)->Tst ↥8 ifs gc)
  (helt:∀ C fp s H W,Sc ↥8 (xs++ksn)->(∀ y∈G,Gb ↥8 y)->SE ↥8 elt ge)
  (hs:∀ z,foldedSetIterable iter X.env z=pure z) {use:Option (Value->Sem Unit)} {Qf:Value->Shared->Prop}
  {pins:List ↥12} {s:Shared} {σ:L2.St} {H:Hp} {δ:Dt} (I:Inv X pins σ H s) (hσ:Stt X.K X.mg H σ δ)
  (hgit:∀ C,git δ=.ex C->∀ Ca,X.mg C=some (.ref Ca)->∀ H',aC H H'->ew X Ca σ H')
  {ds:List EV.D} (hds:git δ ≠ .bad) (hds':∀ ds',git δ=.ok ds'->ds'=ds/\ds.length<=100000/\runC (stG pt gc ge ks δ) ds ≠ .bad/\∀ rs,runC (stG pt gc ge ks δ) ds=.ok rs->EV.D.flats rs=true)
  (hex:∀ C Ca,runC (stG pt gc ge ks δ) ds=.ex C->X.mg C=some (.ref Ca)->∀ H',aC H H'->∀ ea s',HeldX X pins σ Ca H' ea s'->X.xe (.ref ea) s') (hO:(∃ C,runC (stG pt gc ge ks δ) ds=.ex C)->Own X)
  (hfin:∀ (s1:Shared) (Hc:Hp) (D C:Addr) (ys:List V) (rs:List EV.D),git δ=.ok ds->runC (stG pt gc ge ks δ) ds=.ok rs->EV.D.flats rs=true->H D=none->Hc D=some (.lst ys)->Reps X.K X.mg Hc ys rs->aC H Hc ->
   wm X pins Hc C->Inv X pins σ Hc s1->(∃ m,s1.heap.Ns C m)->(∀ h',Heap.SameBut C s1.heap h'->Inv X pins σ Hc { s1 with heap:=h' })->dS ↥7 X.A X.xe use Qf (.ref D) C X.env.frame (.ok .next) s1) :
  wpAny ↥7 X.A (comprehension ↥35 sc X.env ps (newList []) false (eval iter X.env) use) Qf X.xe s:=by
 have lenks:ksn.length=ks.length:=by rw [<- hks,List.length_map]
 have atk:∀ (j:Nat) (y:Str),ksn[j]? = some y->∃ k,ks[j]? = some k/\N[k]? = some y:=fun j y e=>by
  rw [<- hks,List.getElem?_map] at e
  cases q:ks[j]? with
  | none=>rw [q] at e;cases e
  | some k =>
   rw [q] at e
   have e':N.getD k ""=y:=Option.some.inj e
   have hk:=hlt k (List.mem_of_getElem? q)
   exact ⟨k,rfl,by rw [<- e',List.getD_eq_getElem?_getD,List.getElem?_eq_getElem hk];rfl⟩
 have frec:∀ y,(y,NameKind.free)∈sc.names->∃ c,X.env.cells.lookup y=some c:=fun y hy=>I.ok.has y (.inl (hcell y (SC.all _ hy rfl)))
 refine l4 (use:=use) rfl hs (vY frec) SC.kind SC.nms ?_
 have sub:∀ y c,(zR X.env sc.names []).lookup y=some c->X.env.cells.lookup y=some c:=CM frec fun y c e=>nomatch e
 have hq:RI X σ H (git δ) (fun J H'=>aC H H'/\∃ ds,git δ=.ok ds/\zB X J H' ds):=by
  cases r:git δ with
  | ok ds=>exact fun J H' s w=>⟨s,ds,rfl,w⟩
  | ex C=>exact hgit C r
  | bad=>exact absurd r hds
 refine thn (he pins s σ H _ I ⟨δ,hσ,hq⟩) fun v s1 h1=>thn h1 fun itv s2 h2 => ?_
 obtain ⟨it,fp,tn,J,H2,e,I2,T,st2,f2,sm2,ds',eds,wk⟩:=h2
 subst e
 obtain ⟨eq0,hz,nbad,hfl⟩:=hds' ds' eds
 rw [eq0] at eds wk
 have hσ2:Stt X.K X.mg H2 σ δ:=hσ.mono sm2
 refine wpAny_newList ?_ (Nat.zero_le _)
 have I3:Inv X pins σ (upd H2 s2.heap.objs.size (.lst [])) { s2 with heap:=s2.heap.push { cls:=.type "list",data:=.seq ([]:List Value).toArray } }:=I2.lnew (t':=s2.toks) .nil (Nat.zero_le _)
 have hnew:H2 s2.heap.objs.size=none:=I2.fresh
 have sm3:aC H2 (upd H2 s2.heap.objs.size (.lst [])):=bP hnew _
 generalize hD:s2.heap.objs.size=D at *
 generalize hH3:upd H2 D (.lst [])=H3 at *
 have hD3:H3 D=some (.lst []):=by rw [<- hH3];exact bO
 have keep3:∀ b o,s2.heap.get? b=some o->(s2.heap.push { cls:=.type "list",data:=.seq ([]:List Value).toArray }).get? b=some o:=fun b o q=>Heap.get?_push_of_some _ q
 have st3:tn 0 (s2.heap.push { cls:=.type "list",data:=.seq ([]:List Value).toArray }):=T.keep 0 _ _ st2 fun b _ o q=>keep3 b o q
 have ne3:∀ b∈fp,b≠D:=fun b hb z=>by
  obtain ⟨o,e,_⟩:=T.obj 0 _ st2 b hb
  exact absurd (Heap.lt_size e) (by rw [z,<-hD];exact Nat.lt_irrefl _)
 have f3:∀ b∈fp,wm X pins H3 b:=fun b hb=>⟨by rw [<- hH3,bB (ne3 b hb)];exact (f2 b hb).1,(f2 b hb).2⟩
 generalize hs3:({ s2 with heap:=s2.heap.push { cls:=.type "list",data:=.seq ([]:List Value).toArray } }:Shared)=s3 at *
 have st3':tn 0 s3.heap:=by rw [<- hs3];exact st3
 refine wpAny_newFunctionEnv SC.noc (fun y z=>nomatch z) (fun h4 ns4 sb4=>⟨rfl,?_⟩) SC.kind
 generalize hWW:NB X.prog X.w X.A (cxU X xs ksn sc s3.heap.objs.size fp s3 H3 (fun _ _=>False)).env (dS ↥7 X.A X.xe use Qf (.ref D) s3.heap.objs.size X.env.frame)=WW
 have kp4:∀ b o,s3.heap.get? b=some o->h4.get? b=some o:=fun b o q=>by
  rw [sb4.2 b (Nat.ne_of_lt (Heap.lt_size q))]
  exact Heap.get?_push_of_some _ q
 have nst:∀ b∈fp,b∉frs X.stack:=fun b hb z=>by
  rcases List.mem_cons.mp (I3.stkSub b z) with q | q
  ·exact (f3 b hb).2.1 q
  ·exact (f3 b hb).2.2.1 q
 have neC:∀ b∈fp,b≠s3.heap.objs.size:=fun b hb=>by
  obtain ⟨ob,e,_⟩:=T.obj 0 _ st3' b hb
  exact Nat.ne_of_lt (Heap.lt_size e)
 have fpcl:∀ b∈fp,∀ y c,(zR X.env sc.names []).lookup y=some c->c≠b:=fun b hb y c e=>(f3 b hb).2.2.2.2.1 y c (sub y c e)
 have ok4:(cxU X xs ksn sc s3.heap.objs.size fp s3 H3 WW).Ok:=by
  have o:=I3.ok
  refine ⟨o.mod,SC.kind,o.glob,o.blt,Nat.le_refl _,fun y z c e1 e2=>o.inj y z c (sub y c e1) (sub z c e2),fun y hy => ?_,fun y c z e=>absurd z Bool.false_ne_true,o.hd,o.frames,.inl rfl,fun b hb=>⟨neC b hb,fpcl b hb⟩,I3.bs,Nat.le_trans o.bsz I3.sz,fun b ob e hb => ?_,fun b hb=>nst b hb,I3.stack,I3.stkFree⟩
  ·have hy:(relabel sc X.env).names.lookup y=some .cell\/(relabel sc X.env).names.lookup y=some .free:=hy
   have hf:sc.names.lookup y=some .free:=by
    rcases hy with hy | hy
    ·rcases mV hy with q | ⟨q,_⟩
     ·exact absurd rfl (SC.noc _ (PySem.mem_of_lookup q))
     ·exact q
    ·rcases mV hy with q | ⟨_,q⟩
     ·exact q
     ·cases q
   exact zd (.inl (PySem.mem_of_lookup hf))
  ·rcases (f3 b hb).2.2.2.1 with q | q
   ·exact o.noex b ob e q
   ·exact absurd (Heap.lt_size (o.bs b ob e).1) (Nat.not_lt.mpr q)
 have fun4:X.env.scope.kind=.function:=I3.ok.kind
 have S4:Sc ↥14 (xs++ksn):=by
  refine ⟨rfl,SC.nd,fun y hy => ?_,SC.dbg⟩
  rcases List.mem_append.mp hy with z | z
  ·exact .inl (gj ↥1 (SC.loc y z))
  ·exact .inr (.inl (jW fun4 (hcell y z) (SC.fre y z)))
 have G4:∀ y∈G,Gb ↥14 y:=fun y hy=>⟨gj ↥1 (SC.glb y hy),(SC.dbgG y hy).1,(SC.dbgG y hy).2⟩
 have E4:=helt s3.heap.objs.size fp s3 H3 WW S4 G4
 have T4:=htst s3.heap.objs.size fp s3 H3 WW S4 G4
 have P4:=htg s3.heap.objs.size fp s3 H3 WW S4 fun y hy=>gj ↥1 (SC.loc y hy)
 have hCn:H3 s3.heap.objs.size=none:=I3.fresh
 have hσ3:Stt X.K X.mg H3 σ δ:=hσ2.mono sm3
 have lenσ3:σ.length=N.length:=by rw [I3.len,S.n]
 have I4:Inv ↥14 [] (List.replicate xs.length none++ks.map fun k=>σ.getD k none) H3 { s3 with heap:=h4,toks:=s3.toks+([]:List (Str×Value)).length }:=by
  refine ⟨ok4,rfl,I3.bare,Un.kept kp4,⟨_,ns4,fun j y v e1 e2 e3 => ?_⟩,fun y c e => ?_,hCn,fun y c e=>I3.freeC y c (sub y c e),fun p hp=>absurd (show p∈([]:List ↥12) from hp) (by simp),I3.hok.kept kp4,by show _=(xs++ksn).length;rw [List.length_append,List.length_append,List.length_replicate,List.length_map,lenks]⟩
  ·by_cases hj:j<xs.length
   ·rw [List.getElem?_append_left (by rw [List.length_replicate];exact hj),List.getElem?_replicate,if_pos hj] at e2
    cases e2
   ·have e1:(xs++ksn)[j]? = some y:=e1
    rw [List.getElem?_append_right ⋯] at e1
    rw [List.getElem?_append_right (by rw [List.length_replicate];omega),List.length_replicate] at e2
    generalize j - xs.length=j at e1 e2
    have e1':ksn[j]? = some y:=e1
    obtain ⟨k,ek,eN⟩:=atk j y e1'
    rw [List.getElem?_map,ek] at e2
    have e2':σ.getD k none=some v:=Option.some.inj e2
    have eσ:σ[k]? = some (some v):=by
     rw [List.getD_eq_getElem?_getD] at e2'
     cases q:σ[k]? with
     | none=>rw [q] at e2';cases e2'
     | some o=>rw [q] at e2';have:o=some v:=e2';rw [this]
    have hy:=List.mem_of_getElem? e1'
    have hyc:=hcell y hy
    obtain ⟨m',hn',hl'⟩:=I3.loc
    obtain ⟨u,ru,lu⟩:=hl' k y v (by rw [S.n];exact eN) eσ (.inr (.inl hyc))
    refine ⟨u,ru,?_⟩
    rcases lu with ⟨k1,_⟩ | ⟨_,c,hcc,ic⟩
    ·have:(some NameKind.local)=some .cell:=k1.symm.trans hyc
     cases this
    ·obtain ⟨c',hc'⟩:=zd (env:=X.env) (cs:=[]) (.inl (PySem.mem_of_lookup (SC.fre y hy)))
     have:c'=c:=by have:=sub y c' hc';rw [hcc] at this;exact (Option.some.inj this).symm
     subst this
     obtain ⟨oc,hoc,hd⟩:=ic
     exact .inr ⟨.inl (jW fun4 hyc (SC.fre y hy)),c',hc',oc,kp4 _ _ hoc,hd⟩
  ·obtain ⟨v,oc,hoc,hd⟩:=I3.cell y c (sub y c e)
   exact ⟨v,oc,kp4 _ _ hoc,hd⟩
 have fpc:∀ {Hc:Hp},(∀ b∈fp,Hc b=none)->∀ b∈fp,wm ↥14 [] Hc b:=fun {Hc} hn b hb =>
  ⟨hn b hb,neC b hb,nst b hb,.inl hb,fpcl b hb,fun p hp=>absurd (show p∈([]:List ↥12) from hp) (by simp)⟩
 have st4:tn 0 h4:=T.keep 0 _ _ st3' fun b _ o q=>kp4 b o q
 have kc2:∀ {Hc:Hp},(∀ b o,b≠D->H3 b=some o->Hc b=some o)->aC H2 Hc:=fun {Hc} kc b o e=>kc b o (fun z=>by rw [z,hnew] at e;cases e) (sm3 b o e)
 have R4:codeAny ↥7 X.A (.compLoop ↥35 0 (.ref it) (.ref D) (cxU X xs ksn sc s3.heap.objs.size fp s3 H3 WW).env)
   (dS ↥7 X.A X.xe use Qf (.ref D) s3.heap.objs.size X.env.frame)
   { s3 with heap:=h4,toks:=s3.toks+([]:List (Str×Value)).length }:=by
  refine yB (fun n s'=>∃ i σc Hc ys rsi,Inv ↥14 [] σc Hc s'/\tn i s'.heap/\(∀ b∈fp,Hc b=none)/\n=ds.length - i/\i<=ds.length/\Hc D=some (.lst ys)/\runC (stG pt gc ge ks δ) (ds.take i)=.ok rsi/\ys.length<=i/\Reps X.K X.mg Hc ys rsi/\(∀ b o,b≠D->H3 b=some o->Hc b=some o)/\σc.drop xs.length=(ks.map fun k=>σ.getD k none)/\EV.D.flats rsi=true) ?_ ds.length
   ⟨0,_,H3,[],[],I4,st4,fun b hb=>(f3 b hb).1,rfl,Nat.zero_le _,hD3,by rw [List.take_zero];rfl,Nat.zero_le _,.nil,fun _ _ _ q=>q,by rw [List.drop_append_of_le_length (by rw [List.length_replicate];exact Nat.le_refl _)];simp,rfl⟩
  have hW':NB X.prog X.w X.A (cxU X xs ksn sc s3.heap.objs.size fp s3 H3 WW).env (dS ↥7 X.A X.xe use Qf (.ref D) s3.heap.objs.size X.env.frame)=WW:=hWW
  rw [hW']
  rintro n s' ⟨i,σc,Hc,ys,rsi,Ic,st,fr,rfl,hi,hDc,ersi,hyl,hys,kc,tlσ,fl1⟩
  have smc:=kc2 kc
  have wkc:=wk Hc smc
  by_cases hlt':i<ds.length
  ·have hd:ds[i]? = some ds[i]:=List.getElem?_eq_getElem hlt'
   generalize ds[i]=d at hd
   have etk:ds=ds.take i++(d::ds.drop (i+1)):=by
    have:=List.take_append_drop i ds
    rw [jY hd] at this
    exact this.symm
   have nst':EV.R.bad≠stG pt gc ge ks δ d:=fun z=>nbad (by rw [etk];exact (rX ersi).1 z.symm)
   obtain ⟨xd,k,ept,ek,kcase⟩:=Ed nst'
   have ertk:∀ o,stG pt gc ge ks δ d=.ok o->runC (stG pt gc ge ks δ) (ds.take (i+1))=.ok (rsi++o.toList):=fun o eo=>by
    rw [List.take_add_one,hd]
    exact xw ersi eo
   have lxd:=TT.len d xd ept
   refine thn (T.item ↥14 rfl rfl rfl hc i [] s' σc Hc WW Ic (fpc fr) st (wkc.1 i d hd).1) fun r s1 ⟨u,hr,h4'⟩ => ?_
   subst hr
   refine thn h4' fun _ s5 ⟨v,H5,I5,r5,yl,st5,fr5⟩ => ?_
   obtain ⟨sm5,rd⟩:=(wkc.1 i d hd).2 v H5 yl
   have smc5:=smc.trans sm5
   have rd5:=rd H5 smc5 fun b o z _=>z
   have I5':=I5.pinned (fpc fr5) (T.obj _ _ st5)
   have pinf:∀ {σ7:L2.St} {H7:Hp} {s7:Shared},Inv ↥14 ([]++mW fp s5.heap) σ7 H7 s7->∀ b∈fp,∀ o,s5.heap.get? b=some o->s7.heap.get? b=some o/\H7 b=none:=fun {σ7 H7 s7} I7 b hb o q =>
    have z:=I7.pin (b,o) (List.mem_append_right _ (List.mem_append_right _ (dH hb q)))
    ⟨z.1,z.2.1⟩
   have lenσ:σc.length=xs.length+ks.length:=by
    have:=Ic.len
    rw [this]
    show (xs++ksn).length=_
    rw [List.length_append,lenks]
   refine thn (P4 _ s5 σc H5 v u (fun σ6 H6=>∃ vs,Reps X.K X.mg H5 vs xd/\Put σc vs σ6/\H6=H5) I5' r5 (TT.put ept rd5 ⋯ fun vs σ' rv pu=>⟨vs,rv,pu,rfl⟩)) fun _ s6 ⟨σ6,H6,I6,vs,rv,pu,e6'⟩ => ?_
   subst e6'
   have lvs:vs.length=xs.length:=by rw [rv.length,lxd]
   have hσ6:Stt X.K X.mg H6 σ6 (xd.map some++ks.map fun k=>δ.getD k none):=by
    refine ⟨by rw [pu.1,lenσ,List.length_append,List.length_map,List.length_map,lxd],fun j d' e nown => ?_⟩
    by_cases hj:j<xd.length
    ·rw [List.getElem?_append_left (by rw [List.length_map];exact hj),List.getElem?_map] at e
     cases q:xd[j]? with
     | none=>rw [q] at e;cases e
     | some d'' =>
      rw [q] at e
      cases e
      obtain ⟨v',e1,e2⟩:=rv.get q
      exact ⟨v',pu.2.1 j v' e1,e2⟩
    ·rw [List.getElem?_append_right (by rw [List.length_map];omega),List.length_map,List.getElem?_map] at e
     cases ek':ks[j - xd.length]? with
     | none=>rw [ek'] at e;cases e
     | some k =>
      rw [ek'] at e
      have e':δ.getD k none=some d':=Option.some.inj e
      have eδ:δ[k]? = some (some d'):=by
       rw [List.getD_eq_getElem?_getD] at e'
       cases q:δ[k]? with
       | none=>rw [q] at e';cases e'
       | some o=>rw [q] at e';have:o=some d':=e';rw [this]
      obtain ⟨w,ew',rw'⟩:=hσ2.2 k d' eδ nown
      refine ⟨w,?_,rw'.mono smc5⟩
      rw [pu.2.2 j ⋯]
      have ht:(σc.drop xs.length)[j - xd.length]? = some (some w):=by
       rw [tlσ,List.getElem?_map,ek']
       show some (σ.getD k none)=_
       rw [List.getD_eq_getElem?_getD,ew']
       rfl
      rw [List.getElem?_drop,show xs.length+(j - xd.length)=j by omega] at ht
      exact ht
   have tl6:σ6.drop xs.length=(ks.map fun k=>σ.getD k none):=by
    rw [<- tlσ]
    refine List.ext_getElem? fun j => ?_
    rw [List.getElem?_drop,List.getElem?_drop]
    exact pu.2.2 _ ⋯
   have hD5:H6 D=some (.lst ys):=sm5 _ _ hDc
   have kc5:∀ b o,b≠D->H3 b=some o->H6 b=some o:=fun b o hb q=>sm5 _ _ (kc b o hb q)
   have hys5:=hys.mono sm5
   refine thn (DG T4 I6 hσ6 ek (E:=WW) fun _ _ z=>z) fun ok s7 ⟨eok,H7,I7,sm7⟩ => ?_
   subst eok
   rcases kcase with ⟨rfl,eg⟩ | ⟨rfl,eo⟩
   ·rw [if_pos rfl]
    cases eg':ge (xd.map some++ks.map fun k=>δ.getD k none) with
    | bad=>rw [eg'] at eg;exact absurd eg.symm nst'
    | ex C =>
     rw [eg'] at eg
     have ext:runC (stG pt gc ge ks δ) ds=.ex C:=by rw [etk];exact (rX ersi).2 C eg
     refine thn (E4 _ s7 σ6 H7 (fun _ _=>False) I7 ⟨_,hσ6.mono sm7,?_⟩) fun _ _ ⟨_,_,_,_,z⟩=>z.elim
     rw [eg']
     intro Ca hCa H' sm8 pins' Hx sx ea s8 Ix FX
     show WW (.ref ea) s8
     rw [<- hWW]
     exact BV (hO ⟨C,ext⟩) I3 f3 rfl Ix FX (fun b u e=>by
      by_cases hb:b=D
      ·rw [hb];exact ⟨_,sm8 _ _ (sm7 _ _ hD5)⟩
      ·exact ⟨_,sm8 _ _ (sm7 _ _ (kc5 b u hb e))⟩) (hex C Ca ext hCa H' (((sm2.trans smc5).trans sm7).trans sm8))
    | ok r =>
     rw [eg'] at eg
     simp only [R.bind] at eg
     have flo:EV.D.flat r=true:=by
      refine Classical.byContradiction fun z => ?_
      rw [if_neg z] at eg
      exact nst' eg.symm
     rw [if_pos flo] at eg
     refine thn (E4 _ s7 σ6 H7 (fun v8 H8=>aC H7 H8/\Rep X.K X.mg H8 v8 r) I7 ⟨_,hσ6.mono sm7,by rw [eg'];exact fun v8 H8 sm rp=>⟨sm,rp⟩⟩) fun u8 s8 ⟨v8,H8,I8,r8,sm8,rp8⟩ => ?_
     have sm78:=sm7.trans sm8
     have hD8:H8 D=some (.lst ys):=sm78 _ _ hD5
     refine thn (yu (X:=↥14) _ s8 _ H8 (.ref D) [v8] (.ref D) [u8] (fun _ H9=>H9=upd H8 D (.lst (ys++[v8]))) I8 rfl (.cons r8 .nil) ⟨D,ys,v8,rfl,rfl,hD8,by rw [sizeLine_eq];omega,rfl⟩) fun _ s9 ⟨_,H9,I9,_,e9⟩ => ?_
     subst e9
     have k9:NoL H8 (upd H8 D (.lst (ys++[v8]))):=fun b ob e n _=>by
      rw [bB fun z => ?_];exact e
      rw [z,hD8] at e
      exact n ys (Option.some.inj e).symm
     have k9':∀ b ob,b≠D->H8 b=some ob->upd H8 D (.lst (ys++[v8])) b=some ob:=fun b ob hb q=>by rw [bB hb];exact q
     refine ⟨ds.length - (i+1),⋯,i+1,_,_,ys++[v8],rsi++[r],I9.unpinned,T.keep _ _ _ st5 (fun b hb o q=>(pinf I9 b hb o q).1),fun b hb => ?_,rfl,⋯,bO,ertk _ eg,by rw [List.length_append];simp;omega,?_,fun b ob hb q=>k9' b ob hb (sm78 _ _ (kc5 b ob hb q)),tl6,nh fl1 flo⟩
     ·obtain ⟨ob,e,_⟩:=T.obj _ _ st5 b hb
      exact (pinf I9 b hb ob e).2
     ·exact (kO k9 fl1 (hys5.mono sm78)).append (.cons (oB k9 flo rp8) .nil)
   ·rw [if_neg Bool.false_ne_true]
    refine ⟨ds.length - (i+1),⋯,i+1,_,_,ys,rsi,I7.unpinned,T.keep _ _ _ st5 (fun b hb o q=>(pinf I7 b hb o q).1),fun b hb => ?_,rfl,⋯,sm7 _ _ hD5,by rw [ertk _ eo];simp,⋯,hys5.mono sm7,fun b ob hb q=>sm7 _ _ (kc5 b ob hb q),tl6,fl1⟩
    obtain ⟨ob,e,_⟩:=T.obj _ _ st5 b hb
    exact (pinf I7 b hb ob e).2
  ·have ei:i=ds.length:=⋯
   subst ei
   refine thn (T.done ↥14 rfl rfl rfl hc ds.length [] s' σc Hc WW Ic (fpc fr) st (wkc.2 _ ↥37)) fun r s1 ⟨hr,I9⟩ => ?_
   subst hr
   obtain ⟨m,hns,_⟩:=id I9.loc
   have I10:∀ h',Heap.SameBut s3.heap.objs.size s1.heap h'->Inv X pins σ Hc { s1 with heap:=h' }:=fun h' sb=>I3.call' (s':={ s1 with heap:=h' }) (ch:=fp) I9.os (GZ I9.base ↥37 sb) (FC I9.hok I9.free sb) I9.bare fun b hb =>
    ⟨(f3 b hb).2.2.2.1,(f3 b hb).2.1,(f3 b hb).2.2.2.2.1,(f3 b hb).2.2.2.2.2⟩
   rw [List.take_of_length_le ↥37] at ersi
   have hHD:H D=none:=by
    cases q:H D with
    | none=>rfl
    | some o=>have:=sm2 D o q;rw [hnew] at this;cases this
   exact hfin s1 Hc D s3.heap.objs.size ys rsi eds ersi fl1 hHD hDc hys (sm2.trans smc) (I3.fpOk ↥37 I9.free)
    (I10 s1.heap (Heap.SameBut.refl _ _)) ⟨m,hns⟩ I10
 exact codeAny_compStart_list R4 (T.self _ 0 _ _ _ st4 R4)
def pt1 (d:D):Option (List D):=some [d]
theorem Ma:Tgt X 1 pt1 (vU 0):=⟨fun d xs e=>by cases e;rfl,fun {d xs v σ H Q} e r hl q=>by
 cases e
 refine q [v] _ (.cons r .nil) ⟨List.length_set ..,fun j w hj => ?_,fun j hj => ?_⟩
 ·cases j with
  | zero=>cases hj;exact List.getElem?_set_self ⋯
  | succ j=>simp at hj
 ·exact List.getElem?_set_ne (by have:1<=j:=hj;omega)⟩
theorem tg1:∀ C fp s H W,Sc ↥18 ([x]++ksn)->(∀ y∈[x],(cxU X [x] ksn sc C fp s H W).env.scope.names.lookup y=some .local)->PG ↥18 (.Name x px) (vU 0) :=
 fun C fp s H W S4 hl=>sv (i:=0) (by rw [S4.n];exact S4.nd) rfl (.inl (hl x (by simp))) (.inr (hl x (by simp)))
theorem Hv:∀ {ds rs:List EV.D},runC (EV.stC gc ge ks δ) ds=.ok rs->EV.D.flats rs=true->runC (stG pt1 gc ge ks δ) ds=.ok rs
 | [],rs,h,_=>h
 | d::ds,rs,h,hf=>by
  unfold runC at h ⊢
  cases q:EV.stC gc ge ks δ d with
  | ok o =>
   rw [q] at h
   simp only [R.bind] at h
   cases q2:runC (EV.stC gc ge ks δ) ds with
   | ok r =>
    rw [q2] at h
    have e:o.toList++r=rs:=by cases o<;>simpa using h
    have key:stG pt1 gc ge ks δ d=.ok o/\EV.D.flats r=true:=by
     unfold EV.stC at q
     unfold stG pt1
     simp only
     have ei:inC ks δ d=[d].map some++ks.map fun k=>δ.getD k none:=rfl
     rw [ei] at q
     cases q3:mC (gc ([d].map some++ks.map fun k=>δ.getD k none)) with
     | ok b =>
      rw [q3] at q
      cases b with
      | bl k =>
       cases k with
       | true =>
        simp only [R.bind,truth] at q ⊢
        cases q4:mC (ge ([d].map some++ks.map fun k=>δ.getD k none)) with
        | ok r' =>
         rw [q4] at q
         cases q
         rw [yk q4]
         rw [<- e] at hf
         have hf':EV.D.flat r'=true/\EV.D.flats r=true:=by simpa [EV.D.flats] using hf
         simp only
         rw [if_pos hf'.1]
         exact ⟨rfl,hf'.2⟩
        | ex C=>rw [q4] at q;cases q
        | bad=>rw [q4] at q;cases q
       | false =>
        simp only [R.bind,truth] at q ⊢
        cases q
        exact ⟨rfl,by rw [show r=rs from e];exact hf⟩
      | _=>cases q
     | ex C=>exact (kP q3).elim
     | bad=>rw [q3] at q;cases q
    rw [key.1]
    simp only [R.bind]
    rw [Hv q2 key.2]
    simp only
    rw [<- e]
    cases o<;>rfl
   | ex C=>rw [q2] at h;cases h
   | bad=>rw [q2] at h;cases h
  | ex C=>rw [q] at h;cases h
  | bad=>rw [q] at h;cases h
structure CompOf (ce:E) (git:IT) (pt:EV.D->Option (List EV.D)) (gc ge:E) (ks:List Nat):Prop where
 ex:∀ δ C,git δ=.ex C->ce δ=.ex C
 bad:∀ δ,git δ=.bad->ce δ=.bad
 ok:∀ δ ds,git δ=.ok ds->ce δ=.bad\/(ds.length<=100000/\∃ rs,runC (stG pt gc ge ks δ) ds=.ok rs/\EV.D.flats rs=true/\ce δ=.ok (.lst rs))
theorem nz (hc:X.calm=true) {N:List Str} (S:Sc X N) {xs ksn G:List Str} {ks:List Nat} {tg elt iter:Expr} {ifs:List Expr} {pos ps:Pos} {sc:Scope} {git:IT} {gc ge ce:E} {pt:EV.D->Option (List EV.D)} {gT:TG} (CE:CompOf ce git pt gc ge ks) (SC:ScU xs ksn G sc)
  (hks:ks.map (fun k=>N.getD k "")=ksn) (hlt:∀ k∈ks,k<N.length) (hcell:∀ y∈ksn,X.env.scope.names.lookup y=some .cell)
  (he:SI X tg iter git) (TT:Tgt X xs.length pt gT)
  (htg:∀ C fp s H W,Sc ↥8 (xs++ksn)->↥39->PG ↥8 tg gT)
  (htst:∀ C fp s H W,Sc ↥8 (xs++ksn)->(∀ y∈G,Gb ↥8 y)->Tst ↥8 ifs gc)
  (helt:∀ C fp s H W,Sc ↥8 (xs++ksn)->(∀ y∈G,Gb ↥8 y)->SE ↥8 elt ge)
  (hs:∀ z,foldedSetIterable iter X.env z=pure z) {use:Option (Value->Sem Unit)} {Qf:Value->Shared->Prop} {Q:VK}
  {pins:List ↥12} {s:Shared} {σ:L2.St} {H:Hp} {δ:Dt} (I:Inv X pins σ H s) (hσ:Stt X.K X.mg H σ δ) (h:RQ X σ H (ce δ) Q)
  (hfin:∀ (s1:Shared) (Hc:Hp) (D C:Addr) (ys:List V) (rs:List EV.D),ce δ=.ok (.lst rs)->EV.D.flats rs=true->H D=none->Hc D=some (.lst ys)->Reps X.K X.mg Hc ys rs->aC H Hc->Q (.ref D) Hc ->
   wm X pins Hc C->Inv X pins σ Hc s1->(∃ m,s1.heap.Ns C m)->(∀ h',Heap.SameBut C s1.heap h'->Inv X pins σ Hc { s1 with heap:=h' })->dS ↥7 X.A X.xe use Qf (.ref D) C X.env.frame (.ok .next) s1) :
  wpAny ↥7 X.A (comprehension ↥35 sc X.env ps (newList []) false (eval iter X.env) use) Qf X.xe s:=by
 have key:git δ ≠ .bad/\(∀ C,git δ=.ex C->∀ Ca,X.mg C=some (.ref Ca)->∀ H',aC H H'->ew X Ca σ H')/\∃ ds,(∀ ds',git δ=.ok ds'->ds'=ds)/\∀ ds',git δ=.ok ds'->ds.length<=100000/\∃ rs,runC (stG pt gc ge ks δ) ds=.ok rs/\EV.D.flats rs=true/\ce δ=.ok (.lst rs):=by
  cases r:git δ with
  | bad=>rw [CE.bad δ r] at h;exact False.elim h
  | ex C=>rw [CE.ex δ C r] at h;exact ⟨(fun z=>nomatch z),(fun C' e=>by cases e;exact h),[],(fun _ e=>nomatch e),(fun _ e=>nomatch e)⟩
  | ok ds =>
   refine ⟨fun z=>(nomatch z),fun C' e=>(nomatch e),ds,fun _ e=>by cases e;rfl,fun _ e => ?_⟩
   rcases CE.ok δ ds r with z | z
   ·rw [z] at h;exact False.elim h
   ·exact z
 obtain ⟨k1,k2,ds,k3,k4⟩:=key
 by_cases g:∃ ds',git δ=.ok ds'
 ·obtain ⟨ds',eds⟩:=g
  obtain ⟨hz,rs,er,fl,ec⟩:=k4 ds' eds
  refine qB hc S SC hks hlt hcell he TT htg htst helt hs (use:=use) I hσ k2 (ds:=ds) k1 (fun d e=>⟨k3 d e,hz,(fun z=>by rw [er] at z;cases z),(fun rs' e'=>by rw [er] at e';cases e';exact fl)⟩) (fun C Ca e=>by rw [er] at e;cases e) (fun ⟨C,e⟩=>by rw [er] at e;cases e) fun s1 Hc D C ys rs' e1 e2 e3 e4 e5 e6 e7 e8 e9 e10 e11 => ?_
  rw [er] at e2
  cases e2
  rw [ec] at h
  exact hfin s1 Hc D C ys rs ec fl e4 e5 e6 e7 (h _ _ e7 (.lst (SqL.of e5) e6)) e8 e9 e10 e11
 ·have no:∀ d,git δ ≠ .ok d:=fun d e=>g ⟨d,e⟩
  exact qB hc S SC hks hlt hcell he TT htg htst helt hs (use:=use) I hσ k2 (ds:=[]) k1 (fun d e=>absurd e (no d)) (fun C Ca e=>nomatch e) (fun ⟨C,e⟩=>nomatch e) fun s1 Hc D C ys rs' e1=>absurd e1 (no _)
theorem qC:CompOf (gx git ks gc ge) git pt1 gc ge ks where
 ex:=fun δ C e=>by unfold gx;rw [e];rfl
 bad:=fun δ e=>by unfold gx;rw [e];rfl
 ok:=fun δ ds e=>by
  unfold gx
  rw [e]
  simp only [R.bind]
  by_cases hz:ds.length<=100000
  ·rw [if_pos hz]
   cases r:runC (EV.stC gc ge ks δ) ds with
   | bad=>exact .inl rfl
   | ex C =>
    exfalso
    have:∀ l C,runC (EV.stC gc ge ks δ) l ≠ .ex C:=fun l C=>by
     induction l with
     | nil=>exact fun z=>nomatch z
     | cons a l ih =>
      intro z
      unfold runC at z
      cases q:EV.stC gc ge ks δ a with
      | ok o =>
       rw [q] at z
       simp only [R.bind] at z
       cases q2:runC (EV.stC gc ge ks δ) l with
       | ok r=>rw [q2] at z;cases z
       | ex C'=>exact ih.elim (by rw [q2] at z;cases z;exact q2)
       | bad=>rw [q2] at z;cases z
      | ex C' =>
       unfold EV.stC at q
       cases q3:mC (gc (inC ks δ a)) with
       | ok d =>
        rw [q3] at q
        cases d with
        | bl b =>
         cases b with
         | true =>
          simp only [R.bind,truth] at q
          cases q4:mC (ge (inC ks δ a)) with
          | ok r=>rw [q4] at q;cases q
          | ex C''=>exact kP q4
          | bad=>rw [q4] at q;cases q
         | false=>cases q
        | _=>cases q
       | ex C''=>exact kP q3
       | bad=>rw [q3] at q;cases q
      | bad=>rw [q] at z;cases z
    exact this _ _ r
   | ok rs =>
    simp only [eI]
    by_cases hf:EV.D.flats rs=true
    ·rw [if_pos hf]
     exact .inr ⟨hz,rs,Hv r hf,hf,rfl⟩
    ·rw [if_neg hf]
     exact .inl rfl
  ·rw [if_neg hz]
   exact .inl rfl
theorem FY (hc:X.calm=true) {N:List Str} (S:Sc X N) {xs ksn G:List Str} {ks:List Nat} {tg elt iter:Expr} {ifs:List Expr} {pos:Pos} {sc:Scope} {git:IT} {gc ge ce:E} {pt:EV.D->Option (List EV.D)} {gT:TG} (CE:CompOf ce git pt gc ge ks) (SC:ScU xs ksn G sc)
  (hks:ks.map (fun k=>N.getD k "")=ksn) (hlt:∀ k∈ks,k<N.length) (hcell:∀ y∈ksn,X.env.scope.names.lookup y=some .cell)
  (he:SI X tg iter git) (TT:Tgt X xs.length pt gT)
  (htg:∀ C fp s H W,Sc ↥8 (xs++ksn)->↥39->PG ↥8 tg gT)
  (htst:∀ C fp s H W,Sc ↥8 (xs++ksn)->(∀ y∈G,Gb ↥8 y)->Tst ↥8 ifs gc)
  (helt:∀ C fp s H W,Sc ↥8 (xs++ksn)->(∀ y∈G,Gb ↥8 y)->SE ↥8 elt ge)
  (hs:∀ z,foldedSetIterable iter X.env z=pure z):SE X ↥35 ce:=by
 intro pins s σ H Q I ⟨δ,hσ,h⟩
 rw [eval_ListComp]
 exact nz hc S CE SC hks hlt hcell he TT htg htst helt hs (use:=none) I hσ h fun s1 Hc D C ys rs e1 e2 e3 e4 e5 e6 q fC I1 ⟨m,ns⟩ turn=>⟨m,ns,fun h' sb=>⟨.ref D,Hc,turn h' sb,rfl,q⟩⟩
theorem BQ (hc:X.calm=true) {N:List Str} (S:Sc X N) {x:Str} {ksn G:List Str} {ks:List Nat} {elt iter:Expr} {ifs:List Expr} {px pos:Pos} {sc:Scope} {git:IT} {gc ge:E} (SC:ScU [x] ksn G sc)
  (hks:ks.map (fun k=>N.getD k "")=ksn) (hlt:∀ k∈ks,k<N.length) (hcell:∀ y∈ksn,X.env.scope.names.lookup y=some .cell)
  (he:SI X (.Name x px) iter git)
  (htst:∀ C fp s H W,Sc ↥18 ([x]++ksn)->(∀ y∈G,Gb ↥18 y)->Tst ↥18 ifs gc)
  (helt:∀ C fp s H W,Sc ↥18 ([x]++ksn)->(∀ y∈G,Gb ↥18 y)->SE ↥18 elt ge)
  (hs:∀ z,foldedSetIterable iter X.env z=pure z:=by intro _;rfl):SE X (.ListComp elt [⟨.Name x px,iter,ifs,0⟩] sc pos) (gx git ks gc ge) :=
 FY hc S qC SC hks hlt hcell he Ma tg1 htst helt hs
theorem uG (hc:X.calm=true) {N:List Str} (S:Sc X N) {x:Str} {ksn G:List Str} {ks:List Nat} {elt iter:Expr} {px pos:Pos} {sc:Scope} {git:IT} {ge:E} (SC:ScU [x] ksn G sc)
  (hks:ks.map (fun k=>N.getD k "")=ksn) (hlt:∀ k∈ks,k<N.length) (hcell:∀ y∈ksn,X.env.scope.names.lookup y=some .cell)
  (he:SI X (.Name x px) iter git)
  (helt:∀ C fp s H W,Sc ↥18 ([x]++ksn)->(∀ y∈G,Gb ↥18 y)->SE ↥18 elt ge)
  (hs:∀ z,foldedSetIterable iter X.env z=pure z:=by intro _;rfl):SE X (.ListComp elt [⟨.Name x px,iter,[],0⟩] sc pos) (comp git ks ge) :=
 BQ hc S SC hks hlt hcell he (fun _ _ _ _ _ _ _=>.nil) helt hs
end
end ES
namespace ES
open PySem PySem.Spec PyProof.Rows L2 EV
unseal SE ST SW SA SS SSs SI
structure GC (X:Cx) (x:String) (d:D):Prop where
 ex:∃ v u,X.mg x=some u/\RelV v u/\∀ H,Rep X.K X.mg H v d
section
variable {X:Cx} {pos p:Pos} {x:String} {d:D} {e e2:Expr} {g:E}
theorem Rr (G:Gb X x) (h:GC X x d):SE X (.Name x pos) (con d):=by
 obtain ⟨v,u,hm,r,hr⟩:=h.ex
 exact sZ (xJ (v:=v) G.g hm r G.d) hr
theorem FG {a:Addr} {dd:Option Addr} {ss:List String} {its:Array Value} {n:Nat} {sl:Array (Option Value)} (hm:X.mg x=some (.ref a)) (hk:X.K.lookup a=some ⟨.type "tuple",dd,.seq its n,sl⟩) (hi:Vals (ss.map fun s=>V.str (Str.ofString s)) its.toList) (hz:its.size<=1000):GC X x (.tup (ss.map fun s=>D.str (Str.ofString s))):=by
 refine ⟨.ref a,.ref a,hm,rfl,fun H=>.tup (.inr ⟨_,its,n,hk,rfl,rfl,Nat.le_of_lt (lr hz),hi⟩) ?_⟩
 clear hi
 induction ss with
 | nil=>exact .nil
 | cons s r ih=>exact .cons (.str _) ih
theorem pW:∀ {ss:List String} {ts:List Tok} {its:List Value},its=(ss.zip ts).map (fun p=>Value.str (Str.ofString p.1) p.2)->ts.length=ss.length->Vals (ss.map fun s=>V.str (Str.ofString s)) its
 | [],_,_,e,_=>by subst e;exact .nil
 | s::r,[],_,_,h=>by simp at h
 | s::r,t::ts,_,e,h=>by
  subst e
  exact .cons ⟨t,rfl⟩ (pW (ts:=ts) rfl (by simpa using h))
end
section
variable {X:Cx} {x y:Str} {ksn:List Str} {sc:Scope} {C:Addr} {fp:List Addr} {s:Shared} {H:Hp} {f:List D->R D} {cn m:String} {F:List D->R D}
end
def dg:Stmt->List Stmt
 | .ClassDef _ _ _ b _ _ _ _ _ _ _=>b
 | _=>[]
end ES
namespace ES
open EV
end ES
namespace ES
open PySem PySem.Spec PyProof.Rows L2 EV
unseal SE ST SW SA SS SSs SI
def ROp (X:Cx) (σ:L2.St) (H:Hp) (r:R (Option Int)) (Q:Option Int->Hp->Prop):Prop:=match r with
 | .ok o=>∀ H',aC H H'->Q o H'
 | .ex C=>∀ Ca,X.mg C=some (.ref Ca)->∀ H',aC H H'->ew X Ca σ H'
 | .bad=>False
def tPo (X:Cx) (g:Option E):TO:=fun σ H Q=>∃ δ,Stt X.K X.mg H σ δ/\ROp X σ H (part g δ) Q
@[irreducible] def SO (X:Cx) (e:Option Expr) (g:Option E):Prop:=PO X e (tPo X g)
unseal SO
section
variable {X:Cx} {tg e a:Expr} {lo hi:Option Expr} {g:E} {gl gu:Option E} {σ:L2.St} {H H1:Hp} {pos p2:Pos}
theorem oV (h:SE X e g):SI X tg e (itA g):=fun pins s σ H Q I ⟨δ,hσ,q⟩=>by
 unfold itA at q
 cases r:g δ with
 | ok d =>
  rw [r] at q
  cases d with
  | lst ds=>exact CI h pins s σ H Q I ⟨δ,hσ,by unfold itL;rw [r];exact q⟩
  | tup ds=>exact LD h pins s σ H Q I ⟨δ,hσ,by unfold itT;rw [r];exact q⟩
  | _=>exact False.elim q
 | ex C=>exact CI h pins s σ H Q I ⟨δ,hσ,by unfold itL;rw [r] at q ⊢;exact q⟩
 | bad=>rw [r] at q;exact False.elim q
end
theorem L8 {P:String->Prop} (h0:P "MillError") (h1:P "NoSize") (h2:P "NoBits") (h3:P "NoParts") (h4:P "NoRank") (h5:P "NotFinite") (h6:P "NoWay") (h7:P "NoFlags") (h8:P "NoFraction") (h9:P "Unlike") (h10:P "Empty") (h11:P "NoLeft") (h12:P "NoText") (h13:P "NoRow") (h14:P "NoName") (h15:P "Stopped"):∀ n∈av,P n:=by
 intro n hn
 simp only [av,List.mem_cons,List.not_mem_nil,or_false] at hn
 rcases hn with rfl | rfl | rfl | rfl | rfl | rfl | rfl | rfl | rfl | rfl | rfl | rfl | rfl | rfl | rfl | rfl
 all_goals assumption
end ES
namespace ES
open PySem PySem.Spec PyProof.Rows L2 EV
unseal SE ST SW SA SS SSs SI SO
section
variable {X:Cx} {tg:Expr} {H:Hp} {a b c:Expr} {ga gb gc:E}
def Itc (lo c:Int) (n:Nat):It:=⟨fun i _=>i<n,fun i H x H'=>H'=H/\x=.int (lo+i*c),fun i _=>n<=i⟩
theorem wU {P:Program} {w:World} {K:PySem.W.Frag} {tg:Expr} (it:Addr) (lo c:Int) (n:Nat):Turn P w K tg (Itc lo c n) [it] it (fun i h=>IsRangeIter h it (lo+(i:Nat)*c) ((n:Int) - (i:Nat)) c) where
 mem:=by simp
 obj:=fun i h st b hb=>by
  have e:b=it:=by simpa using hb
  subst e
  refine ⟨_,st,fun v z => ?_⟩
  have z':Data.fields _=Data.cell v:=z
  cases z'
 keep:=fun i h h' st k=>k it (by simp) _ st
 item:=by
  intro X hP hw hK hc i pins s σ H E I hf st hg
  subst hP hw hK
  obtain ⟨f0,f1,f2,f3,f4,f5⟩:=hf it (by simp)
  have W:=Walks.range (prog:=X.prog) (w:=X.w) (I.ok.hd hc) it lo c n
  refine W.item i s _ _ hg st fun v h' tk hv st' kk => ?_
  obtain ⟨t,rfl⟩:=hv
  have J:Inv X pins σ H { s with heap:=h',toks:=tk }:=I.turned (fun b o hb e=>kk b o (by simpa using hb) e) f0 f1 f3 f4 f5
  exact ⟨_,rfl,FD (s:={ s with heap:=h',toks:=tk }) (n:="range_iterator") st' rfl rfl ↥1 ⟨.int (lo+i*c),H,J,⟨t,rfl⟩,⟨rfl,rfl⟩,st',fun b hb=>(hf b hb).1⟩⟩
 done:=by
  intro X hP hw hK hc i pins s σ H E I hf st hg
  subst hP hw hK
  obtain ⟨f0,f1,f2,f3,f4,f5⟩:=hf it (by simp)
  exact wpAny_pyNext_range_end (I.ok.hd hc) st (by have:n<=i:=hg;omega) fun h' eb=>⟨rfl,I.turned (t':=s.toks) (fun b o hb e=>eb b o hb e) f0 f1 f3 f4 f5⟩
 self:=fun _ _ _ _ _ st h=>wpAny_pyIter_rangeiter st h
theorem yW {x c:Int} (hx:0<=x) (hc:0<c):0<=x / c/\x / c<=x/\x / c*c<=x:=by
 have h1:=Int.ediv_nonneg hx (Int.le_of_lt hc)
 have h2:=Int.ediv_mul_le x (show c≠0 by omega)
 have h3:=Int.mul_le_mul_of_nonneg_left (show 1<=c by omega) h1
 omega
theorem vj {lo hi c:Int} (h : -(2^40)<=lo/\lo<2^40 /\ -(2^40)<=hi/\hi<2^40) (h0:0<c) (h1:c<2^20):Builtin.Range.small lo hi c=true:=by
 unfold Builtin.Range.small Builtin.Range.rangeSize
 simp only [Builtin.Range.rangeFitsLong,Bool.and_eq_true,Bool.or_eq_true,decide_eq_true_eq,beq_iff_eq,if_pos h0]
 by_cases g:lo<hi
 ·obtain ⟨a1,a2,a3⟩:=yW (x:=hi - lo - 1) ⋯ h0
  rw [if_pos g]
  omega
 ·rw [if_neg g]
  omega
theorem Eb {pins:List ↥12} {σ:L2.St} {s:Shared} {R:It->Hp->Prop} {E:Value->Shared->Prop} {lo hi c:Int} {t u v:Tok} {tk:Nat} (I:Inv X pins σ H s) (h : -(2^40)<=lo/\lo<2^40 /\ -(2^40)<=hi/\hi<2^40) (h0:0<c) (h1:c<2^20)
  (q:R (Itc lo c (if lo<hi then (hi - lo - 1) / c+1 else 0).toNat) H):wpAny ↥7 X.A (pyIter (.ref s.heap.objs.size)) (PIE X pins σ tg R) E { s with heap:=s.heap.push { cls:=.type "range",data:=.fields #[.int lo t,.int hi u,.int c v] },toks:=tk }:=by
 refine wpAny_pyIter_range (IsRange.new ..) (vj h h0 h1) ?_
 have J:Inv X pins σ H { s with heap:=s.heap.push { cls:=.type "range",data:=.fields #[.int lo t,.int hi u,.int c v] },toks:=tk }:=I.kept fun b o e=>Heap.get?_push_of_some _ e
 generalize hh:s.heap.push { cls:=.type "range",data:=.fields #[.int lo t,.int hi u,.int c v] }=hp at *
 have nn:(((if lo<hi then (hi - lo - 1) / c+1 else 0).toNat:Nat):Int)=Builtin.Range.rangeSize lo hi c:=by
  unfold Builtin.Range.rangeSize
  rw [if_pos h0]
  by_cases g:lo<hi
  ·obtain ⟨a1,a2,a3⟩:=yW (x:=hi - lo - 1) ⋯ h0
   rw [if_pos g]
   omega
  ·rw [if_neg g];rfl
 refine ⟨hp.objs.size,[hp.objs.size],_,_,H,rfl,J.kept (t':=tk) fun b o e=>Heap.get?_push_of_some _ e,wU _ lo c (if lo<hi then (hi - lo - 1) / c+1 else 0).toNat,?_,fun b hb => ?_,q⟩
 ·show IsRangeIter _ _ (lo+((0:Nat):Int)*c) ((((if lo<hi then (hi - lo - 1) / c+1 else 0).toNat:Nat):Int) - ((0:Nat):Int)) c
  rw [nn,show lo+((0:Nat):Int)*c=lo by simp,show Builtin.Range.rangeSize lo hi c - ((0:Nat):Int)=Builtin.Range.rangeSize lo hi c by simp]
  exact Heap.get?_push_size _ rfl
 ·have e:b=hp.objs.size:=by simpa using hb
  subst e
  exact J.fpOk ↥37 (J.hok.fresh ↥37)
def LF (ta:TA):TI:=fun σ H R=>ta σ H fun vs H1=>∃ i j c:Int,vs=[.int i,.int j,.int c]/\((-(2^40)<=i/\i<2^40 /\ -(2^40)<=j/\j<2^40)/\0<c/\c<2^20)/\R (Itc i c (if i<j then (j - i - 1) / c+1 else 0).toNat) H1
theorem xI (hg:Gl X "range") (hm:X.mg "range"=none) (ha:PA X [a,b,c] ta) (hs:starEach [a,b,c] X.env=(false,eval a X.env)::starEach [b,c] X.env:=by rfl) (hs2:(backTo pos (starEach [b,c] X.env)).any (·.1)=false:=by rfl) :
  PI X tg (.Call (.Name "range" p) [a,b,c] [] pos) (LF ta):=by
 intro pins s σ H R I h
 refine Call_ (qq I hg hm boot_range (PyProof.Rows.callWith_type1 (thn (ha pos pins s σ H _ I h) fun us s1 ⟨vs,H1,I1,r1,q1⟩ => ?_) hs hs2))
 obtain ⟨i,j,c,e,⟨q1,q2,q3⟩,q⟩:=q1
 subst e
 cases r1 with
 | cons r rr =>
  cases rr with
  | cons r' rr =>
   cases rr with
   | cons r'' rr =>
    cases rr
    obtain ⟨t,rfl⟩:=r
    obtain ⟨t',rfl⟩:=r'
    obtain ⟨t'',rfl⟩:=r''
    exact call_range_3 ⋯ (Eb I1 q1 q2 q3 q) (.inl (PyProof.noPylong_small ⋯))
theorem ud (lo hi c:Int):(zQ lo hi c).length=(if lo<hi then (hi - lo - 1) / c+1 else 0).toNat:=by simp [zQ]
theorem Es {lo hi c:Int} {k:Nat} (h:k<(if lo<hi then (hi - lo - 1) / c+1 else 0).toNat):(zQ lo hi c)[k]? = some (.int (lo+k*c)):=by
 unfold zQ
 rw [List.getElem?_map,List.getElem?_range h]
 rfl
theorem wL {lo hi c:Int}:zB X (Itc lo c (if lo<hi then (hi - lo - 1) / c+1 else 0).toNat) H (zQ lo hi c):=fun Hc sc=>⟨fun i d hd=>by
  have hl:=(List.getElem?_eq_some_iff.mp hd).1
  rw [ud] at hl
  rw [Es hl] at hd
  cases hd
  exact ⟨hl,fun x H' ⟨e,ex⟩=>by subst ex;exact rG e (.int _)⟩,fun i hi'=>by rw [ud] at hi';exact hi'⟩
theorem KW (r:Reps X.K X.mg H vs [d,d',d'']):∃ v v' v'',vs=[v,v',v'']/\Rep X.K X.mg H v d/\Rep X.K X.mg H v' d'/\Rep X.K X.mg H v'' d'':=by
 cases r with
 | cons r1 rr =>
  obtain ⟨v',v'',rfl,r2,r3⟩:=AS rr
  exact ⟨_,_,_,rfl,r1,r2,r3⟩
theorem Ju (G:Gb X "range") (hm:X.mg "range"=none) (ha:SE X a ga) (hb:SE X b gb) (hc:SE X c gc) (hs:starEach [a,b,c] X.env=(false,eval a X.env)::starEach [b,c] X.env:=by rfl) (hs1:starEach [b,c] X.env=(false,eval b X.env)::starEach [c] X.env:=by rfl) (hs2:starEach [c] X.env=[(false,eval c X.env)]:=by rfl) (hs3:(backTo pos (starEach [b,c] X.env)).any (·.1)=false:=by rfl) :
  SI X tg (.Call (.Name "range" p) [a,b,c] [] pos) (LB ga gb gc) :=
 PI.weak (xI G.g hm (aj ha (aj hb (aj hc bZ hs2) hs1) hs) hs hs3) fun σ H Q ⟨δ,hσ,q⟩=>⟨δ,hσ,(RI.bindA q).to fun vs H' s ⟨_,ds,rs,q⟩=>by
  unfold JV at q
  split at q
  ·rename_i lo hi c
   obtain ⟨v,v',v'',rfl,r1,r2,r3⟩:=KW rs
   cases r1
   cases r2
   cases r3
   split at q
   ·rename_i hb
    exact ⟨lo,hi,c,rfl,hb,q _ _ ↥25 wL⟩
   ·exact False.elim q
  ·exact False.elim q⟩
end
end ES
namespace ES
open PySem PySem.Spec PyProof.Rows L2 EV
unseal SE ST SW SA SS SSs SI SO
section
variable {X:Cx} {N:List Str} {H:Hp} {σ:L2.St} {δ:Dt} {os:Os}
theorem DY (h:Stt X.K X.mg H σ δ):Stt X.K X.mg H σ (δ.set i (some (.own ds))):=by
 refine ⟨by rw [List.length_set];exact h.1,fun j d e n => ?_⟩
 by_cases hj:j=i
 ·subst hj
  by_cases hl:j<δ.length
  ·rw [List.getElem?_set_self hl] at e
   have e':.own ds=d:=Option.some.inj (Option.some.inj e)
   exact absurd e'.symm (n ds)
  ·rw [List.getElem?_eq_none (by simp;omega)] at e
   cases e
 ·rw [List.getElem?_set_ne (Ne.symm hj)] at e
  exact h.2 j d e n
theorem uu (h:a∈j5 os):hide (upd H a o) os=hide H os:=by
 funext b
 unfold hide
 by_cases hb:b∈j5 os
 ·rw [if_pos hb,if_pos hb]
 ·rw [if_neg hb,if_neg hb]
  exact bB fun z=>hb (by rw [z];exact h)
theorem StO.write (S:StO X H σ δ os) (ha:(i,a)∈os) (r:Reps X.K X.mg ↥26 xs ds):StO X (upd H a (.lst xs)) σ (δ.set i (some (.own ds))) os:=by
 have eh:hide (upd H a (.lst xs)) os=hide H os:=uu (jr ha)
 obtain ⟨_,_,_,h2,h3,_⟩:=S.lst _ ha
 have hl:i<δ.length:=(List.getElem?_eq_some_iff.mp h3).1
 refine ⟨by rw [eh];exact DY S.st,fun p hp => ?_,fun j es e => ?_,S.inj⟩
 ·rw [eh]
  by_cases hj:p.1=i
  ·have e2:p.2=a:=by
    obtain ⟨_,_,_,q2,_,_⟩:=S.lst p hp
    rw [hj,h2] at q2
    exact (V.ref.inj (Option.some.inj (Option.some.inj q2))).symm
   refine ⟨xs,ds,by rw [e2];exact bO,by rw [hj,e2];exact h2,by rw [hj];exact List.getElem?_set_self hl,r⟩
  ·obtain ⟨ys,es,q1,q2,q3,q4⟩:=S.lst p hp
   have ne:p.2≠a:=fun z=>hj (S.inj p.1 i a (by rw [<- z];exact hp) ha)
   exact ⟨ys,es,by rw [bB ne];exact q1,q2,by rw [List.getElem?_set_ne (Ne.symm hj)];exact q3,q4⟩
 ·by_cases hj:j=i
  ·subst hj;exact ⟨a,ha⟩
  ·rw [List.getElem?_set_ne (Ne.symm hj)] at e
   exact S.own j es e
theorem StO.pub (S:StO X H σ δ os) (i:Nat):∃ os',StO X H σ (EV.pub i δ) os'/\aC ↥26 (hide H os'):=by
 unfold EV.pub
 split
 ·rename_i ds e
  obtain ⟨a,ha⟩:=S.own i ds e
  obtain ⟨xs,ds',h1,h2,h3,h4⟩:=S.lst _ ha
  rw [e] at h3
  cases h3
  have sm:aC ↥26 (hide H (os.filter fun p=>p.1 != i)):=qv fun p hp=>(bS os i p hp).1
  have hl:i<δ.length:=(List.getElem?_eq_some_iff.mp e).1
  have na:a∉j5 (os.filter fun p=>p.1 != i):=fun z=>by
   obtain ⟨p,hp,e2⟩:=i9 z
   obtain ⟨hp',ne⟩:=bS os i p hp
   exact ne (S.inj p.1 i a (by rw [<- e2];exact hp') ha)
  refine ⟨_,⟨?_,fun p hp => ?_,fun j es q => ?_,fun j k b h1 h2=>S.inj j k b (bS os i _ h1).1 (bS os i _ h2).1⟩,sm⟩
  ·have st:=S.st.mono sm
   refine ⟨by rw [List.length_set];exact st.1,fun j d q n => ?_⟩
   by_cases hj:j=i
   ·subst hj
    rw [List.getElem?_set_self hl] at q
    have q':D.lst ds=d:=Option.some.inj (Option.some.inj q)
    subst q'
    exact ⟨.ref a,h2,.lst (SqL.of (by rw [cG na];exact h1)) (h4.mono sm)⟩
   ·rw [List.getElem?_set_ne (Ne.symm hj)] at q
    exact st.2 j d q n
  ·obtain ⟨hp',ne⟩:=bS os i p hp
   obtain ⟨ys,es,q1,q2,q3,q4⟩:=S.lst p hp'
   exact ⟨ys,es,q1,q2,by rw [List.getElem?_set_ne (Ne.symm ne)];exact q3,q4.mono sm⟩
  ·by_cases hj:j=i
   ·subst hj
    rw [List.getElem?_set_self hl] at q
    cases q
   ·rw [List.getElem?_set_ne (Ne.symm hj)] at q
    obtain ⟨b,hb⟩:=S.own j es q
    exact ⟨b,List.mem_filter.mpr ⟨hb,by simpa using hj⟩⟩
 ·exact ⟨os,S,aC.refl _⟩
variable {e:Expr} {g:E} {pos:Pos} {st:Stmt} {gs:S}
theorem El (i:Nat) (h:SS X st gs):SS X st (Cv i gs):=PS.weak h fun D σ H ⟨δ,os,S,q⟩=>by
 obtain ⟨os',S',sm⟩:=S.pub i
 exact ⟨_,os',S',OQ.mono sm q⟩
end
end ES
namespace ES
open PySem PySem.Spec PyProof.Rows L2 EV
unseal SE ST SW SA SS SSs SI SO
section
variable {X:Cx} {N:List Str} {H:Hp} {σ:L2.St} {δ:Dt} {os:Os}
theorem StO.adopt (S:StO X H σ δ os) (sm:aC H Hc) (hi:i<σ.length) (hn:H a=none) (ha:Hc a=some (.lst xs)) (r:Reps X.K X.mg Hc xs ds) (fl:EV.D.flats ds=true) :
  StO X Hc (σ.set i (some (.ref a))) (δ.set i (some (.own ds))) ((i,a)::os.filter fun p=>p.1 != i)/\aC ↥26 (hide Hc ((i,a)::os.filter fun p=>p.1 != i)):=by
 have hd:i<δ.length:=by rw [<- S.st.1];exact hi
 have sm2:aC ↥26 (hide Hc ((i,a)::os.filter fun p=>p.1 != i)):=fun b o e=>by
  have hb:b∉j5 os:=fun z=>by rw [oX z] at e;cases e
  rw [cG hb] at e
  have ne:b≠a:=fun z=>by rw [z,hn] at e;cases e
  rw [cG fun z => ?_];exact sm b o e
  obtain ⟨p,hp,e2⟩:=i9 z
  rcases List.mem_cons.mp hp with q | q
  ·exact ne (by rw [<- e2,q])
  ·exact hb (by rw [<- e2];exact jr (bS os i p q).1)
 have naos:∀ p∈os,p.2≠a:=fun p hp z=>by
  obtain ⟨_,_,q,_⟩:=S.lst p hp
  rw [z,hn] at q
  cases q
 have ls:J2 Hc ((i,a)::os.filter fun p=>p.1 != i):=fun b hb=>by
  obtain ⟨p,hp,e2⟩:=i9 hb
  rcases List.mem_cons.mp hp with q | q
  ·exact ⟨xs,by rw [<- e2,q];exact ha⟩
  ·obtain ⟨ys,_,q1,_⟩:=S.lst p (bS os i p q).1
   exact ⟨ys,by rw [<- e2];exact sm _ _ q1⟩
 refine ⟨⟨?_,fun p hp => ?_,fun j es e => ?_,fun j k b h1 h2 => ?_⟩,sm2⟩
 ·have st:=S.st.mono sm2
  refine ⟨by rw [List.length_set,List.length_set];exact st.1,fun j d e n => ?_⟩
  by_cases hj:j=i
  ·subst hj
   rw [List.getElem?_set_self hd] at e
   exact absurd (Option.some.inj (Option.some.inj e)).symm (n ds)
  ·rw [List.getElem?_set_ne (Ne.symm hj)] at e
   obtain ⟨v,e1,e2⟩:=st.2 j d e n
   exact ⟨v,by rw [List.getElem?_set_ne (Ne.symm hj)];exact e1,e2⟩
 ·rcases List.mem_cons.mp hp with q | q
  ·subst q
   exact ⟨xs,ds,ha,List.getElem?_set_self hi,List.getElem?_set_self hd,kO (uj ls) fl r⟩
  ·obtain ⟨hp',ne⟩:=bS os i p q
   obtain ⟨ys,es,q1,q2,q3,q4⟩:=S.lst p hp'
   exact ⟨ys,es,sm _ _ q1,by rw [List.getElem?_set_ne (Ne.symm ne)];exact q2,by rw [List.getElem?_set_ne (Ne.symm ne)];exact q3,q4.mono sm2⟩
 ·by_cases hj:j=i
  ·subst hj;exact ⟨a,.head _⟩
  ·rw [List.getElem?_set_ne (Ne.symm hj)] at e
   obtain ⟨b,hb⟩:=S.own j es e
   exact ⟨b,.tail _ (List.mem_filter.mpr ⟨hb,by simpa using hj⟩)⟩
 ·rcases List.mem_cons.mp h1 with q1 | q1<;>rcases List.mem_cons.mp h2 with q2 | q2
  ·cases q1;cases q2;rfl
  ·cases q1;exact absurd rfl (naos _ (bS os i _ q2).1)
  ·cases q2;exact absurd rfl (naos _ (bS os i _ q1).1)
  ·exact S.inj j k b (bS os i _ q1).1 (bS os i _ q2).1
theorem xf {pins:List ↥12} {s:Shared} {i:Nat} {y:Str} {py:Pos} {a C:Addr} {m:Str->Option Value} (Cx:Sx X N) (hN:N[i]? = some y) (hy:Sto X y) (I:Inv X pins σ H s) (fC:wm X pins H C) (ns:s.heap.Ns C m) :
  wpAny ↥7 X.A (assign (.Name y py) X.env (.ref a)) (fun _ s2=>∃ m,s2.heap.Ns C m/\∀ h',Heap.SameBut C s2.heap h'->Inv X pins (σ.set i (some (.ref a))) H { s2 with heap:=h' }) X.xe s:=by
 obtain ⟨o,es,ep,ho,hd,hk⟩:=id ns
 have Ip:=I.pinned (fp:=[C]) (fun b hb=>by rw [List.mem_singleton] at hb;rw [hb];exact fC) (fun b hb=>by
  rw [List.mem_singleton] at hb
  rw [hb]
  exact ⟨o,ho,fun v z=>by rw [hd] at z;cases z⟩)
 refine thn (sv (X:=X) (pos:=py) (i:=i) (x:=y) (by rw [Cx.sc.n];exact Cx.sc.nd) (by rw [Cx.sc.n];exact hN) hy.1 hy.2 _ s σ H (.ref a) (.ref a) (fun σ6 H6=>σ6=σ.set i (some (.ref a))/\H6=H) Ip rfl ⟨rfl,rfl⟩) fun _ s2 ⟨σ6,H6,I6,e6,e7⟩ => ?_
 subst e6 e7
 have hp:=(I6.pin (C,o) (List.mem_append_right _ (List.mem_append_right _ (dH (List.mem_singleton.mpr rfl) ho)))).1
 refine ⟨m,ns.at' fun o' e' => ?_,fun h' sb => ?_⟩
 ·rw [ho] at e'
  cases e'
  exact hp
 ·obtain ⟨f0,f1,f2,f3,f4,f5⟩:=fC
  exact I6.unpinned.turned (t':=s2.toks) (fun b o hb e=>(sb.2 b hb).trans e) f0 f1 f3 f4 f5
variable {e c k v:Expr} {g gc gk gv:E} {pos:Pos} {st:Stmt} {body els:List Stmt} {gs gb ge:S}
theorem KS (hc:ST X c gc) (ha:SSs X body gb) (hb:SSs X els ge):SS X (.If c body els pos) (LC gc gb ge) :=
 PS.weak (HW (F4 hc) ha hb) fun D σ H ⟨δ,os,S,q⟩=>⟨δ,os,S,FT.then q fun b H' S' s q'=>by
  cases b with
  | true=>exact Fx ⟨δ,os,S',by simpa using q'⟩
  | false=>exact Fy ⟨δ,os,S',by simpa using q'⟩⟩
theorem lq (hS:env.scope=sc0)
  (h:((if sc0.kind.isAnnotationScope then ScopeKind.function else sc0.kind) == ScopeKind.function&&sc0.names.lookup t == some NameKind.local&&pt.line == (Expr.ListComp elt gens sc pos).pos.line && !(sc.names.any fun (n,k)=>n == t&&(k == .local||k == .cell)))=true) :
  swapsWith (.ListComp elt gens sc pos) (some (.Name t pt)) line env=pure true:=by
 subst hS
 show (pure ((if env.scope.kind.isAnnotationScope then ScopeKind.function else env.scope.kind) == ScopeKind.function&&env.scope.names.lookup t == some NameKind.local&&pt.line == (Expr.ListComp elt gens sc pos).pos.line && !(sc.names.any fun (n,k)=>n == t&&(k == .local||k == .cell))):Sem Bool)=pure true
 rw [h]
theorem vx (Cx:Sx X N) (hc:X.calm=true) (i:Nat) {y:Str} {py spos:Pos} (hN:N[i]? = some y) (hy:Sto X y) {xs ksn G:List Str} {ks:List Nat} {tg elt iter:Expr} {ifs:List Expr} {sc:Scope} {git:IT} {gt ge' ce:E} {pt:EV.D->Option (List EV.D)} {gT:TG} (CE:CompOf ce git pt gt ge' ks) (SC:ScU xs ksn G sc)
  (hks:ks.map (fun k=>N.getD k "")=ksn) (hlt:∀ k∈ks,k<N.length) (hcell:∀ y∈ksn,X.env.scope.names.lookup y=some .cell)
  (he:SI X tg iter git) (TT:Tgt X xs.length pt gT)
  (htg:∀ C fp s H W,Sc ↥8 (xs++ksn)->↥39->PG ↥8 tg gT)
  (htst:∀ C fp s H W,Sc ↥8 (xs++ksn)->(∀ y∈G,Gb ↥8 y)->Tst ↥8 ifs gt)
  (helt:∀ C fp s H W,Sc ↥8 (xs++ksn)->(∀ y∈G,Gb ↥8 y)->SE ↥8 elt ge')
  (hsw:swapsWith ↥35 (some (.Name y py)) spos.line X.env=pure true)
  (hs:∀ z,foldedSetIterable iter X.env z=pure z) :
  SS X (.Assign [.Name y py] ↥35 spos) (eH i ce):=by
 intro pins s σ H D I ⟨δ,os,S,q⟩
 have hi:i<σ.length:=by
  rw [I.len,Cx.sc.n]
  exact (List.getElem?_eq_some_iff.mp hN).1
 unfold eH zP at q
 rw [exec_Assign_Name_used _ _ _ _ hsw]
 refine wpAny_bind (wpAny_standAt (wpAny_bind ?_))
 show wpAny _ X.A (do let _<-comprehension ↥35 sc X.env _ (newList []) false (eval iter X.env) (some (assign (.Name y py) X.env))) _ _ s
 refine wpAny_bind (wpAny_mono (nz (Q:=fun _ _=>True) (Qf:=fun _ s'=>SP X pins D .next s') hc Cx.sc CE SC hks hlt hcell he TT htg htst helt hs (use:=some (assign (.Name y py) X.env)) I S.view ?_ ?_) (fun _ s' hq=>wpAny_pure (wpAny_pure hq)) fun _ _ e=>e)
 ·cases r:ce (view δ) with
  | ok d=>exact fun _ _ _ _=>trivial
  | ex C=>rw [r] at q;exact fun Ca hc H' s'=>q σ H' ((bp H os).trans s') (S.noOwn ((bp H os).trans s')) Ca hc
  | bad=>rw [r] at q;exact False.elim q
 ·intro s1 Hc A C ys rs e1 fl hA hAc rr sm _ fC I1 ⟨m,ns⟩ _
  rw [e1] at q
  obtain ⟨S2,sm2⟩:=S.adopt sm hi hA hAc rr fl
  refine thn (xf (a:=A) (py:=py) Cx hN hy I1 fC ns) fun _ s2 ⟨m2,ns2,hq⟩=>⟨m2,ns2,fun h' sb=>⟨_,Hc,hq h' sb,q _ _ _ S2 sm2⟩⟩
theorem lA (Cx:Sx X N) (hc:X.calm=true) (i:Nat) {y:Str} {py spos:Pos} (hN:N[i]? = some y) (hy:Sto X y) {x:Str} {ksn G:List Str} {ks:List Nat} {elt iter:Expr} {ifs:List Expr} {px:Pos} {sc:Scope} {git:IT} {gt ge':E} (SC:ScU [x] ksn G sc)
  (hks:ks.map (fun k=>N.getD k "")=ksn) (hlt:∀ k∈ks,k<N.length) (hcell:∀ y∈ksn,X.env.scope.names.lookup y=some .cell)
  (he:SI X (.Name x px) iter git)
  (htst:∀ C fp s H W,Sc ↥18 ([x]++ksn)->(∀ y∈G,Gb ↥18 y)->Tst ↥18 ifs gt)
  (helt:∀ C fp s H W,Sc ↥18 ([x]++ksn)->(∀ y∈G,Gb ↥18 y)->SE ↥18 elt ge')
  (hsw:swapsWith (.ListComp elt [⟨.Name x px,iter,ifs,0⟩] sc pos) (some (.Name y py)) spos.line X.env=pure true)
  (hs:∀ z,foldedSetIterable iter X.env z=pure z:=by intro _;rfl) :
  SS X (.Assign [.Name y py] (.ListComp elt [⟨.Name x px,iter,ifs,0⟩] sc pos) spos) (eH i (gx git ks gt ge')) :=
 vx Cx hc i hN hy qC SC hks hlt hcell he Ma tg1 htst helt hsw hs
end
end ES
namespace ES
open PySem PySem.Spec PyProof.Rows L2 EV
unseal SE ST SW SA SS SSs SI SO
def RF (X:Cx) (σ:L2.St) (H:Hp) (r:R D) (Q:VK):Prop:=match r with
 | .ok (.lst rs)=>∀ a xs H',aC H H'->H a=none->H' a=some (.lst xs)->Reps X.K X.mg H' xs rs->EV.D.flats rs=true->Q (.ref a) H'
 | .ex C=>∀ Ca,X.mg C=some (.ref Ca)->∀ H',aC H H'->ew X Ca σ H'
 | _=>False
def FE (X:Cx) (e:Expr) (g:E):Prop:=PE X e fun σ H Q=>∃ δ,Stt X.K X.mg H σ δ/\RF X σ H (g δ) Q
def OQF (X:Cx) (D:Ends) (F:Hp):O->Prop
 | .rt (.lst rs)=>∀ a xs H,aC F H->F a=none->H a=some (.lst xs)->Reps X.K X.mg H xs rs->EV.D.flats rs=true->D.rt (.ref a) H
 | .rt _=>False
 | o=>OQ X D F o
def tSF (X:Cx) (g:S):TS:=fun D σ H=>∃ δ os,StO X H σ δ os/\OQF X D ↥26 (g δ)
@[irreducible] def SSF (X:Cx) (st:List Stmt) (g:S):Prop:=PSs X st (tSF X g)
unseal SSF
section
variable {X:Cx} {N:List Str}
variable {st:Stmt} {rest:List Stmt} {gs gr:S} {e:Expr} {g:E} {pos:Pos}
theorem xh {H Hc:Hp} {os:Os} (hn:∀ a∈j5 os,Hc a=none):aC Hc (fz H Hc os):=fun b o q=>by
 unfold fz
 rw [if_neg fun z=>by rw [hn b z] at q;cases q]
 exact q
end
def spF (K:PySem.W.Frag) (mg:Str->Option Value) (f:List D->R D):Sp:=fun vs H Q E=>∃ ds,Reps K mg H vs ds/\match f ds with
 | .ok (.lst rs)=>∀ a xs H',aC H H'->H a=none->H' a=some (.lst xs)->Reps K mg H' xs rs->EV.D.flats rs=true->Q (.ref a) H'
 | .ex C=>∀ Ca,mg C=some (.ref Ca)->∀ H',aC H H'->E (.ref Ca) none H'
 | _=>False
structure FnF (P:Program) (w:World) (K:PySem.W.Frag) (mg:Str->Option Value) (base:Heap) (x:Str) (k:Nat) (f:List D->R D):Prop where
 ex:∃ fa fd ps,FnOk P w K mg base (CXF P w) k fa fd ps (spF K mg f)/\mg x=some (.ref fa)/\PySem.W.keepIn K (.ref fa)=true/\Binds K fd ps []
structure CalleeF (X:Cx) (x:Str) (f:List D->R D):Prop where
 ex:∃ k fa fd ps,FnOk X.prog X.w X.K X.mg X.base (CXF X.prog X.w) k fa fd ps (spF X.K X.mg f)/\Room k X.A/\X.mg x=some (.ref fa)/\PySem.W.keepIn X.K (.ref fa)=true/\Binds X.K fd ps []
section
variable {X:Cx} {N:List Str} {x:Str} {f:List D->R D} {e:Expr} {es:List Expr} {gs:List E} {p pos:Pos} {g:E}
theorem xu (C:Sx X N) (i:Nat) {y:Str} {pos':Pos} (hN:N[i]? = some y) (hy:Sto X y) (h:FE X e g) (hsw:swapsWith e (some (.Name y pos')) pos.line X.env=pure false:=by rfl):SS X (.Assign [.Name y pos'] e pos) (oJ i g):=by
 intro pins s σ H D I ⟨δ,os,S,q⟩
 have hi:i<σ.length:=by
  rw [I.len,C.sc.n]
  exact (List.getElem?_eq_some_iff.mp hN).1
 have hl:=S.lsts
 unfold oJ zP at q
 refine wpAny_Assign_Name (thn (h _ s σ _ (fun v Hc=>∃ a xs rs,v=.ref a/\g δ=.ok (.lst rs)/\aC ↥26 Hc/\hide H os a=none/\Hc a=some (.lst xs)/\Reps X.K X.mg Hc xs rs/\EV.D.flats rs=true) (kS I hl) ⟨δ,S.st,?_⟩) fun u s1 ⟨v,Hc,I1,rv,a,xs,rs,ev,eg,sm,hn,ha,rr,fl⟩ => ?_) hsw
 ·cases r:g δ with
  | ok d =>
   rw [r] at q
   cases d with
   | lst rs=>exact fun a xs H' sm hn ha rr fl=>⟨a,xs,rs,rfl,rfl,sm,hn,ha,rr,fl⟩
   | _=>exact False.elim q
  | ex C=>rw [r] at q;exact fun Ca hc H' s'=>q σ H' s' (S.noOwn s') Ca hc
  | bad=>rw [r] at q;exact False.elim q
 ·obtain ⟨I2,hz⟩:=kR C.ex I hl I1
  rw [eg] at q
  subst ev
  have ss:=xh (H:=H) hz
  have na:a∉j5 os:=fun z=>by rw [hz a z] at ha;cases ha
  have sH:aC H (fz H Hc os):=fun b o e=>by
   unfold fz
   by_cases hb:b∈j5 os
   ·rw [if_pos hb];exact e
   ·rw [if_neg hb]
    exact sm b o (by rw [cG hb];exact e)
  obtain ⟨S2,sm2⟩:=S.adopt (i:=i) sH hi (by rw [cG na] at hn;exact hn) (ss a _ ha) (rr.mono ss) fl
  exact og I2 (by rw [C.sc.n];exact C.sc.nd) (by rw [C.sc.n];exact hN) hy.1 rv (fun s2 I3=>⟨_,_,I3,q _ _ _ S2 sm2⟩) hy.2
end
end ES
namespace EV
def pQ (k:Int):List D->R D
 | [.lst ds]=>match intsOf ds with
  | some []=>.ok (.int k)
  | some (n::ns)=>.ok (.int (ns.foldl min n))
  | none=>.bad
 | _=>.bad
def qS:List D->R D
 | [.lst ds]=>eI ds
 | [.tup ds]=>eI ds
 | _=>.bad
def boolsOf:List D->Option (List Bool)
 | []=>some []
 | .bl b::r=>(boolsOf r).map (b::·)
 | _=>none
def Gi:List D->R D
 | [.lst ds]=>match boolsOf ds with | some bs=>.ok (.bl (bs.any id)) | none=>.bad
 | _=>.bad
def Gz (i:Nat) (δ:Dt) (ds:List D) (r:R D):O:=match r with
 | .ok (.tup es)=>if D.flats es=true/\ds.length+es.length<=100000 then .nx (δ.set i (some (.own (ds++es)))) else .bad
 | .ex C=>.ex C (noOwn δ)
 | _=>.bad
def jX (i:Nat) (g:E):S:=fun δ=>kC i δ fun ds=>Gz i δ ds (g (view δ))
theorem Aq:jX i g δ=kC i δ fun ds=>Gz i δ ds (g (view δ)):=rfl
end EV
namespace ES
open PySem PySem.Spec PyProof.Rows L2 EV
unseal SE ST SW SA SS SSs SI SO
section
variable {X:Cx} {N:List Str} {e:Expr} {g:E} {pos:Pos}
end
end ES
namespace ES
open PySem PySem.Spec PyProof.Rows L2 EV
unseal SE ST SW SA SS SSs SI SO
section
variable {prog:Program} {w:World} {A:Around} {R:Result->Shared->Prop} {I:Addr} {fp wr:List Addr} {n:Nat} {P:Nat->Value->Prop} {St:Nat->Heap->Prop}
abbrev dfl (d:Value):List (Str×Value):=[(Str.ofString "default",d)]
theorem oP:(toString "min"++toString ".loop":String)="min.loop":=by decide
theorem yy (W:Walks prog w A.in1 I fp wr n P St) (bt:Nat->Nat->Bool) (hcmp:CmpOf prog w A.in1 .Lt P bt) (S:Addr) (hSf:S∉fp) :
  ∀ (k j:Nat) (s:Shared) (vb:Value) (c:Nat),n - (j+1)=k->j+1<=n->St (j+1) s.heap->P (argBest bt j) vb->s.heap.get? S=some { cls:=.type "list",dict:=none,data:=.seq #[vb,vb] c,slots := #[] } ->
   (∀ v h' tk,P (argBest bt (n - 1)) v->(∀ b o,b∉wr->b≠S->s.heap.get? b=some o->h'.get? b=some o)->R (.ok (.ret v)) { s with heap:=h',toks:=tk }) ->
   codeAny ↥22 A (.builtin "min.loop" ⟨[.ref I,.none,.ref S],dfl d⟩) R s:=by
 have hSw:S∉wr:=fun z=>hSf (W.sub _ z)
 intro k
 induction k with
 | zero =>
  intro j s vb c hk hj hst hPb hS hR
  have hin:j+1=n:=⋯
  refine codeAny_builtin PySem.F.entry_min_loop ?_;rw [Around.under_plainId PySem.F.plain_min_loop _]
  (show wpAny _ A.in1 (seqItems? (.ref S) >>= _) _ _ s);refine wpAny_bind (wpAny_seqItems hS rfl ?_)
  (show wpAny _ A.in1 (tryCatch (pyNext (.ref I)) _ >>= _) _ _ s);refine wpAny_bind (wpAny_tryCatch (W.done s _ _ (hin▸hst) fun h' tk hk' => ?_))
  have hS':=hk' S _ hSw hS
  (show wpAny _ A.in1 (updateSeq S (fun _ => #[]) >>= _) _ _ _);refine wpAny_bind ?_;refine wpAny_updateSeq hS' rfl (wpAny_bind (wpAny_letGo (wpAny_pure ?_)))
  exact hR vb _ tk (by rw [<- hin];exact hPb) fun b o hbw hbS e=>(Heap.get?_update_other _ _ (Ne.symm hbS)).trans (hk' b o hbw e)
 | succ k ih =>
  intro j s vb c hk hj hst hPb hS hR
  have hlt:j+1<n:=⋯
  refine codeAny_builtin PySem.F.entry_min_loop ?_;rw [Around.under_plainId PySem.F.plain_min_loop _]
  (show wpAny _ A.in1 (seqItems? (.ref S) >>= _) _ _ s);refine wpAny_bind (wpAny_seqItems hS rfl ?_)
  (show wpAny _ A.in1 (tryCatch (pyNext (.ref I)) _ >>= _) _ _ s);refine wpAny_bind (wpAny_tryCatch (W.item (j+1) s _ _ hlt hst fun v h' tk hP hst' hk' => ?_))
  have hS':=hk' S _ hSw hS
  (show wpAny _ A.in1 (tryCatch (holding [v,v] (richCompare .Lt v vb >>= _)) _ >>= _) _ _ _);refine wpAny_bind (wpAny_tryCatch (wpAny_holding (wpAny_bind (hcmp (j+1) (argBest bt j) v vb _ _ _ hP hPb ?_))))
  refine wpAny_bind (wpAny_holding (wpAny_truthy_bool ?_));refine wpAny_bind (wpAny_letGo (wpAny_pure ?_))
  cases hb:bt (j+1) (argBest bt j) with
  | true =>
   simp only [if_true];refine wpAny_bind ?_;refine wpAny_updateSeq hS' rfl (wpAny_bind (wpAny_letGo ?_));rw [oP]
   refine wpAny_pure ⟨plainId_quiet PySem.F.plain_min_loop _,ih (j+1) _ v _ ⋯ hlt (W.frame _ _ _ hst' fun b hbf o e => ?_) (by simp only [argBest,hb,if_true];exact hP) (Heap.get?_update_self _ hS' rfl) fun v' h'' tk'' hP' hk'' => ?_⟩
   ·exact (Heap.get?_update_other _ _ (fun z:S=b=>hSf (by rw [z];exact hbf))).trans e
   ·exact hR v' h'' tk'' hP' fun b o hbw hbS e=>hk'' b o hbw hbS ((Heap.get?_update_other _ _ (Ne.symm hbS)).trans (hk' b o hbw e))
  | false =>
   simp only [Bool.false_eq_true,if_false];refine wpAny_bind (wpAny_letGo ?_);rw [oP]
   exact wpAny_pure ⟨plainId_quiet PySem.F.plain_min_loop _,ih (j+1) _ vb c ⋯ hlt hst' (by simp only [argBest,hb,Bool.false_eq_true,if_false];exact hPb) hS' fun v' h'' tk'' hP' hk''=>hR v' h'' tk'' hP' fun b o hbw hbS e=>hk'' b o hbw hbS (hk' b o hbw e)⟩
theorem vJ (W:Walks prog w A.in1 I fp wr n P St) (bt:Nat->Nat->Bool) (hcmp:CmpOf prog w A.in1 .Lt P bt) (S:Addr) (hSf:S∉fp) (hst:St 0 s.heap)
  (hS:s.heap.get? S=some { cls:=.type "list",dict:=none,data:=.seq #[] c,slots := #[] })
  (h0:n=0->∀ h' tk,(∀ b o,b∉wr->s.heap.get? b=some o->h'.get? b=some o)->R (.ok (.ret d)) { s with heap:=h',toks:=tk })
  (hR:0<n->∀ v h' tk,P (argBest bt (n - 1)) v->(∀ b o,b∉wr->b≠S->s.heap.get? b=some o->h'.get? b=some o)->R (.ok (.ret v)) { s with heap:=h',toks:=tk }) :
  codeAny ↥22 A (.builtin "min.loop" ⟨[.ref I,.none,.ref S],dfl d⟩) R s:=by
 have hSw:S∉wr:=fun z=>hSf (W.sub _ z)
 refine codeAny_builtin PySem.F.entry_min_loop ?_;rw [Around.under_plainId PySem.F.plain_min_loop _]
 (show wpAny _ A.in1 (seqItems? (.ref S) >>= _) _ _ s);refine wpAny_bind (wpAny_seqItems hS rfl ?_)
 by_cases hn:n=0
 ·(show wpAny _ A.in1 (tryCatch (pyNext (.ref I)) _ >>= _) _ _ s);refine wpAny_bind (wpAny_tryCatch (W.done s _ _ (hn▸hst) fun h' tk hk' => ?_))
  (show wpAny _ A.in1 (rule _ >>= _) _ _ _);refine wpAny_bind (wpAny_rule (wpAny_pure ?_))
  exact h0 hn h' tk hk'
 ·(show wpAny _ A.in1 (tryCatch (pyNext (.ref I)) _ >>= _) _ _ s);refine wpAny_bind (wpAny_tryCatch (W.item 0 s _ _ ⋯ hst fun v h' tk hP hst' hk' => ?_))
  have hS':=hk' S _ hSw hS
  (show wpAny _ A.in1 (updateSeq S (fun _ => #[v,v]) >>= _) _ _ _);refine wpAny_bind ?_;refine wpAny_updateSeq hS' rfl ?_;rw [oP]
  refine wpAny_pure ⟨plainId_quiet PySem.F.plain_min_loop _,yy W bt hcmp S hSf _ 0 _ v _ rfl ⋯ (W.frame _ _ _ hst' fun b hbf o e => ?_) hP (Heap.get?_update_self _ hS' rfl) fun v' h'' tk'' hP' hk'' => ?_⟩
  ·exact (Heap.get?_update_other _ _ (fun z:S=b=>hSf (by rw [z];exact hbf))).trans e
  ·exact hR ⋯ v' h'' tk'' hP' fun b o hbw hbS e=>hk'' b o hbw hbS ((Heap.get?_update_other _ _ (Ne.symm hbS)).trans (hk' b o hbw e))
end
section
variable {prog:Program} {w:World} {A:Around} {E:Value->Shared->Prop} {s:Shared} {l:Addr} {xs:Array (Int×Tok)}
theorem Fu (h1:builtinKind i=none) (h2:plainId i=true) (h3:entryFor table i=some f) (h4:argsOk i ⟨us,ks⟩)
  (h:wpAny ↥22 A.in1 (f ⟨us,ks⟩) (fun x s'=>match x with | .done r=>(match (Except.ok r:Result) with | .ok (.ret v)=>Q v s' | .ok _=>False | .error e=>E e s') | .again c=>c.quiet=true/\codeAny ↥22 A c (fun r s'=>match r with | .ok (.ret v)=>Q v s' | .ok _=>False | .error e=>E e s') s') E s) :
  wpAny ↥22 A (call (.builtin i) us ks) Q E s:=by
 refine wpAny_call (codeAny_call_builtin h2 h3 ?_);simp only [checkBuiltinCall,h1]
 cases q:Manifest.signature? i with
 | none=>exact wpAny_pure h
 | some sg=>simp only [show Bind.checkArgs i sg ⟨us,ks⟩=pure () by simpa only [argsOk,q] using h4];exact wpAny_pure h
theorem zA (a v:Value):argsOk "min" ⟨[a],dfl v⟩:=by unfold argsOk;kernel_rfl
theorem yz (hh:A.handled=none) (hl:s.heap.IsList l (intItems xs))
  (h:∀ v h' tk,(xs.size=0/\v=d\/0<xs.size/\(intItems xs)[argBest (fun i j=>decide (numAt xs i<numAt xs j)) (xs.size - 1)]? = some v)->(∀ b o,s.heap.get? b=some o->h'.get? b=some o)->Q v { s with heap:=h',toks:=tk }) :
  wpAny ↥22 A (call (.builtin "min") [.ref l] (dfl d)) Q E s:=by
 refine Fu PySem.F.kind_min PySem.F.plain_min PySem.F.entry_min (zA _ _) ?_
 (show wpAny _ A.in1 (Builtin.Builtins.bindParams "min" ["key","default"] 0 ⟨[],dfl d⟩ >>= _) _ _ s);refine wpAny_bind (wpAny_of_eq (show Builtin.Builtins.bindParams "min" ["key","default"] 0 ⟨[],dfl d⟩=pure [none,some d] from rfl) ?_)
 refine wpAny_bind (wpAny_pure ?_);refine wpAny_bind (iter_intList hl fun s₂ e st hfp hlI => ?_)
 subst e
 refine wpAny_bind (wpAny_newObj_type ?_);rw [oP]
 have hz:(intItems xs).size=xs.size:=by simp [intItems]
 refine wpAny_pure ⟨plainId_quiet PySem.F.plain_min_loop _,vJ (Walks.list (A:=A.in1) hh _ l hlI (intItems xs)) _ (CmpOf.ints_lt (numAt xs) (fun _ _=>intItems_at)) _ (fun z=>Nat.lt_irrefl _ (hfp _ z)) ((Walks.list (prog:=prog) (w:=w) (A:=A.in1) hh _ l hlI (intItems xs)).frame _ _ _ st fun b _ o e=>Heap.get?_push_of_some _ e) (Heap.get?_push_size _ rfl) (fun z h' tk hk => ?_) fun z v h' tk hP hk => ?_⟩
 ·exact h d h' tk (.inl ⟨by rw [<- hz];exact z,rfl⟩) (old_kept (l:=l) fun b o hb e=>hk b o hb (Heap.get?_push_of_some _ e))
 ·exact h v h' tk (.inr ⟨by rw [<- hz];exact z,by rw [<- hz];exact hP⟩) (old_kept (l:=l) fun b o hb e=>hk b o hb (Nat.ne_of_lt (Heap.lt_size e)) (Heap.get?_push_of_some _ e))
end
theorem uI {f:Nat->Int} {n:Int} {ns:List Int} (h0:f 0=n) (h1:∀ i,i<ns.length->ns[i]? = some (f (i+1))):∀ k,k<=ns.length->f (argBest (fun i j=>decide (f i<f j)) k)=(ns.take k).foldl min n
 | 0,_=>by rw [List.take_zero];exact h0
 | k+1,hk=>by
  have ih:=uI h0 h1 k ⋯
  rw [List.take_succ,h1 k ⋯,List.foldl_append]
  show f (if decide (f (k+1)<f (argBest _ k))=true then k+1 else argBest _ k)=min ((ns.take k).foldl min n) (f (k+1))
  rw [<- ih]
  by_cases g:f (k+1)<f (argBest (fun i j=>decide (f i<f j)) k)
  ·rw [if_pos (by simpa using g)];omega
  ·rw [if_neg (by simpa using g)];omega
section
variable {X:Cx} {N:List Str} {e:Expr} {g:E} {pos:Pos}
theorem IM:NoX (pQ k):=fun ds C z=>by
 unfold pQ at z
 split at z
 ·split at z<;>cases z
 ·cases z
theorem JN (hc:X.calm=true) {k:Int} {t:Tok} (pins:List ↥12) (s:Shared) (σ:L2.St) (H:Hp) (xs:List V) (us:List Value) (Q:VK) (I:Inv X pins σ H s) (rs:Vals xs us) (h:rC X (pQ k) xs H Q) :
  wpAny ↥7 X.A (call (.builtin "min") us (dfl (.int k t))) (EP X pins σ Q) X.xe s:=by
 obtain ⟨ds,d,r,e,q⟩:=h
 unfold pQ at e
 split at e
 ·rename_i ds'
  cases hns:intsOf ds' with
  | none=>rw [hns] at e;cases e
  | some ns =>
   obtain ⟨v,rfl,r1⟩:=sf r
   cases r1 with
   | @lst a ys _ hq rr =>
    obtain ⟨its,rv,pl,_⟩:=I.list hq
    obtain ⟨ts,e1,e2⟩:=qu hns rr rv
    cases rs with
    | cons h1 h2 =>
     cases h2
     cases h1
     have hl:s.heap.IsList a (intItems ts.toArray):=by
      have:=pl.isList
      rw [e1] at this
      rw [show intItems ts.toArray=(ts.map fun p=>Value.int p.1 p.2).toArray by simp [intItems]]
      exact this
     refine yz (I.ok.hd hc) hl fun v h' tk hv hk => ?_
     have fin:∀ (m:Int) (t':Tok),v=.int m t'->d=.int m->EP X pins σ Q v { s with heap:=h',toks:=tk }:=fun m t' ev ed=>by
      subst ev ed
      exact ⟨.int m,H,I.kept (t':=tk) hk,⟨_,rfl⟩,q _ _ ↥25 (.int _)⟩
     have hlen:ts.length=ns.length:=by rw [<- e2,List.length_map]
     cases ns with
     | nil =>
      rw [hns] at e
      rcases hv with ⟨_,hv⟩ | ⟨z,_⟩
      ·exact fin k t hv (R.ok.inj e).symm
      ·rw [List.size_toArray,hlen] at z;exact absurd z (Nat.lt_irrefl 0)
     | cons n ns =>
      rw [hns] at e
      rcases hv with ⟨z,_⟩ | ⟨_,hv⟩
      ·rw [List.size_toArray] at z;rw [z] at hlen;cases hlen
      ·obtain ⟨t',ev⟩:=intItems_at hv
       have at_:∀ i,numAt ts.toArray i=((n::ns)[i]?).getD 0:=fun i=>by
        rw [<- e2];unfold numAt;simp
       have bm:=uI (f:=numAt ts.toArray) (n:=n) (ns:=ns) (by rw [at_];rfl) (fun i hi=>by rw [at_];simp [List.getElem?_eq_getElem hi]) ns.length ↥37
       rw [List.take_length] at bm
       have hs:ts.toArray.size - 1=ns.length:=by rw [List.size_toArray,hlen,List.length_cons];omega
       rw [hs,bm] at ev
       exact fin _ t' ev (R.ok.inj e).symm
 ·cases e
theorem JI (hc:X.calm=true) (G:Gb X "min") (hm:X.mg "min"=none) {j} (ha:SA X [e] [g])
  (he:backTo pos (starEach [e] X.env)=↥38::backTo pos (starEach [] X.env):=by rfl) (hpl:(backTo pos (starEach [e] X.env)).any (·.1)=false:=by rfl) :
  SE X (.Call (.Name "min" p) [e] [⟨some "default",.Constant (.int k) j cp,kp⟩] pos) (EV.call (pQ k) [g]):=by
 intro pins s σ H Q I ⟨δ,hσ,q⟩
 refine wpAny_Call_Name_kw (qq I G.g hm boot_min ?_ G.n G.d)
 refine callWith_kw (thn (ha pos pins s σ H (fun vs H'=>∃ ds,aC H H'/\Reps X.K X.mg H' vs ds/\RQ X σ H' (pQ k ds) Q) I ⟨δ,hσ,?_⟩) fun us s1 ⟨vs,H1,I1,r1,ds,s01,rp,q1⟩ => ?_) he hpl
 ·exact (RA.bind q).to fun vs H' s ⟨s',ds,rs,q⟩=>⟨ds,s',rs,q⟩
 ·refine kws_cons (thn (ai pins s1 σ H1 (fun v H'=>v=.int k/\aC H1 H') I1 ⟨δ,hσ.mono s01,fun v H' s' r=>by cases r;exact ⟨rfl,s'⟩⟩) fun u s2 ⟨v,H2,I2,rv,ev,sm⟩=>kws_nil ?_)
  subst ev
  obtain ⟨t,rfl⟩:=rv
  obtain ⟨ds',d,r,e',q'⟩:=RQ.cl IM rp q1
  exact JN hc pins s2 σ H2 vs us Q I2 r1 ⟨ds',d,r.mono sm,e',fun v H' s'=>q' v H' (sm.trans s')⟩
end
end ES
namespace ES
open PySem PySem.Spec PyProof.Rows L2 EV
unseal SE ST SW SA SS SSs SI SO
set_option maxRecDepth 8000 in
theorem FJ (a:Addr) (xs:Array Value) (k:Nat) (t:Addr) (ys:Array Value) (m:Nat) (dd:Option Addr) (sl:Array (Option Value)) (z0:¬(!xs.isEmpty&&Builtin.List.listTooLong (xs.size+ys.size))=true) (z1:xs.size<=sizeLine) (z2:xs.size+ys.size<=sizeLine+1) :
  Meets (Builtin.«list.extend» ⟨[.ref a,.ref t],[]⟩) (fun _ R s=>s.heap.get? a=some { cls:=.type "list",dict:=none,data:=.seq xs k,slots := #[] }/\s.heap.get? t=some { cls:=.type "tuple",dict:=dd,data:=.seq ys m,slots:=sl }/\R (.ok (.ret Value.none)) { s with heap:=s.heap.update a (Obj.mapSeq fun x=>x++ys),toks:=s.toks }) :=
 .of_wp fun prog w A R s q=>by
  obtain ⟨hp,g,d,tk,os⟩:=s;obtain ⟨ha,ht,q⟩:=q;have f1:=PySem.AutoSeq1.idx_int;have f2:=PySem.AutoSeq1.sub_tuple_tuple;have f3:=PySem.AutoSeq1.sub_list_list;have f4:=PySem.AutoSeq1.sub_tuple_list;have f5:=PySem.AutoSeq1.sub_list_tuple
  have z3:(xs++ys).size<=sizeLine+1:=by rw [Array.size_append];exact z2
  wp_walk using (wpAny_updateSeq ha rfl (hz:=z1) (_hz':=z3)),PySem.AutoSeq1.wpAny_loadPart' ha,PySem.AutoSeq1.wpAny_loadPart' ht;exact ⟨_,rfl,q⟩
section
variable {X:Cx} {N:List Str} {e:Expr} {g:E} {pos:Pos}
def KY (X:Cx):V->List V->Hp->VK->Prop:=fun x vs H Q=>∃ l b xs zs,x=.ref l/\vs=[.ref b]/\H l=some (.lst xs)/\SqT X.K H b zs/\xs.length+zs.length<=sizeLine/\Q .non (upd H l (.lst (xs++zs)))
theorem Fp:MtM X "list.extend" (KY X):=by
 intro pins s σ H x vs v us Q I rx rv h
 obtain ⟨l,b,xs,zs,rfl,rfl,hH,hB,hz,q⟩:=h
 cases rx
 obtain ⟨u,rfl,ru⟩:=rv.one
 cases ru
 obtain ⟨z,its,n,r,hl,e⟩:=I.lstM hH
 obtain ⟨its2,r2,⟨⟨cl,dd,da,sl⟩,e2,hc,n2,hd⟩,hl2⟩:=I.tuple hB
 simp only at hc hd
 subst hc hd
 have hl3:=r2.length
 have hsz:its.toArray.size+its2.toArray.size<=sizeLine:=by rw [List.size_toArray,List.size_toArray];omega
 have hlong:¬ (!its.toArray.isEmpty&&Builtin.List.listTooLong (its.toArray.size+its2.toArray.size))=true:=by rw [Br hsz,Bool.and_false];exact Bool.false_ne_true
 refine call_meets PySem.F.slot_list_extend ⟨_,e,rfl⟩ PySem.F.entry_list_extend (PySem.F.args_list_extend_2 _ _) (FJ l its.toArray n b its2.toArray n2 dd sl hlong (by rw [List.size_toArray];omega) ⋯) ⟨e,e2,?_⟩
 exact ⟨.non,_,I.lset (its':=its++its2) hH e (by simp) (r.append r2) (by rw [List.length_append];omega),rfl,q⟩
theorem AK (C:Sx X N) (i:Nat) (hN:N[i]? = some x) (he:SE X e g)
  (hbase:attributeBase (.Name x p1) "extend" X.env (eval (.Name x p1) X.env)=eval (.Name x p1) X.env:=by rfl)
  (hfew:((backTo p3 (starEach [e] X.env)).all (fun x => !x.1)&&(backToKw p3 (keywordEach [] X.env)).all (fun x=>x.1.isSome)
   && decide ([e].length+([]:List Keyword).length+(if ([]:List Keyword).isEmpty then 0 else 1)<30))=true:=by rfl)
  (hline:(p2.endLine == p3.line)=true:=by rfl) (hs:starEach [e] X.env=[↥38]:=by rfl)
  (hsw:swapsWith (.Call (.Attribute (.Name x p1) "extend" p2) [e] [] p3) none pos.line X.env=pure false:=by rfl) :
  SS X (.Expr (.Call (.Attribute (.Name x p1) "extend" p2) [e] [] p3) pos) (jX i g):=by
 have hm:x∈N:=List.mem_of_getElem? hN
 refine PS.weak (xF (Lc PySem.F.plainAttrs_list PySem.F.slot_list_extend PySem.F.type_list_extend Fp (uf (i:=i) (by rw [C.sc.n];exact hN) (C.sc.vis x hm) (C.sc.dbg x hm).1 (C.sc.dbg x hm).2) (oH (F5 he) uh hs) hbase hfew hline hs (by rfl)) hsw) fun D σ H ⟨δ,os,S,q⟩ => ?_
 unfold jX kC at q
 split at q
 ·rename_i ds ei
  obtain ⟨a,ha⟩:=S.own i ds ei
  obtain ⟨xs,ds',h1,h2,h3,h4⟩:=S.lst _ ha
  rw [ei] at h3
  cases h3
  refine ⟨.ref a,h2,.inl ⟨rfl,xs,SqL.of h1⟩,δ,os,S,?_,?_⟩
  ·intro d ed
   unfold Gz at q
   rw [ed] at q
   cases d with
   | tup es =>
    simp only at q
    split at q
    ·rename_i z;exact z.1
    ·exact False.elim q
   | _=>exact False.elim q
  ·unfold Gz at q
   cases r:g (view δ) with
   | ok d =>
    rw [r] at q
    cases d with
    | tup es =>
     simp only at q
     split at q
     ·rename_i z
      intro v H' S' sm rp
      obtain ⟨xs',ds',k1,k2,k3,k4⟩:=S'.lst _ ha
      rw [ei] at k3
      cases k3
      cases rp with
      | @tup b ys _ hq rr =>
       refine ⟨a,b,xs',ys,rfl,rfl,k1,gh (bp _ _) hq,by rw [k4.length,rr.length,sizeLine_eq];omega,?_⟩
       have S2:=S'.write ha (k4.append rr)
       exact q _ _ _ S2 (by rw [uu (jr ha)];exact sm)
     ·exact False.elim q
    | _=>exact False.elim q
   | ex C=>rw [r] at q;exact fun Ca hc H' s' st=>q σ H' s' st Ca hc
   | bad=>rw [r] at q;exact False.elim q
 ·exact False.elim q
theorem FH (G:Gb X "list") (hm:X.mg "list"=none) (h:SE X e g) (he:starEach [e] X.env=[↥38]:=by rfl) (hpl:(backTo pos (starEach [] X.env)).any (·.1)=false:=by rfl) :
  FE X (.Call (.Name "list" p) [e] [] pos) (EV.call qS [g]):=by
 refine PE.weak (xK qE G.g hm boot_list (oH h uh he) G.n G.d he hpl) fun σ H Q ⟨δ,hσ,q⟩=>⟨δ,hσ,?_⟩
 unfold EV.call at q
 have fin:∀ {H':Hp} {a:Addr} {ys:List V} {ds:List D},RF X σ H (eI ds) Q->aC H H'->(SqL X.K H' a ys\/SqT X.K H' a ys)->Reps X.K X.mg H' ys ds->∃ p zs,[V.ref a]=[V.ref p]/\(SqL X.K H' p zs\/SqT X.K H' p zs)/\∀ l,H' l=none->Q (.ref l) (upd H' l (.lst zs)):=by
  intro H' a ys ds q sm hq rr
  unfold eI at q
  split at q
  ·rename_i fl
   have q':∀ a xs H'',aC H H''->H a=none->H'' a=some (.lst xs)->Reps X.K X.mg H'' xs ds->EV.D.flats ds=true->Q (.ref a) H'':=q
   exact ⟨a,ys,rfl,hq,fun l hl=>q' l ys _ (sm.trans (bP hl _)) (by
    cases z:H l with
    | none=>rfl
    | some o=>rw [sm l o z] at hl;cases hl) bO (rr.mono (bP hl _)) fl⟩
  ·exact False.elim q
 cases r:g δ with
 | ok d =>
  have ev:evs [g] δ=.ok [d]:=by unfold evs;rw [r];rfl
  rw [ev] at q
  simp only [R.bind] at q
  intro v H' sm rp
  cases d with
  | tup ds =>
   cases rp with
   | @tup a ys _ hq rr=>exact fin q sm (.inr hq) rr
  | lst ds =>
   cases rp with
   | @lst a ys _ hq rr=>exact fin q sm (.inl hq) rr
  | _=>exact False.elim q
 | ex C =>
  have ev:evs [g] δ=.ex C:=by unfold evs;rw [r];rfl
  rw [ev] at q
  exact q
 | bad =>
  have ev:evs [g] δ=.bad:=by unfold evs;rw [r];rfl
  rw [ev] at q
  exact False.elim q
theorem Lw:NoX Gi:=fun ds C z=>by
 unfold Gi at z
 split at z
 ·split at z<;>cases z
 ·cases z
theorem nC:∀ {xs:List V} {ds:List D} {bs:List Bool} {us:List Value},boolsOf ds=some bs->Reps X.K X.mg H xs ds->Vals xs us->us=bs.map Value.bool
 | _,[],_,_,e,.nil,.nil=>by cases e;rfl
 | _,.bl b::r,bs,_,e,.cons h t,.cons h' t'=>by
  cases h
  unfold boolsOf at e
  cases q:boolsOf r with
  | none=>rw [q] at e;cases e
  | some ms =>
   rw [q] at e
   have e':b::ms=bs:=Option.some.inj e
   subst e'
   cases h'
   rw [nC q t t',List.map_cons]
 | _,.non::_,_,_,e,_,_=>by cases e
 | _,.int _::_,_,_,e,_,_=>by cases e
 | _,.str _::_,_,_,e,_,_=>by cases e
 | _,.tup _::_,_,_,e,_,_=>by cases e
 | _,.lst _::_,_,_,e,_,_=>by cases e
 | _,.own _::_,_,_,e,_,_=>by cases e
 | _,.ty _::_,_,_,e,_,_=>by cases e
 | _,.cls _::_,_,_,e,_,_=>by cases e
 | _,.exc _::_,_,_,e,_,_=>by cases e
 | _,.ins _ _::_,_,_,e,_,_=>by cases e
theorem LR (hc:X.calm=true):iJ X (.builtin "any") (rC X Gi):=by
 intro pins s σ H xs us Q I rs ⟨ds,d,r,e,q⟩
 unfold Gi at e
 split at e
 ·rename_i ds'
  cases hbs:boolsOf ds' with
  | none=>rw [hbs] at e;cases e
  | some bs =>
   rw [hbs] at e
   cases e
   obtain ⟨v,rfl,r1⟩:=sf r
   cases r1 with
   | @lst a ys _ hq rr =>
    obtain ⟨its,rv,pl,_⟩:=I.list hq
    have e1:=nC hbs rr rv
    cases rs with
    | cons h1 h2 =>
     cases h2
     cases h1
     have hl:=pl.isList
     rw [e1] at hl
     have hlt:a<s.heap.objs.size:=by obtain ⟨_,z,_⟩:=hl;exact Heap.lt_size z
     refine call_any_walk (wpAny_pyIter_list hl ⟨_,_,_,_,_,_,fun i=>(bs[i]?).getD false,rfl,Walks.list (A:=X.A.in1) (I.ok.hd hc) _ a (Nat.ne_of_lt hlt) (bs.map Value.bool).toArray,⟨⟨_,Heap.get?_push_size _ rfl,rfl,rfl⟩,hl.push _⟩,?_,fun h' tk hk => ?_⟩)
     ·intro i v s' Q' E' hP hQ
      have hQ':Q' ((bs[i]?).getD false) s':=hQ
      have hP':((bs.map Value.bool).toArray)[i]? = some v:=hP
      rw [List.getElem?_toArray,List.getElem?_map] at hP'
      cases hb:bs[i]? with
      | none=>rw [hb] at hP';cases hP'
      | some b =>
       rw [hb] at hP' hQ'
       cases hP'
       exact wpAny_truthy_bool hQ'
     ·have hold:∀ b o,s.heap.get? b=some o->h'.get? b=some o:=fun b o z=>hk b o (fun hm=>by
       rcases List.mem_cons.mp hm with e2 | hm
       ·exact absurd (e2▸Heap.lt_size z) (Nat.lt_irrefl _)
       ·cases hm) (Heap.get?_push_of_some _ z)
      have ea:(List.range (bs.map Value.bool).toArray.size).any (fun i=>(bs[i]?).getD false)=bs.any id:=by
       rw [List.size_toArray,List.length_map]
       apply Bool.eq_iff_iff.mpr
       simp only [List.any_eq_true,List.mem_range,id]
       constructor
       ·rintro ⟨i,hi,z⟩
        rw [List.getElem?_eq_getElem hi] at z
        exact ⟨_,List.getElem_mem hi,z⟩
       ·rintro ⟨b,hb,z⟩
        obtain ⟨i,hi,rfl⟩:=List.getElem_of_mem hb
        exact ⟨i,hi,by rw [List.getElem?_eq_getElem hi];exact z⟩
      rw [ea]
      exact ⟨.bl _,H,I.kept (t':=tk) hold,rfl,q _ _ ↥25 (.bl _)⟩
 ·cases e
end
end ES
namespace ES
open PySem PySem.Spec PyProof.Rows L2 EV
structure DA (K:PySem.W.Frag) (n:Str) (st:Stmt):Prop where
 ex:∃ f fd,PySem.W.nsIn K mainGlobals n=some (some (.ref f))/\Fun K n n st f fd
theorem JK {K:PySem.W.Frag} {n:Str} {st:Stmt} {f:Addr} {oc:Value} {od an:Option Addr} {osl:Array (Option Value)} {kV doc pm cdv ct:Value} (a:PySem.W.nsIn K mainGlobals n=some (some (.ref f))) (l:K.lookup f=some ⟨oc,od,.func (PySem.W.fnOf n n (eJ st) (ak st) (ae st) .none kV doc pm an cdv ct),osl⟩)
  (c:PySem.W.codeIn K cdv n=true) (k:PySem.W.keepIn K (.ref f)=true):DA K n st:=⟨_,_,a,m9 l c k⟩
theorem DA.fn {P:Program} {w:World} {K:PySem.W.Frag} {h:Heap} {mg:Str->Option Value} {base:Heap} {n:Str} {st:Stmt} {N G ps:List Str} {k a m:Nat} {g:S}
  (q:DA K n st) (KX:K.In h) (GG:h.Ns mainGlobals mg) (S:ScF N G ps (ae st)) (hn:ps.length=a) (hm:N.length=m) (B:∀ {f:Addr} {fd:FuncData},Fun K n n st f fd->Binds K fd ps [])
  (hbody:∀ X:Cx,Room k (at5 X P w K mg base).A->Lp (at5 X P w K mg base)->Own (at5 X P w K mg base)->Pl (at5 X P w K mg base) N G->(at5 X P w K mg base).env.scope=ae st->SSs (at5 X P w K mg base) (ak st) g) :
  FnP P w K mg base n (k+1) (fn a m g):=by
 obtain ⟨f,fd,a,F⟩:=q.ex
 exact Jz (qy F S hn hm hbody) F.kp (PySem.W.mg_of KX GG a) (B F)
theorem FnP.c (F:FnP X.prog X.w X.K X.mg X.base x k f) (hr:Room j X.A) (h:k<=j:=by decide):Callee X x f:=F.callee hr h
end ES
local macro_rules | `(tactic| walk_at "S")=>`(tactic| exact ⟨⟨rfl,rfl,rfl,by decide +kernel,by decide +kernel,by decide +kernel,by decide +kernel⟩,by decide +kernel,by decide +kernel,by decide +kernel,by decide +kernel⟩)
namespace EV
def Mb:List Nat->Dt->List D->Option Dt
 | [],δ,[]=>some δ
 | i::is,δ,d::ds=>Mb is (δ.set i (some d)) ds
 | _,_,_=>none
end EV
namespace ES
open PySem PySem.Spec PyProof.Rows L2 EV
unseal SE ST SW SA SS SSs SI SO
section
variable {X:Cx}
end
end ES
namespace ES
open PySem PySem.Spec PyProof.Rows L2 EV
unseal SE ST SW SA SS SSs SI SO
def gIs:List Nat->TGs
 | []=>Ra
 | i::is=>LH (vU i) (gIs is)
section
variable {X:Cx} {N:List Str} {e:Expr} {es:List Expr} {g:IT} {gb:S} {body:List Stmt} {is:List Nat} {pos:Pos}
theorem PF:∀ {is:List Nat} {xs:List V} {ds:List D} {σ:L2.St} {δ δ2:Dt} {os:List (Nat×Addr)},StO X H σ δ os->Reps X.K X.mg ↥26 xs ds->Mb is δ ds=some δ2->(∀ σ2 os2,StO X H σ2 δ2 os2->aC ↥26 (hide H os2)->Q σ2 H)->gIs is xs σ H Q
 | [],xs,ds,σ,δ,δ2,os,S,r,e,q=>by
  cases r with
  | nil=>cases e;exact ⟨rfl,q _ _ S ↥25⟩
  | cons _ _=>cases e
 | i::is,xs,ds,σ,δ,δ2,os,S,r,e,q=>by
  cases r with
  | nil=>cases e
  | cons ra rr =>
   obtain ⟨S2,s2⟩:=S.set (i:=i) ra
   exact ⟨_,_,rfl,PF S2 (rr.mono s2) e fun σ2 os2 S3 s3=>q σ2 os2 S3 (s2.trans s3)⟩
end
end ES
namespace ES
open PySem PySem.Spec PyProof.Rows L2 EV
section
variable {X:Cx} {N G:List Str} {e e1 e2 e3 e4:Expr} {es:List Expr} {g g1 g2 g3 g4:E} {gs:List E} {x:Str} {p pos:Pos} {f:List D->R D}
theorem Pl.v (P:Pl X N G) (i:Nat) (h:N[i]? = some x:=by rfl):SE X (.Name x pos) (var i):=ip P.sc i h
theorem Pl.w (P:Pl X N G) (i:Nat) (h:G[i]? = some x:=by rfl):Gb X x:=P.gb _ (mG i h)
theorem Pl.set (P:Pl X N G) (i:Nat) (h:SE X e g) (hN:N[i]? = some x:=by rfl) (hsw:swapsWith e (some (.Name x p)) pos.line X.env=pure false:=by rfl):SS X (.Assign [.Name x p] e pos) (assign i g):=KQ P.toSx i hN (P.sto _ (mG i hN)) h hsw
theorem Pl.ret (P:Pl X N G) (h:SE X e g):SS X (.Return (some e) pos) (ret g):=KR P.toSx h
theorem Pl.if_ {c:Expr} {gc:E} {body els:List Stmt} {gb ge:S} (P:Pl X N G) (hc:ST X c gc) (ha:SSs X body gb) (hb:SSs X els ge):SS X (.If c body els pos) (ifs gc gb ge):=Pw P.toSx hc ha hb
theorem Pl.xp (P:Pl X N G) (h:SE X e g) (hs:swapsWith e none pos.line X.env=pure false:=by rfl):SS X (.Expr e pos) (expr g):=HD P.toSx h hs
theorem Pl.y {j} (P:Pl X N G) (i:Nat) (h:N[i]? = some x:=by rfl):SE X (.Subscript (.Name x p1) (.Constant (.int k) j p2) pos) (bin oIx (var i) (con (.int k))):=pT (ip P.sc i h) ai
theorem Pl.call (P:Pl X N G) (i:Nat) (c:Callee X x f) (ha:SA X (e::es) gs) (h:G[i]? = some x:=by rfl) (he:starEach (e::es) X.env=↥38::starEach es X.env:=by rfl) (hpl:(backTo pos (starEach es X.env)).any (·.1)=false:=by rfl) :
  SE X (.Call (.Name x p) (e::es) [] pos) (EV.call f gs):=qA c (P.gb _ (mG i h)) ha he hpl
theorem a1 (h1:SE X e1 g1) (s1:starEach [e1] X.env=(false,eval e1 X.env)::starEach [] X.env:=by rfl):SA X [e1] [g1]:=aj h1 bZ s1
theorem a2 (h1:SE X e1 g1) (h2:SE X e2 g2) (s1:starEach [e1,e2] X.env=(false,eval e1 X.env)::starEach [e2] X.env:=by rfl) (s2:starEach [e2] X.env=(false,eval e2 X.env)::starEach [] X.env:=by rfl):SA X [e1,e2] [g1,g2]:=aj h1 (aj h2 bZ s2) s1
theorem a3 (h1:SE X e1 g1) (h2:SE X e2 g2) (h3:SE X e3 g3) (s1:starEach [e1,e2,e3] X.env=(false,eval e1 X.env)::starEach [e2,e3] X.env:=by rfl) (s2:starEach [e2,e3] X.env=(false,eval e2 X.env)::starEach [e3] X.env:=by rfl) (s3:starEach [e3] X.env=(false,eval e3 X.env)::starEach [] X.env:=by rfl):SA X [e1,e2,e3] [g1,g2,g3]:=aj h1 (aj h2 (aj h3 bZ s3) s2) s1
end
end ES
local macro_rules | `(tactic| walk_at "C")=>`(tactic| exact ⟨rfl,by decide +kernel,by decide +kernel,by decide +kernel,by decide +kernel,by decide +kernel,by decide +kernel,by decide +kernel,by decide +kernel,by decide +kernel⟩)
namespace ES
open PySem PySem.Spec PyProof.Rows L2 EV
unseal SE ST SW SA SS SSs SI SO
section
variable {X:Cx} {pos:Pos} {a b:Expr} {ga gb:E}
end
end ES
namespace EV
end EV
namespace ES
open PySem PySem.Spec PyProof.Rows L2 EV
unseal SE ST SW SA SS SSs SI SO
section
variable {X:Cx} {pos:Pos} {a b:Expr} {ga gb:E}
end
end ES
namespace EV
end EV
namespace ES
open PySem PySem.Spec PyProof.Rows L2 EV
unseal SE ST SW SA SS SSs SI SO
section
variable {X:Cx} {pos p p2:Pos} {a e:Expr} {g:E} {lo hi:Option Expr} {gl gu:Option E}
structure IsW (X:Cx) (n:String) (C:Addr):Prop where
 mg:X.mg n=some (.ref C)
 cl:Cls X.K C
 ha:PySem.W.findIn X.K (.ref C) "__class__"=some (some (.builtin "object.__class__"))
 hn:PySem.W.specialIn X.K (.builtin "object.__class__") "__get__"=some (some (.builtin "getset_descriptor.__get__"))
 htk:PySem.W.takesIn X.K (.builtin "object.__class__")=some true
 hm:PySem.W.mroIn X.K C (.type "object")=some true
 kit:PySem.W.kitOne X.K (.ref C) (.ref C)=some true
end
end ES
namespace EV
def zf (x:PySem.Str) (i:Int):PySem.Str:=if i<=x.cps.size then x else ⟨(List.replicate (i.toNat - x.cps.size) 48).toArray++x.cps⟩
end EV
namespace ES
open PySem PySem.Spec PyProof.Rows L2 EV
unseal SE ST SW SA SS SSs SI SO
section
variable {X:Cx} {pos:Pos} {a b:Expr} {ga gb:E}
end
end ES
namespace EV
end EV
namespace ES
open PySem PySem.Spec PyProof.Rows L2 EV
unseal SE ST SW SA SS SSs SI SO
section
variable {X:Cx} {pos:Pos} {a b:Expr} {ga gb:E}
end
end ES
namespace EV
end EV
namespace ES
open PySem PySem.Spec PyProof.Rows L2 EV
unseal SE ST SW SA SS SSs SI SO
section
variable {X:Cx} {pos:Pos} {tg e a b:Expr} {g ga gb:E}
end
end ES
namespace EV
end EV
namespace ES
open PySem PySem.Spec PyProof.Rows L2 EV
abbrev IsZ (h:Heap) (z TI TO:Addr) (f0:Value) (b:Bool):Prop :=
 h.get? z=some { cls:=.type "zip",dict:=none,data:=.fields #[f0,.bool b,.bool false,.ref TI,.ref TO],slots := #[] }
section
variable {prog:Program} {w:World} {A:Around} {E:Value->Shared->Prop} {s:Shared}
end
structure Zs (h:Heap) (z TI TO i1 i2 l1 l2 S N0:Addr) (xs ys:Array Value) (i:Nat) (acc:Array Value):Prop where
 zf:(IsZip h z TI TO .none/\∃ a b,IsPair h TO a b)\/∃ (T:Addr) (b:Bool),IsZ h z TI TO (rawInt T) b/\(∃ o,h.get? T=some o)/\N0<=T
 ti:IsPair h TI (.ref i1) (.ref i2)
 h1:h.IsListIter i1 l1 i
 h2:h.IsListIter i2 l2 i
 hl1:h.IsList l1 xs
 hl2:h.IsList l2 ys
 sz:N0<=h.objs.size
 al:acc.size=i
 ac:∀ (j:Nat) (v:Value),acc[j]? = some v->∃ (a:Addr) (x y:Value),v=Value.ref a/\xs[j]? = some x/\ys[j]? = some y/\IsPair h a x y/\N0<=a
 inj:∀ (j j':Nat) (a:Addr),acc[j]? = some (Value.ref a)->acc[j']? = some (Value.ref a)->j=j'
structure Zap (z TI TO i1 i2 l1 l2 S N0:Addr):Prop where
 D:ZipApart z TI TO i1 i2 l1 l2
 zN:z<N0
 TIN:TI<N0
 TON:TO<N0
 i1N:i1<N0
 i2N:i2<N0
 SN:S<N0
 Sz:S≠z
 STI:S≠TI
 STO:S≠TO
 Si1:S≠i1
 Si2:S≠i2
 Sl1:S≠l1
 Sl2:S≠l2
section
variable {prog:Program} {w:World} {A:Around} {R:Result->Shared->Prop} {z TI TO i1 i2 l1 l2 S N0:Addr} {xs ys:Array Value}
end
section
variable {prog:Program} {w:World} {A:Around} {E:Value->Shared->Prop} {s:Shared} {xs ys:Array Value}
end
section
variable {X:Cx} {pins:List ↥12} {σ:L2.St} {H H':Hp} {s:Shared}
end
unseal SE ST SW SA SS SSs SI SO
section
variable {X:Cx} {a b:Expr} {ga gb:E} {p p2 pos pos2:Pos}
end
end ES
namespace ES
open PySem PySem.Spec PyProof.Rows L2 EV
unseal SE ST SW SA SS SSs SI SO
section
variable {X:Cx} {N:List Str} {e e2:Expr} {g g2:E} {pos:Pos}
end
end ES
namespace EV
end EV
namespace ES
open PySem PySem.Spec PyProof.Rows L2 EV
unseal SE ST SW SA SS SSs SI SO
section
variable {prog:Program} {w:World} {A:Around} {E:Value->Shared->Prop} {s:Shared}
end
section
variable {X:Cx} {a b:Expr} {ga gb:E} {p p2 pos pos2:Pos}
end
end ES
namespace ES
open PySem PySem.Spec PyProof.Rows L2 EV
unseal SE ST SW SA SS SSs SI SO
section
variable {X:Cx} {pins:List ↥12} {σ:L2.St} {H:Hp} {s:Shared} {h':Heap}
end
section
variable {X:Cx} {a b:Expr} {ga gb:E} {p pos:Pos}
end
section
variable {X:Cx}
end
section
variable {prog:Program} {w:World} {A:Around} {E:Value->Shared->Prop} {s:Shared}
end
section
variable {X:Cx} {N:List Str} {e:Expr} {es:List Expr} {g:E} {is:List Nat} {pos:Pos}
end
end ES
namespace ES
open PySem PySem.Spec PyProof.Rows L2 EV
section
variable {K:PySem.W.Frag} {mg:Str->Option Value} {Cs ns:List (String×Addr)} {q:String×Addr}
end
end ES
namespace T
open EV
def cK:S :=
 seq (ifs (bin oEq (bin oMod (var 0) ⇑4) ⇑0) (ret (bin oIx (vM [df [⇑5,⇑10],df [⇑8,⇑23],df [⇑11,⇑52],df [⇑2,⇑54],df [⇑13,⇑54],df [⇑4,⇑3]]) (bin oMod (bin oDiv (var 0) ⇑4) ⇑6))) (az))
 (seq (ifs (bin oEq (bin oMod (var 0) ⇑4) ⇑1) (ret (df [bin bF ⇑2 (bin oMod (bin oDiv (var 0) ⇑4) ⇑12),bin bF ⇑1 (bin oMod (bin oDiv (var 0) ⇑48) ⇑54)])) (az))
 (ret (df [bin bF ⇑2 (bin oMod (bin oDiv (var 0) ⇑4) ⇑4),bin bF ⇑1 (bin oMod (bin oDiv (var 0) ⇑16) ⇑5)])))
def bJ:List D->R D:=fn 1 1 cK
def dB:S :=
 seq (assign 2 (bin bF (bin bF ↥13 ⇑2) (bin oMod (bin oDiv (var 1) ⇑2) (bin cN ⇑14 ↥13))))
 (seq (ifs (bin oEq (bin oMod (var 1) ⇑2) ⇑0) (ret (df [bin bF ↥13 ⇑2,bin bF (bin fk ⇑2 ↥5) ⇑4])) (az))
 (ret (df [var 2,bin bF (bin bF (bin fk ⇑2 ↥5) ⇑4) (bin oMod (bin oDiv (var 1) ⇑24) (bin cN ⇑109 (bin fk ⇑2 ↥5)))])))
def cC:List D->R D:=fn 2 3 dB
def dE:S :=
 seq (ifs (bin oLt (var 1) (call zS [var 0])) (ret (bin oIx (var 0) (var 1))) (az))
 (ret ⇑0)
def aG:List D->R D:=fn 2 2 dE
def fN:S :=
 ret (bin oMod (bin fk (var 0) ⇑73846150927364518273645509182736455091827) (var 1))
def bK:List D->R D:=fn 2 2 fN
def dG:S :=
 seq (assign 2 (bin cm ⇑1 (bin bF ↥13 ↥5)))
 (seq (assign 3 (bin cm (bin cN (bin cm ⇑1 ↥13) ⇑1) ↥5))
 (seq (assign 4 (bin oMod (var 1) ⇑10))
 (seq (assign 5 (bin oDiv (var 1) ⇑10))
 (seq (ifs (bin oLt (var 4) ⇑3) (ret (call bK [var 5,bin fk ⇑2 (var 2)])) (az))
 (seq (assign 6 (bin oMod (var 5) ⇑2))
 (seq (assign 5 (bin oDiv (var 5) ⇑2))
 (seq (ifs (bin oEq (var 4) ⇑3) (assign 7 (bin oMod (var 5) (bin cm ⇑2 ↥5))) (ifs (bin oEq (var 4) ⇑4) (assign 7 (bin cN (bin bF (var 3) ⇑1) (bin oMod (var 5) ⇑5))) (ifs (bin oEq (var 4) ⇑5) (assign 7 (bin oIx (vM [⇑0,⇑1,bin cN (bin cm ⇑1 ↥5) ⇑1,bin cm ⇑1 ↥5,bin cN (var 3) ⇑1,var 3]) (bin oMod (var 5) ⇑6))) (seq (assign 8 (bin bF (bin cN (bin cm ⇑1 (bin cN ↥13 ⇑1)) ⇑5) (bin oMod (var 5) ⇑9)))
 (seq (assign 8 (call uL [⇑0,call B9 [var 8,bin cN (bin cm ⇑1 ↥13) ⇑1]]))
 (assign 7 (bin bF (bin cm (var 8) ↥5) (call bK [bin oDiv (var 5) ⇑9,bin cm ⇑1 ↥5]))))))))
 (ret (bin bF (bin fk (var 6) (var 2)) (var 7))))))))))
def aM:List D->R D:=fn 2 9 dG
def d9:S :=
 seq (assign 2 (bin cm ⇑1 (bin bF ↥13 ↥5)))
 (seq (assign 3 (bin cm (bin cN (bin cm ⇑1 ↥13) ⇑1) ↥5))
 (seq (assign 4 (bin oMod (var 1) ⇑5))
 (seq (assign 5 (bin oDiv (var 1) ⇑5))
 (seq (assign 6 (bin fk (bin oMod (var 5) ⇑2) (var 2)))
 (seq (ifs (bin oEq (var 4) ⇑0) (ret (bin bF (bin bF (bin bF (var 6) (var 3)) ⇑1) (bin oMod (bin oDiv (var 5) ⇑2) (bin cN (bin cm ⇑1 ↥5) ⇑1)))) (az))
 (seq (ifs (bin oEq (var 4) ⇑1) (ret (bin bF (var 6) (var 3))) (az))
 (seq (ifs (bin oEq (var 4) ⇑2) (ret (var 6)) (az))
 (ret (call aM [var 0,var 5])))))))))
def cX:List D->R D:=fn 2 7 d9
def dD:S :=
 seq (assign 4 (bin cm ⇑1 (bin bF ↥13 ↥5)))
 (seq (assign 5 (bin cN (bin cm ⇑1 (bin cN ↥13 ⇑1)) ⇑1))
 (seq (assign 6 (bin oMod (var 2) ⇑9))
 (seq (assign 7 (bin oDiv (var 2) ⇑9))
 (seq (ifs (bin oLt (var 6) ⇑5) (seq (assign 8 (bin cN (bin cN (bin oMod (var 7) (bin bF ↥5 ⇑8)) ↥5) ⇑4))
 (seq (ifs (bin oLt (var 6) ⇑2) (assign 8 (bin bF (bin cN (bin cm ⇑1 ↥13) ⇑5) (bin oMod (var 7) ⇑7))) (az))
 (seq (assign 9 (bin A6 (bin oMod (var 1) (var 4)) ↥5))
 (seq (ifs (var 3) (assign 8 (bin cN (var 9) (var 8))) (assign 8 (bin cN (var 8) (var 9))))
 (seq (assign 9 (call uL [⇑0,call B9 [bin bF (var 5) (var 8),bin fk ⇑2 (var 5)]]))
 (seq (assign 10 (bin oIx (vM [⇑0,bin cm ⇑1 (bin cN ↥5 ⇑1),bin cN (bin cm ⇑1 ↥5) ⇑1,call bK [var 7,bin cm ⇑1 ↥5]]) (bin oMod (bin oDiv (var 7) ⇑3) ⇑4)))
 (ret (bin bF (bin bF (bin fk (bin oMod (bin oDiv (var 7) ⇑5) ⇑2) (var 4)) (bin cm (var 9) ↥5)) (var 10))))))))) (az))
 (seq (ifs (bin oEq (var 6) ⇑5) (ret (bin f9 (var 1) (bin fk (bin oMod (var 7) ⇑2) (var 4)))) (az))
 (seq (ifs (bin oEq (var 6) ⇑6) (ret (call cX [var 0,var 7])) (az))
 (ret (call aM [var 0,var 7]))))))))
def cF:List D->R D:=fn 4 11 dD
def cJ:S :=
 seq (assign 2 (bin cm (bin cN (bin cm ⇑1 ↥13) ⇑1) ↥5))
 (seq (assign 3 (bin oMod (var 1) (bin cm ⇑1 (bin oDiv (bin bF ↥5 ⇑1) ⇑2))))
 (seq (ifs (bin oEq (var 3) ⇑0) (ret ⇑0) (az))
 (seq (assign 4 (bin fk (var 3) (var 3)))
 (seq (assign 5 (bin cN (bin bF ↥5 ⇑1) (call gz [var 4])))
 (seq (assign 6 (bin bF (bin cN (bin cm ⇑1 (bin cN ↥13 ⇑1)) ⇑2) ↥5))
 (seq (assign 7 (bin cN (bin bF (bin fk ⇑2 (bin oMod (bin oDiv (var 1) ⇑7) ⇑3)) (var 6)) (var 5)))
 (ret (call B9 [bin bF (bin cm (var 7) ↥5) (bin cm (var 4) (var 5)),bin cN (var 2) ⇑1]))))))))
def bI:List D->R D:=fn 2 8 cJ
def dC:S :=
 seq (assign 3 (bin cm ⇑1 (bin bF ↥13 ↥5)))
 (seq (assign 4 (bin oMod (var 2) ⇑9))
 (seq (assign 5 (bin oDiv (var 2) ⇑9))
 (seq (ifs (bin oEq (var 4) ⇑0) (ret (bin f9 (var 1) (var 3))) (az))
 (seq (ifs (bin oEq (var 4) ⇑1) (ret (bin f9 (var 1) (bin oMod (var 5) ⇑8))) (az))
 (seq (ifs (bin oEq (var 4) ⇑2) (ret (bin f9 (bin f9 (var 1) (var 3)) (bin oMod (var 5) ⇑8))) (az))
 (seq (ifs (bin oEq (var 4) ⇑3) (ret (bin oMod (bin cN (bin bF (var 1) (bin oMod (var 5) ⇑17)) ⇑8) (bin fk ⇑2 (var 3)))) (az))
 (seq (ifs (bin oEq (var 4) ⇑4) (ret (bin f9 (var 1) (bin cm (bin oMod (var 5) (bin cm ⇑2 ↥13)) ↥5))) (az))
 (seq (ifs (bin oEq (var 4) ⇑5) (seq (assign 6 (call uL [⇑0,bin cN (bin bF (bin cN (bin A6 (bin oMod (var 1) (var 3)) ↥5) ↥5) (bin oMod (var 5) ⇑3)) ⇑2]))
 (seq (assign 7 (call uL [⇑0,bin cN (bin bF (bin cm (var 6) ↥5) (bin oMod (bin oDiv (var 5) ⇑6) ⇑3)) ⇑1]))
 (ret (bin bF (bin fk (bin oMod (bin oDiv (var 5) ⇑3) ⇑2) (var 3)) (var 7))))) (az))
 (ret (call aM [var 0,var 5]))))))))))
def cE:List D->R D:=fn 3 8 dC
def kT:S :=
 seq (ifs (bin iv (var 0) (con (.tup [.str "even",.str "away",.str "nought",.str "up",.str "down"]))) (raise "NoWay") (az))
 (ret (call (mk1 "Way" "name") [var 0]))
def aY:List D->R D:=fn 1 1 kT
def hW:S :=
 ret (bin cm ⇑1 (bin bF ↥13 ↥5))
def bC:List D->R D:=fn 1 1 hW
def oZ:S :=
 ret (bin bF (bin bF ↥13 ↥5) ⇑1)
def lK:List D->R D:=fn 1 1 oZ
def kX:S :=
 seq (ifs (or_ (bin oLt (var 1) ⇑0) (bin oGe (var 1) (bin cm ⇑1 (call lK [var 0])))) (raise "NoBits") (az))
 (seq (assign 2 (bin oMod (var 1) (call bC [var 0])))
 (seq (assign 3 (bin cm ⇑1 ↥5))
 (ret (df [bin oDiv (var 1) (call bC [var 0]),bin oDiv (var 2) (var 3),bin oMod (var 2) (var 3)]))))
def aR:List D->R D:=fn 2 4 kX
def ef:S :=
 ret (bin cN (bin cm ⇑1 ↥13) ⇑1)
def aQ:List D->R D:=fn 1 1 ef
def uz:S :=
 seq (assign 2 (call aR [var 0,var 1]))
 (seq (assign 3 (bin oIx (var 2) ⇑1))
 (seq (assign 4 (bin oIx (var 2) ⇑2))
 (seq (ifs (bin oEq (var 3) ⇑0) (ret (ife (bin oEq (var 4) ⇑0) (con (.str "nought")) (con (.str "faint")))) (az))
 (seq (ifs (bin oEq (var 3) (call aQ [var 0])) (ret (ife (bin oEq (var 4) ⇑0) (con (.str "endless")) (con (.str "none")))) (az))
 (ret (con (.str "plain")))))))
def a9:List D->R D:=fn 2 5 uz
def cb:S :=
 seq (assign 1 ↥5)
 (seq (assign 2 (bin oIx (var 0) ⇑2))
 (seq (ifs (bin oGe (var 2) ⇑0) (ret (df [bin oIx (var 0) ⇑0,bin cm (var 1) (var 2),⇑1])) (az))
 (ret (df [bin oIx (var 0) ⇑0,var 1,bin cm ⇑1 (un IJ (var 2))]))))
def aT:List D->R D:=fn 1 3 cb
def uA:S :=
 ret (bin cN (bin cm ⇑1 (bin cN ↥13 ⇑1)) ⇑1)
def qf:List D->R D:=fn 1 1 uA
def BI:S :=
 ret (bin cN (bin cN ⇑1 (call qf [var 0])) ↥5)
def iW:List D->R D:=fn 1 1 BI
def oY:S :=
 seq (assign 2 (call aR [var 0,var 1]))
 (seq (assign 3 (bin oIx (var 2) ⇑0))
 (seq (assign 4 (bin oIx (var 2) ⇑1))
 (seq (assign 5 (bin oIx (var 2) ⇑2))
 (seq (ifs (bin oEq (var 4) (call aQ [var 0])) (raise "NotFinite") (az))
 (seq (ifs (bin oEq (var 4) ⇑0) (ret (df [var 3,var 5,call iW [var 0]])) (az))
 (ret (df [var 3,bin bF (bin cm ⇑1 ↥5) (var 5),bin cN (bin bF (call iW [var 0]) (var 4)) ⇑1])))))))
def iE:List D->R D:=fn 2 6 oY
def ie:S :=
 ret (call aT [call iE [var 0,var 1]])
def bw:List D->R D:=fn 2 2 ie
def cf:S :=
 ifs (or_ (bin oLt (var 0) ⇑0) (bin oLt (var 1) ⇑1)) (raise "NoFraction") (az)
def aV:List D->R D:=fn 2 2 cf
def kW:S :=
 seq (ifs (bin oGe (var 2) ⇑0) (ret (df [var 0,bin cm (var 1) (var 2)])) (az))
 (ret (df [bin cm (var 0) (un IJ (var 2)),var 1]))
def dw:List D->R D:=fn 3 3 kW
def cc:S :=
 seq (ifs (bin oEq (var 0) ⇑0) (ret ⇑0) (az))
 (seq (ifs (bin oLt (var 1) (var 2)) (ret ⇑1) (az))
 (ret (ife (bin oEq (var 1) (var 2)) ⇑2 ⇑3)))
def aU:List D->R D:=fn 3 3 cc
def je:S :=
 ret (call aU [var 0,bin fk ⇑2 (var 0),var 1])
def gm:List D->R D:=fn 2 2 je
def kZ:S :=
 seq (assign 2 (bin cN (call gz [var 0]) (call gz [var 1])))
 (seq (assign 3 (call dw [var 0,var 1,var 2]))
 (ret (ife (bin oLt (bin oIx (var 3) ⇑0) (bin oIx (var 3) ⇑1)) (var 2) (bin bF (var 2) ⇑1))))
def fF:List D->R D:=fn 2 4 kZ
def yO:S :=
 seq (expr (call aV [var 1,var 2]))
 (seq (ifs (bin oEq (var 1) ⇑0) (ret (df [⇑0,call iW [var 0],⇑0])) (az))
 (seq (assign 3 (call uL [call iW [var 0],bin cN (bin cN (call fF [var 1,var 2]) ↥5) ⇑1]))
 (seq (assign 4 (call dw [var 1,var 2,var 3]))
 (ret (df [bin oDiv (bin oIx (var 4) ⇑0) (bin oIx (var 4) ⇑1),var 3,call gm [bin oMod (bin oIx (var 4) ⇑0) (bin oIx (var 4) ⇑1),bin oIx (var 4) ⇑1]])))))
def sA:List D->R D:=fn 3 5 yO
def jh:S :=
 ret (bin cm (call aQ [var 0]) ↥5)
def aN:List D->R D:=fn 1 1 jh
def kU:S :=
 ret (bin bF (bin fk (var 1) (call bC [var 0])) (var 2))
def bj:List D->R D:=fn 3 3 kU
def d8:S :=
 seq (ifs (bin oEq (var 2) (call aN [var 0])) (ret (bin bF ⇑1 ⇑4)) (az))
 (seq (assign 3 (bin oLt (var 1) (bin cm ⇑1 ↥5)))
 (ret (ife (var 3) (bin bF ⇑1 ⇑2) ⇑1)))
def cW:List D->R D:=fn 3 4 d8
def bq:S :=
 seq (ifs (bin oEq (un (wj "Way" "name") (var 0)) (con (.str "up"))) (ret (bin oEq (var 1) ⇑0)) (az))
 (ret (tO (bin oEq (un (wj "Way" "name") (var 0)) (con (.str "down"))) (bin oEq (var 1) ⇑1)))
def aS:List D->R D:=fn 2 2 bq
def dR:S :=
 seq (ifs (bin oEq (var 3) ⇑0) (ret (con (.bl false))) (az))
 (seq (ifs (bin oEq (un (wj "Way" "name") (var 0)) (con (.str "even"))) (ret (or_ (bin oEq (var 3) ⇑3) (tO (bin oEq (var 3) ⇑2) (var 2)))) (az))
 (seq (ifs (bin oEq (un (wj "Way" "name") (var 0)) (con (.str "away"))) (ret (bin oGe (var 3) ⇑2)) (az))
 (ret (Gx "Way" "flees_nought" aS (var 0) [var 1]))))
def fG:List D->R D:=fn 4 4 dR
def cZ:S :=
 seq (ifs (bin oIn (un (wj "Way" "name") (var 0)) (df [con (.str "even"),con (.str "away")])) (ret (con ↥36)) (az))
 (ret (Gx "Way" "flees_nought" aS (var 0) [var 1]))
def d3:List D->R D:=fn 2 2 cZ
def jd:S :=
 seq (assign 6 (call aY [var 1]))
 (seq (assign 7 (bin bF (bin cm (bin cN (var 4) (call iW [var 0])) ↥5) (var 3)))
 (seq (assign 8 (call aN [var 0]))
 (seq (ifs (bin oGe (var 7) (var 8)) (seq (assign 9 (ife (Gx "Way" "bursts" d3 (var 6) [var 2]) (var 8) (bin cN (var 8) ⇑1)))
 (ret (df [call bj [var 0,var 2,var 9],bin bF ⇑1 ⇑4]))) (az))
 (seq (ifs (bin oEq (var 5) ⇑0) (ret (df [call bj [var 0,var 2,var 7],⇑0])) (az))
 (seq (assign 9 (ife (Gx "Way" "grows" fG (var 6) [var 2,bin oEq (bin qo (var 7) ⇑1) ⇑1,var 5]) (bin bF (var 7) ⇑1) (var 7)))
 (ret (df [call bj [var 0,var 2,var 9],call cW [var 0,var 7,var 9]])))))))
def dM:List D->R D:=fn 6 10 jd
def gw:S :=
 seq (expr (call aY [var 1]))
 (seq (assign 5 (call sA [var 0,var 3,var 4]))
 (ret (call dM [var 0,var 1,var 2,bin oIx (var 5) ⇑0,bin oIx (var 5) ⇑1,bin oIx (var 5) ⇑2])))
def bo:List D->R D:=fn 5 6 gw
def fL:S :=
 ret (bin bF (call aN [var 0]) (bin cm ⇑1 (bin cN ↥5 ⇑1)))
def aD:List D->R D:=fn 1 1 fL
def fe:S :=
 seq (expr (call aY [var 2]))
 (seq (assign 4 (call a9 [var 0,var 3]))
 (seq (ifs (bin oEq (var 4) (con (.str "none"))) (ret (df [call aD [var 1],⇑0])) (az))
 (seq (ifs (bin oEq (var 4) (con (.str "endless"))) (ret (df [call bj [var 1,bin oIx (call aR [var 0,var 3]) ⇑0,call aN [var 1]],⇑0])) (az))
 (seq (assign 5 (call bw [var 0,var 3]))
 (ret (call bo [var 1,var 2,bin oIx (var 5) ⇑0,bin oIx (var 5) ⇑1,bin oIx (var 5) ⇑2]))))))
def aX:List D->R D:=fn 4 6 fe
def dI:S :=
 seq (eH 2 (gx (itA (var 1)) [0] (con ↥36) (call a9 [var 1,var 0])))
 (Cv 2 (ret (bin oIn (con (.str "none")) (var 2))))
def ba:List D->R D:=fn 2 3 dI
def d6:S :=
 seq (ifs (bin oLt (var 0) ⇑0) (raise "NoFraction") (az))
 (seq (assign 1 (bin cm ⇑1 (bin oDiv (bin bF (call gz [var 0]) ⇑1) ⇑2)))
 (seq (jU (bin oGt (bin fk (var 1) (var 1)) (var 0)) (assign 1 (bin oDiv (bin bF (var 1) (bin oDiv (var 0) (var 1))) ⇑2)))
 (ret (var 1))))
def cV:List D->R D:=fn 1 2 d6
def fK:S :=
 seq (assign 3 (bin fk (bin fk (bin bF (bin fk ⇑2 (var 2)) ⇑1) (bin bF (bin fk ⇑2 (var 2)) ⇑1)) (var 1)))
 (ret (call aU [bin cN (var 0) (bin fk (bin fk (var 2) (var 2)) (var 1)),bin fk ⇑4 (var 0),var 3]))
def dN:List D->R D:=fn 3 4 fK
def hX:S :=
 seq (expr (call aV [var 1,var 2]))
 (seq (ifs (bin oEq (var 1) ⇑0) (ret (df [⇑0,call iW [var 0],⇑0])) (az))
 (seq (assign 3 (bin oDiv (bin bF (call fF [var 1,var 2]) ⇑1) ⇑2))
 (seq (assign 4 (call uL [call iW [var 0],bin cN (bin cN (var 3) ↥5) ⇑1]))
 (seq (assign 5 (call dw [var 1,var 2,bin fk ⇑2 (var 4)]))
 (seq (assign 6 (call cV [bin oDiv (bin oIx (var 5) ⇑0) (bin oIx (var 5) ⇑1)]))
 (ret (df [var 6,var 4,call dN [bin oIx (var 5) ⇑0,bin oIx (var 5) ⇑1,var 6]])))))))
def eO:List D->R D:=fn 3 7 hX
def fJ:S :=
 seq (expr (call aY [var 1]))
 (seq (ifs (call ba [var 0,vM [var 2]]) (ret (df [call aD [var 0],⇑0])) (az))
 (seq (ifs (or_ (bin oEq (call a9 [var 0,var 2]) (con (.str "nought"))) (bin oEq (var 2) (call aN [var 0]))) (ret (df [var 2,⇑0])) (az))
 (seq (ifs (bin oEq (bin oIx (call aR [var 0,var 2]) ⇑0) ⇑1) (ret (df [call aD [var 0],⇑16])) (az))
 (seq (assign 3 (call bw [var 0,var 2]))
 (seq (assign 4 (call eO [var 0,bin oIx (var 3) ⇑1,bin oIx (var 3) ⇑2]))
 (ret (call dM [var 0,var 1,⇑0,bin oIx (var 4) ⇑0,bin oIx (var 4) ⇑1,bin oIx (var 4) ⇑2])))))))
def bE:List D->R D:=fn 3 5 fJ
def pf:S :=
 seq (assign 1 (call (pQ 0) [comp (itA (var 0)) [] (bin oIx (var 0) ⇑2)]))
 (seq (assign 2 ⇑0)
 (seq (Gy 3 (itA (var 0)) (seq (assign 4 (bin cm (bin oIx (var 3) ⇑1) (bin cN (bin oIx (var 3) ⇑2) (var 1))))
 (assign 2 (ife (bin oEq (bin oIx (var 3) ⇑0) ⇑1) (bin cN (var 2) (var 4)) (bin bF (var 2) (var 4))))))
 (ret (df [ife (bin oLt (var 2) ⇑0) ⇑1 ⇑0,call GA [var 2],var 1]))))
def lL:List D->R D:=fn 1 5 pf
def dA:S :=
 seq (expr (call aY [var 0]))
 (seq (ifs (tO (bin oIn ⇑0 (var 1)) (bin oIn ⇑1 (var 1))) (ret (ife (bin oEq (var 0) (con (.str "down"))) ⇑1 ⇑0)) (az))
 (ret (ife (bin oIn ⇑1 (var 1)) ⇑1 ⇑0)))
def cA:List D->R D:=fn 2 2 dA
def bM:S :=
 seq (assign 3 (call aT [call lL [var 2]]))
 (seq (ifs (bin oEq (bin oIx (var 3) ⇑1) ⇑0) (seq (assign 4 (call cA [var 1,comp (itA (var 2)) [] ↥13]))
 (ret (df [call bj [var 0,var 4,⇑0],⇑0]))) (az))
 (ret (call bo [var 0,var 1,bin oIx (var 3) ⇑0,bin oIx (var 3) ⇑1,bin oIx (var 3) ⇑2])))
def aE:List D->R D:=fn 3 5 bM
def bN:S :=
 seq (eH 3 (gx (itA (var 2)) [] (un sF ↥5) ↥13))
 (seq (Cv 3 (ifs (tO (bin oIn ⇑0 (var 3)) (bin oIn ⇑1 (var 3))) (ret (df [call aD [var 0],⇑16])) (az)))
 (seq (ifs (bin oGt (call zS [var 3]) ⇑0) (ret (df [call bj [var 0,bin oIx (var 3) ⇑0,call aN [var 0]],⇑0])) (az))
 (ret (call aE [var 0,var 1,var 2]))))
def aP:List D->R D:=fn 3 4 bN
def cI:S :=
 seq (ifs (bin oEq (call a9 [var 0,var 1]) (con (.str "endless"))) (ret (df [bin oIx (call aR [var 0,var 1]) ⇑0,con .non,⇑0])) (az))
 (ret (call iE [var 0,var 1]))
def aF:List D->R D:=fn 2 2 cI
def cU:S :=
 seq (assign 3 (call aF [var 0,var 1]))
 (seq (assign 4 (call aF [var 0,var 2]))
 (seq (assign 5 (bin f9 (bin oIx (var 3) ⇑0) (bin oIx (var 4) ⇑0)))
 (seq (ifs (or_ (un sF (bin oIx (var 3) ⇑1)) (un sF (bin oIx (var 4) ⇑1))) (ret (df [var 5,con .non,⇑0])) (az))
 (ret (df [var 5,bin fk (bin oIx (var 3) ⇑1) (bin oIx (var 4) ⇑1),bin bF (bin oIx (var 3) ⇑2) (bin oIx (var 4) ⇑2)])))))
def bD:List D->R D:=fn 3 6 cU
def cH:S :=
 seq (assign 3 (df [call a9 [var 0,var 1],call a9 [var 0,var 2]]))
 (ret (tO (bin oIn (con (.str "nought")) (var 3)) (bin oIn (con (.str "endless")) (var 3))))
def bg:List D->R D:=fn 3 4 cH
def bQ:S :=
 seq (expr (call aY [var 1]))
 (seq (oJ 4 (call qS [var 3]))
 (seq (Gy 5 (itA (var 2)) (jX 4 (var 5)))
 (seq (LC (call ba [var 0,var 4]) (ret (df [call aD [var 0],⇑0])) (az))
 (seq (ifs (call Gi [comp (itA (var 2)) [0] (call bg [var 1,bin oIx (var 0) ⇑0,bin oIx (var 0) ⇑1])]) (ret (df [call aD [var 0],⇑16])) (az))
 (seq (eH 6 (gx (itA (var 2)) [0] (con ↥36) (call bD [var 1,bin oIx (var 0) ⇑0,bin oIx (var 0) ⇑1])))
 (Cv 6 (ret (call aP [var 0,var 1,bin bF (var 6) (comp (itA (var 3)) [0] (call aF [var 1,var 0]))]))))))))
def ar:List D->R D:=fn 4 7 bQ
def lV:S :=
 ret (call ar [var 0,var 1,vM [],vM [var 2,var 3]])
def eG:List D->R D:=fn 4 4 lV
def kY:S :=
 seq (ifs (or_ (bin oLt (var 1) ⇑0) (bin oGt (var 1) ⇑1)) (raise "NoParts") (az))
 (seq (ifs (or_ (bin oLt (var 2) ⇑0) (bin oGt (var 2) (call aQ [var 0]))) (raise "NoParts") (az))
 (seq (ifs (or_ (bin oLt (var 3) ⇑0) (bin oGe (var 3) (bin cm ⇑1 ↥5))) (raise "NoParts") (az))
 (ret (bin bF (bin bF (bin fk (var 1) (call bC [var 0])) (bin cm (var 2) ↥5)) (var 3)))))
def iX:List D->R D:=fn 4 4 kY
def jf:S :=
 seq (assign 2 (call aR [var 0,var 1]))
 (ret (call iX [var 0,bin cN ⇑1 (bin oIx (var 2) ⇑0),bin oIx (var 2) ⇑1,bin oIx (var 2) ⇑2]))
def gn:List D->R D:=fn 2 3 jf
def ph:S :=
 seq (expr (call aY [var 1]))
 (ret (call ar [var 0,var 1,vM [],vM [var 2,call gn [var 0,var 3]]]))
def iF:List D->R D:=fn 4 4 ph
def d7:S :=
 ret (call ar [var 0,var 1,vM [df [var 2,var 3]],vM []])
def bx:List D->R D:=fn 4 4 d7
def hZ:S :=
 ret (call bo [var 0,var 1,bin f9 (bin oIx (var 2) ⇑0) (bin oIx (var 3) ⇑0),bin fk (bin oIx (var 2) ⇑1) (bin oIx (var 3) ⇑2),bin fk (bin oIx (var 2) ⇑2) (bin oIx (var 3) ⇑1)])
def eQ:List D->R D:=fn 4 4 hZ
def jj:S :=
 seq (expr (call aY [var 1]))
 (seq (ifs (call ba [var 0,vM [var 2,var 3]]) (ret (df [call aD [var 0],⇑0])) (az))
 (seq (assign 4 (call a9 [var 0,var 2]))
 (seq (assign 5 (call a9 [var 0,var 3]))
 (seq (ifs (tO (bin oEq (var 4) (var 5)) (bin oIn (var 4) (df [con (.str "nought"),con (.str "endless")]))) (ret (df [call aD [var 0],⇑16])) (az))
 (seq (assign 6 (bin f9 (bin oIx (call aR [var 0,var 2]) ⇑0) (bin oIx (call aR [var 0,var 3]) ⇑0)))
 (seq (ifs (bin oEq (var 4) (con (.str "endless"))) (ret (df [call bj [var 0,var 6,call aN [var 0]],⇑0])) (az))
 (seq (ifs (or_ (bin oEq (var 4) (con (.str "nought"))) (bin oEq (var 5) (con (.str "endless")))) (ret (df [call bj [var 0,var 6,⇑0],⇑0])) (az))
 (seq (ifs (bin oEq (var 5) (con (.str "nought"))) (ret (df [call bj [var 0,var 6,call aN [var 0]],⇑8])) (az))
 (ret (call eQ [var 0,var 1,call bw [var 0,var 2],call bw [var 0,var 3]]))))))))))
def dO:List D->R D:=fn 4 7 jj
def ia:S :=
 seq (ifs (bin oEq (var 0) ⇑0) (ret (call eG [var 1,con (.str "even"),var 2,var 3])) (az))
 (seq (ifs (bin oEq (var 0) ⇑1) (ret (call iF [var 1,con (.str "even"),var 2,var 3])) (az))
 (seq (ifs (bin oEq (var 0) ⇑2) (ret (call bx [var 1,con (.str "even"),var 2,var 3])) (az))
 (seq (ifs (bin oEq (var 0) ⇑3) (ret (call dO [var 1,con (.str "even"),var 2,var 3])) (az))
 (ret (call bE [var 1,con (.str "even"),var 2])))))
def cQ:List D->R D:=fn 4 4 ia
def fM:S :=
 ret (tO (call mS [var 0,con (.ty "int")]) (ya (call mS [var 0,con (.ty "bool")])))
def cP:List D->R D:=fn 1 1 fM
def jg:S :=
 seq (ifs (or_ (ya (call mS [var 0,con (.ty "tuple")])) (bin oNe (call zS [var 0]) ⇑2)) (ret (con (.bl false))) (az))
 (ret (tO (call cP [bin oIx (var 0) ⇑0]) (call cP [bin oIx (var 0) ⇑1])))
def cD:List D->R D:=fn 1 1 jg
def ib:S :=
 seq (assign 5 (call aX [var 1,var 2,con (.str "even"),var 3]))
 (seq (assign 6 (call aX [var 1,var 2,con (.str "even"),var 4]))
 (seq (assign 7 (call cQ [var 0,var 1,var 3,var 4]))
 (seq (ifs (or_ (ya (call cD [var 5])) (or_ (ya (call cD [var 6])) (ya (call cD [var 7])))) (ret (con (.bl false))) (az))
 (seq (assign 8 (call cQ [var 0,var 2,bin oIx (var 5) ⇑0,bin oIx (var 6) ⇑0]))
 (seq (ifs (ya (call cD [var 8])) (ret (con (.bl false))) (az))
 (seq (assign 9 (call aX [var 2,var 1,con (.str "even"),bin oIx (var 8) ⇑0]))
 (seq (ifs (or_ (ya (call cD [var 9])) (or_ (bin oNe (bin oIx (var 5) ⇑1) ⇑0) (bin oNe (bin oIx (var 6) ⇑1) ⇑0))) (ret (con (.bl false))) (az))
 (ret (tO (bin oEq (bin oIx (var 9) ⇑0) (bin oIx (var 7) ⇑0)) (bin oEq (bin Bm (bin oIx (var 8) ⇑1) (bin oIx (var 9) ⇑1)) (bin oIx (var 7) ⇑1)))))))))))
def eR:List D->R D:=fn 5 10 ib
def BJ:S :=
 seq (assign 1 (call bJ [call aG [var 0,⇑0]]))
 (seq (assign 2 (call cC [var 1,call aG [var 0,⇑1]]))
 (seq (Gy 3 (LB ⇑2 (call uL [⇑4,call zS [var 0]]) ⇑2) (seq (assign 4 (bin oMod (call aG [var 0,var 3]) ⇑5))
 (seq (assign 5 (call aM [var 1,bin oDiv (call aG [var 0,var 3]) ⇑5]))
 (seq (ifs (tO (bin oEq (var 4) ⇑4) (bin oEq (bin oMod (call aG [var 0,bin bF (var 3) ⇑1]) ⇑3) ⇑0)) (assign 5 (call bI [var 1,bin oDiv (call aG [var 0,bin bF (var 3) ⇑1]) ⇑3])) (az))
 (seq (assign 6 (call cF [var 1,var 5,call aG [var 0,bin bF (var 3) ⇑1],bin oEq (var 4) ⇑3]))
 (seq (ifs (bin oLt (var 4) ⇑2) (assign 6 (call cE [var 1,var 5,call aG [var 0,bin bF (var 3) ⇑1]])) (az))
 (ifs (ya (call eR [var 4,var 1,var 2,var 5,var 6])) (ret (con (.bl false))) (az))))))))
 (ret (con ↥36))))
def A1:List D->R D:=fn 1 7 BJ
end T
namespace T
open PySem PySem.Spec PyProof.Rows L2 EV ES
def top (i:Nat):Stmt:=PySem.Challenge.pw_roundmill_k64_whole_wide.main.body.getD i (.Pass ⟨0,0,0,0⟩)
set_option maxHeartbeats 4000000
def gZ:Stmt:=(dg (top 41)).getD 0 (.Pass ⟨0,0,0,0⟩)
def cz:Stmt:=top 77
abbrev gF:List Str:=["_law_cell"]
abbrev gM:List Str:=[]
theorem kA:ScF gF gM ["_law_cell"] (ae cz):=by walk_at "S"
def dm:Stmt:=top 78
abbrev jw:List Str:=["_law_size","_law_cell","_law_field"]
abbrev jE:List Str:=[]
theorem mI:ScF jw jE ["_law_size","_law_cell"] (ae dm):=by walk_at "S"
def du:Stmt:=top 68
abbrev jz:List Str:=["_law_script","_law_k"]
abbrev jH:List Str:=["len"]
theorem mL:ScF jz jH ["_law_script","_law_k"] (ae du):=by walk_at "S"
def fE:Stmt:=top 70
abbrev mq:List Str:=["_law_cell","_law_many"]
abbrev mz:List Str:=[]
theorem p9:ScF mq mz ["_law_cell","_law_many"] (ae fE):=by walk_at "S"
def dv:Stmt:=top 71
abbrev jA:List Str:=["_law_size","_law_cell","_law_top","_law_last","_law_way","_law_rest","_law_sign","_law_code","_law_field"]
abbrev jI:List Str:=["_law_mixed","max","min"]
theorem mM:ScF jA jI ["_law_size","_law_cell"] (ae dv):=by walk_at "S"
def dY:Stmt:=top 72
abbrev j9:List Str:=["_law_size","_law_cell","_law_top","_law_last","_law_way","_law_rest","_law_first"]
abbrev kj:List Str:=["_law_bits_by"]
theorem om:ScF j9 kj ["_law_size","_law_cell"] (ae dY):=by walk_at "S"
def dt:Stmt:=top 74
abbrev jy:List Str:=["_law_size","_law_bits","_law_cell","_law_turned","_law_top","_law_middle","_law_way","_law_rest","_law_goal","_law_field","_law_figures"]
abbrev jG:List Str:=["max","min","_law_mixed","_law_odd_by","_law_bits_by"]
theorem mK:ScF jy jG ["_law_size","_law_bits","_law_cell","_law_turned"] (ae dt):=by walk_at "S"
def cy:Stmt:=top 75
abbrev gD:List Str:=["_law_size","_law_cell","_law_last","_law_side","_law_whole_here","_law_spare","_law_steps","_law_power"]
abbrev gJ:List Str:=["min"]
theorem kz:ScF gD gJ ["_law_size","_law_cell"] (ae cy):=by walk_at "S"
def dq:Stmt:=top 73
abbrev jx:List Str:=["_law_size","_law_bits","_law_cell","_law_top","_law_way","_law_rest","_law_field","_law_code"]
abbrev jF:List Str:=["max","_law_bits_by"]
theorem mJ:ScF jx jF ["_law_size","_law_bits","_law_cell"] (ae dq):=by walk_at "S"
def kH:Stmt:=top 42
abbrev uQ:List Str:=["name"]
abbrev uX:List Str:=["NAMES","NoWay","Way"]
theorem xj:ScF uQ uX ["name"] (ae kH):=by walk_at "S"
def gQ:Stmt:=top 11
abbrev nF:List Str:=["size"]
abbrev nN:List Str:=[]
theorem rO:ScF nF nN ["size"] (ae gQ):=by walk_at "S"
def ow:Stmt:=top 8
abbrev zE:List Str:=["size"]
abbrev zK:List Str:=[]
theorem AG:ScF zE zK ["size"] (ae ow):=by walk_at "S"
def kL:Stmt:=top 16
abbrev uU:List Str:=["size","bits","code","step"]
abbrev u4:List Str:=["width","NoBits","sign_bit"]
theorem xn:ScF uU u4 ["size","bits"] (ae kL):=by walk_at "S"
def dZ:Stmt:=top 12
abbrev ka:List Str:=["size"]
abbrev ko:List Str:=[]
theorem oo:ScF ka ko ["size"] (ae dZ):=by walk_at "S"
def ua:Stmt:=top 18
abbrev CW:List Str:=["size","bits","parts","field","figures"]
abbrev CZ:List Str:=["parted","last_field"]
theorem Ei:ScF CW CZ ["size","bits"] (ae ua):=by walk_at "S"
def b7:Stmt:=top 20
abbrev fU:List Str:=["value","whole","power"]
abbrev fX:List Str:=[]
theorem jO:ScF fU fX ["value"] (ae b7):=by walk_at "S"
def ub:Stmt:=top 9
abbrev CY:List Str:=["size"]
abbrev C0:List Str:=[]
theorem Ej:ScF CY C0 ["size"] (ae ub):=by walk_at "S"
def AL:Stmt:=top 10
abbrev JY:List Str:=["size"]
abbrev J3:List Str:=["bias"]
theorem HA:ScF JY J3 ["size"] (ae AL):=by walk_at "S"
def ou:Stmt:=top 19
abbrev zD:List Str:=["size","bits","parts","sign","field","figures"]
abbrev zJ:List Str:=["parted","last_field","NotFinite","low"]
theorem AF:ScF zD zJ ["size","bits"] (ae ou):=by walk_at "S"
def gX:Stmt:=top 21
abbrev nL:List Str:=["size","bits"]
abbrev nV:List Str:=["worth_fraction","worth"]
theorem rT:ScF nL nV ["size","bits"] (ae gX):=by walk_at "S"
def b9:Stmt:=top 25
abbrev fW:List Str:=["top","bottom"]
abbrev fZ:List Str:=["NoFraction"]
theorem jQ:ScF fW fZ ["top","bottom"] (ae b9):=by walk_at "S"
def kJ:Stmt:=top 26
abbrev uS:List Str:=["top","bottom","power"]
abbrev uZ:List Str:=[]
theorem xl:ScF uS uZ ["top","bottom","power"] (ae kJ):=by walk_at "S"
def b8:Stmt:=top 28
abbrev fV:List Str:=["over","number","middle"]
abbrev fY:List Str:=[]
theorem jP:ScF fV fY ["over","number","middle"] (ae b8):=by walk_at "S"
def iO:Stmt:=top 29
abbrev qV:List Str:=["over","step"]
abbrev rl:List Str:=["rest_by_middle"]
theorem vo:ScF qV rl ["over","step"] (ae iO):=by walk_at "S"
def kN:Stmt:=top 27
abbrev uW:List Str:=["top","bottom","guess","parts"]
abbrev u7:List Str:=["scaled"]
theorem xr:ScF uW u7 ["top","bottom"] (ae kN):=by walk_at "S"
def AM:Stmt:=top 30
abbrev J0:List Str:=["size","top","bottom","power","parts"]
abbrev J5:List Str:=["check_fraction","low","max","height","scaled","rest_of"]
theorem HC:ScF J0 J5 ["size","top","bottom"] (ae AM):=by walk_at "S"
def iR:Stmt:=top 13
abbrev qY:List Str:=["size"]
abbrev rq:List Str:=["last_field"]
theorem vr:ScF qY rq ["size"] (ae iR):=by walk_at "S"
def kI:Stmt:=top 22
abbrev uR:List Str:=["size","sign","code"]
abbrev uY:List Str:=["sign_bit"]
theorem xk:ScF uR uY ["size","sign","code"] (ae kI):=by walk_at "S"
def dX:Stmt:=top 45
abbrev j8:List Str:=["size","code","taken","faint"]
abbrev ki:List Str:=["endless","INEXACT","GREAT","SMALL"]
theorem oj:ScF j8 ki ["size","code","taken"] (ae dX):=by walk_at "S"
def aK:Stmt:=(dg (top 41)).getD 3 (.Pass ⟨0,0,0,0⟩)
abbrev eB:List Str:=["self","sign"]
abbrev eC:List Str:=[]
theorem iC:ScF eB eC ["self","sign"] (ae aK):=by walk_at "S"
def cg:Stmt:=(dg (top 41)).getD 1 (.Pass ⟨0,0,0,0⟩)
abbrev mr:List Str:=["self","sign","odd","rest"]
abbrev mB:List Str:=[]
theorem qb:ScF mr mB ["self","sign","odd","rest"] (ae cg):=by walk_at "S"
def bH:Stmt:=(dg (top 41)).getD 2 (.Pass ⟨0,0,0,0⟩)
abbrev kd:List Str:=["self","sign"]
abbrev kq:List Str:=[]
theorem ot:ScF kd kq ["self","sign"] (ae bH):=by walk_at "S"
def iM:Stmt:=top 44
abbrev qT:List Str:=["size","way","sign","whole","power","rest","chosen","code","end","taken"]
abbrev ri:List Str:=["way_of","low","endless","signed","INEXACT","GREAT","lost_flags"]
theorem vm:ScF qT ri ["size","way","sign","whole","power","rest"] (ae iM):=by walk_at "S"
def iN:Stmt:=top 46
abbrev qU:List Str:=["size","way","sign","top","bottom","parts"]
abbrev rj:List Str:=["way_of","cut","settled"]
theorem vn:ScF qU rj ["size","way","sign","top","bottom"] (ae iN):=by walk_at "S"
def fB:Stmt:=top 14
abbrev ml:List Str:=["size"]
abbrev mx:List Str:=["endless"]
theorem p7:ScF ml mx ["size"] (ae fB):=by walk_at "S"
def iT:Stmt:=top 48
abbrev rh:List Str:=["size","other","way","bits","found","value"]
abbrev rA:List Str:=["way_of","kind","no_number","signed","parted","endless","fraction","rounded"]
theorem vu:ScF rh rA ["size","other","way","bits"] (ae iT):=by walk_at "S"
def gY:Stmt:=top 54
abbrev nM:List Str:=["size","numbers","kinds"]
abbrev nW:List Str:=[]
theorem rV:ScF nM nW ["size","numbers"] (ae gY):=by walk_at "S"
def dU:Stmt:=top 31
abbrev j6:List Str:=["number","root"]
abbrev kf:List Str:=["NoFraction"]
theorem oh:ScF j6 kf ["number"] (ae dU):=by walk_at "S"
def fA:Stmt:=top 32
abbrev mj:List Str:=["top","bottom","root","middle"]
abbrev mw:List Str:=["rest_by_middle"]
theorem p6:ScF mj mw ["top","bottom","root"] (ae fA):=by walk_at "S"
def gR:Stmt:=top 33
abbrev nG:List Str:=["size","top","bottom","root_height","power","parts","root"]
abbrev nO:List Str:=["check_fraction","low","height","max","scaled","whole_root","root_rest"]
theorem rP:ScF nG nO ["size","top","bottom"] (ae gR):=by walk_at "S"
def kK:Stmt:=top 66
abbrev uT:List Str:=["size","way","a","value","parts"]
abbrev u3:List Str:=["way_of","any_none","no_number","kind","endless","parted","WRONG","fraction","root_cut","settled"]
theorem xm:ScF uT u3 ["size","way","a"] (ae kK):=by walk_at "S"
def ox:Stmt:=top 50
abbrev zF:List Str:=["terms","power","whole","term","part"]
abbrev zL:List Str:=["min","abs"]
theorem AH:ScF zF zL ["terms"] (ae ox):=by walk_at "S"
def dk:Stmt:=top 51
abbrev jv:List Str:=["way","signs"]
abbrev jD:List Str:=["way_of"]
theorem mH:ScF jv jD ["way","signs"] (ae dk):=by walk_at "S"
def cv:Stmt:=top 52
abbrev gA:List Str:=["size","way","terms","value","sign"]
abbrev gG:List Str:=["worth_fraction","total","nought_sign","signed","rounded"]
theorem ku:ScF gA gG ["size","way","terms"] (ae cv):=by walk_at "S"
def cw:Stmt:=top 58
abbrev gB:List Str:=["size","way","terms","signs"]
abbrev gH:List Str:=["no_number","WRONG","len","signed","endless","settled_total"]
theorem kv:ScF gB gH ["size","way","terms"] (ae cw):=by walk_at "S"
def dj:Stmt:=top 55
abbrev ju:List Str:=["size","bits"]
abbrev jC:List Str:=["kind","parted","worth"]
theorem mF:ScF ju jC ["size","bits"] (ae dj):=by walk_at "S"
def cT:Stmt:=top 57
abbrev iy:List Str:=["size","a","b","left","right","sign"]
abbrev iz:List Str:=["number_term"]
theorem ly:ScF iy iz ["size","a","b"] (ae cT):=by walk_at "S"
def cx:Stmt:=top 56
abbrev gC:List Str:=["size","a","b","kinds"]
abbrev gI:List Str:=["kind"]
theorem ky:ScF gC gI ["size","a","b"] (ae cx):=by walk_at "S"
def di:Stmt:=top 59
abbrev jt:List Str:=["size","way","pairs","singles","numbers","pair","products"]
abbrev jB:List Str:=["way_of","list","any_none","no_number","any","WRONG","settled_terms"]
theorem mE:ScF jt jB ["size","way","pairs","singles"] (ae di):=by walk_at "S"
def oz:Stmt:=top 61
abbrev zH:List Str:=["size","way","a","b"]
abbrev zO:List Str:=["settled_sum"]
theorem AJ:ScF zH zO ["size","way","a","b"] (ae oz):=by walk_at "S"
def kM:Stmt:=top 17
abbrev uV:List Str:=["size","sign","field","figures"]
abbrev u5:List Str:=["NoParts","last_field","sign_bit"]
theorem xo:ScF uV u5 ["size","sign","field","figures"] (ae kM):=by walk_at "S"
def iP:Stmt:=top 23
abbrev qW:List Str:=["size","bits","parts"]
abbrev rn:List Str:=["parted","joined"]
theorem vp:ScF qW rn ["size","bits"] (ae iP):=by walk_at "S"
def oy:Stmt:=top 62
abbrev zG:List Str:=["size","way","a","b"]
abbrev zM:List Str:=["way_of","settled_sum","negated"]
theorem AI:ScF zG zM ["size","way","a","b"] (ae oy):=by walk_at "S"
def dW:Stmt:=top 63
abbrev j7:List Str:=["size","way","a","b"]
abbrev kh:List Str:=["settled_sum"]
theorem oi:ScF j7 kh ["size","way","a","b"] (ae dW):=by walk_at "S"
def gS:Stmt:=top 65
abbrev nH:List Str:=["size","way","over","under"]
abbrev nQ:List Str:=["rounded"]
theorem rQ:ScF nH nQ ["size","way","over","under"] (ae gS):=by walk_at "S"
def iS:Stmt:=top 64
abbrev qZ:List Str:=["size","way","a","b","over","under","sign"]
abbrev rz:List Str:=["way_of","any_none","no_number","kind","WRONG","parted","signed","endless","POLE","quotient","fraction"]
theorem vt:ScF qZ rz ["size","way","a","b"] (ae iS):=by walk_at "S"
def gU:Stmt:=top 79
abbrev nJ:List Str:=["_law_which","_law_size","_law_a","_law_b"]
abbrev nR:List Str:=["added","taken","multiplied","divided","rooted"]
theorem rR:ScF nJ nR ["_law_which","_law_size","_law_a","_law_b"] (ae gU):=by walk_at "S"
def fD:Stmt:=top 69
abbrev mn:List Str:=["_law_found"]
abbrev my:List Str:=["isinstance","int","bool"]
theorem p8:ScF mn my ["_law_found"] (ae fD):=by walk_at "S"
def iQ:Stmt:=top 76
abbrev qX:List Str:=["_law_found"]
abbrev ro:List Str:=["isinstance","tuple","len","_law_whole"]
theorem vq:ScF qX ro ["_law_found"] (ae iQ):=by walk_at "S"
def gW:Stmt:=top 80
abbrev nK:List Str:=["_law_which","_law_size","_law_wide","_law_a","_law_b","_law_one","_law_other","_law_straight","_law_there","_law_back"]
abbrev nU:List Str:=["changed","_law_told","_law_two"]
theorem rS:ScF nK nU ["_law_which","_law_size","_law_wide","_law_a","_law_b"] (ae gW):=by walk_at "S"
def mO:Stmt:=top 81
abbrev JZ:List Str:=["_law_script","_law_size","_law_wide","_law_k","_law_which","_law_a","_law_b"]
abbrev J4:List Str:=["_law_narrow_by","_law_cell_at","_law_wide_by","range","max","len","_law_bits_by","_law_square_by","_law_mate_by","_law_near_by","_law_same"]
theorem HB:ScF JZ J4 ["_law_script"] (ae mO):=by walk_at "S"
section
variable {X:Cx} {k:Nat} (hr:Room k X.A) (L:Lp X) (O:Own X)
include hr L O
theorem ma (P:Pl X gF gM) (hS:X.env.scope=ae cz)
     : SSs X (ak cz) cK:=by
 unfold cK
 exact (ah (P.if_ (ft hr (br ↥29 ai) ai) (ao (P.ret (pT (lZ (aj (bc (a2 ai ai) ↥1) (aj (bc (a2 ai ai) ↥1) (aj (bc (a2 ai ai) ↥1) (aj (bc (a2 ai ai) ↥1) (aj (bc (a2 ai ai) ↥1) (aj (bc (a2 ai ai) ↥1) bZ)))))) ↥1) (br (cq ↥29 ai) ai)))) aA)
 (ah (P.if_ (ft hr (br ↥29 ai) ai) (ao (P.ret (bc (a2 (aJ ai (br (cq ↥29 ai) ai)) (aJ ai (br (cq ↥29 ai) ai))) ↥1))) aA)
 (ao (P.ret (bc (a2 (aJ ai (br (cq ↥29 ai) ai)) (aJ ai (br (cq ↥29 ai) ai))) ↥1)))))
theorem pL (P:Pl X jw jE) (hS:X.env.scope=ae dm)
     : SSs X (ak dm) dB:=by
 unfold dB
 exact (ah (P.set 2 (aJ (aJ (P.y 0) ai) (br (cq (P.v 1) ai) (bf ai (P.y 0)))))
 (ah (P.if_ (ft hr (br (P.v 1) ai) ai) (ao (P.ret (bc (a2 (aJ (P.y 0) ai) (aJ (cL ai (P.y 0)) ai)) ↥1))) aA)
 (ao (P.ret (bc (a2 (P.v 2) (aJ (aJ (cL ai (P.y 0)) ai) (br (cq (P.v 1) ai) (bf ai (cL ai (P.y 0)))))) ↥1)))))
theorem pO (P:Pl X jz jH) (hS:X.env.scope=ae du)
  (m_len:X.mg "len"=none):SSs X (ak du) dE:=by
 unfold dE
 exact (ah (P.if_ (rJ (P.v 1) (dh BY Bp (P.w 0) m_len PySem.boot_len (a1 ↥29))) (ao (P.ret (pT ↥29 (P.v 1)))) aA)
 (ao (P.ret ai)))
theorem tJ (P:Pl X mq mz) (hS:X.env.scope=ae fE)
     : SSs X (ak fE) fN:=by
 unfold fN
 exact (ao (P.ret (br (cL ↥29 ai) (P.v 1))))
theorem pP (P:Pl X jA jI) (hS:X.env.scope=ae dv)
  (c_law_mixed:Callee X "_law_mixed" bK) (m_min:X.mg "min"=none) (m_max:X.mg "max"=none):SSs X (ak dv) dG:=by
 unfold dG
 exact (ah (P.set 2 (bY ai (aJ (P.y 0) (P.y 0))))
 (ah (P.set 3 (bY (bf ↥31 ai) (P.y 0)))
 (ah (P.set 4 (br (P.v 1) ai))
 (ah (P.set 5 (cq (P.v 1) ai))
 (ah (P.if_ (rJ (P.v 4) ai) (ao (P.ret (P.call 0 c_law_mixed (a2 (P.v 5) (cL ai (P.v 2)))))) aA)
 (ah (P.set 6 (br (P.v 5) ai))
 (ah (P.set 5 (cq (P.v 5) ai))
 (ah (P.if_ ↥32 (ao (P.set 7 (br (P.v 5) ↥31))) (ao (P.if_ ↥32 (ao (P.set 7 (bf (aJ (P.v 3) ai) (br (P.v 5) ai)))) (ao (P.if_ ↥32 (ao (P.set 7 (pT (lZ (aj ai (aj ai (aj (bf ↥31 ai) (aj ↥31 (aj (bf (P.v 3) ai) (aj (P.v 3) bZ)))))) ↥1) (br (P.v 5) ai)))) (ah (P.set 8 (aJ (bf (bY ai (bf (P.y 0) ai)) ai) (br (P.v 5) ai)))
 (ah (P.set 8 (dh (tq L.calm) sG (P.w 1) m_max boot_max (a2 ai (dh (F0 L.calm) Ff (P.w 2) m_min boot_min (a2 (P.v 8) (bf ↥31 ai))))))
 (ao (P.set 7 (aJ (bY (P.v 8) (P.y 0)) (P.call 0 c_law_mixed (a2 (cq (P.v 5) ai) ↥31))))))))))))
 (ao (P.ret (aJ (cL (P.v 6) (P.v 2)) (P.v 7))))))))))))
theorem qP (P:Pl X j9 kj) (hS:X.env.scope=ae dY)
  (c_law_bits_by:Callee X "_law_bits_by" aM):SSs X (ak dY) d9:=by
 unfold d9
 exact (ah (P.set 2 (bY ai (aJ (P.y 0) (P.y 0))))
 (ah (P.set 3 (bY (bf ↥31 ai) (P.y 0)))
 (ah (P.set 4 (br (P.v 1) ai))
 (ah (P.set 5 (cq (P.v 1) ai))
 (ah (P.set 6 (cL (br (P.v 5) ai) (P.v 2)))
 (ah (P.if_ ↥32 (ao (P.ret (aJ (aJ (aJ (P.v 6) (P.v 3)) ai) (br (cq (P.v 5) ai) (bf ↥31 ai))))) aA)
 (ah (P.if_ ↥32 (ao (P.ret (aJ (P.v 6) (P.v 3)))) aA)
 (ah (P.if_ ↥32 (ao (P.ret (P.v 6))) aA)
 (ao (P.ret (P.call 0 c_law_bits_by (a2 ↥29 (P.v 5)))))))))))))
theorem pN (P:Pl X jy jG) (hS:X.env.scope=ae dt)
  (m_min:X.mg "min"=none) (m_max:X.mg "max"=none) (c_law_mixed:Callee X "_law_mixed" bK) (c_law_odd_by:Callee X "_law_odd_by" cX) (c_law_bits_by:Callee X "_law_bits_by" aM):SSs X (ak dt) dD:=by
 unfold dD
 exact (ah (P.set 4 (bY ai (aJ (P.y 0) (P.y 0))))
 (ah (P.set 5 (bf (bY ai (bf (P.y 0) ai)) ai))
 (ah (P.set 6 (br (P.v 2) ai))
 (ah (P.set 7 (cq (P.v 2) ai))
 (ah (P.if_ (rJ (P.v 6) ai) (ah (P.set 8 (bf (bf (br (P.v 7) (aJ (P.y 0) ai)) (P.y 0)) ai))
 (ah (P.if_ (rJ (P.v 6) ai) (ao (P.set 8 (aJ (bf ↥31 ai) (br (P.v 7) ai)))) aA)
 (ah (P.set 9 (JG (br (P.v 1) (P.v 4)) (P.y 0)))
 (ah (P.if_ (iA (P.v 3)) (ao (P.set 8 (bf (P.v 9) (P.v 8)))) (ao (P.set 8 (bf (P.v 8) (P.v 9)))))
 (ah (P.set 9 (dh (tq L.calm) sG (P.w 0) m_max boot_max (a2 ai (dh (F0 L.calm) Ff (P.w 1) m_min boot_min (a2 (aJ (P.v 5) (P.v 8)) (cL ai (P.v 5)))))))
 (ah (P.set 10 (pT (lZ (aj ai (aj (bY ai (bf (P.y 0) ai)) (aj (bf ↥31 ai) (aj (P.call 2 c_law_mixed (a2 (P.v 7) ↥31)) bZ)))) ↥1) (br (cq (P.v 7) ai) ai)))
 (ao (P.ret (aJ (aJ (cL (br (cq (P.v 7) ai) ai) (P.v 4)) (bY (P.v 9) (P.y 0))) (P.v 10)))))))))) aA)
 (ah (P.if_ (ft hr (P.v 6) ai) (ao (P.ret (jm (P.v 1) (cL (br (P.v 7) ai) (P.v 4))))) aA)
 (ah (P.if_ (ft hr (P.v 6) ai) (ao (P.ret (P.call 3 c_law_odd_by (a2 ↥29 (P.v 7))))) aA)
 (ao (P.ret (P.call 4 c_law_bits_by (a2 ↥29 (P.v 7))))))))))))
theorem l9 (P:Pl X gD gJ) (hS:X.env.scope=ae cy)
  (m_min:X.mg "min"=none):SSs X (ak cy) cJ:=by
 unfold cJ
 exact (ah (P.set 2 (bY (bf ↥31 ai) (P.y 0)))
 (ah (P.set 3 (br (P.v 1) (bY ai (cq (aJ (P.y 0) ai) ai))))
 (ah (P.if_ (ft hr (P.v 3) ai) (ao (P.ret ai)) aA)
 (ah (P.set 4 (cL (P.v 3) (P.v 3)))
 (ah (P.set 5 (bf (aJ (P.y 0) ai) (lb (P.v 4))))
 (ah (P.set 6 (aJ (bf (bY ai (bf (P.y 0) ai)) ai) (P.y 0)))
 (ah (P.set 7 (bf (aJ (cL ai (br (cq (P.v 1) ai) ai)) (P.v 6)) (P.v 5)))
 (ao (P.ret (dh (F0 L.calm) Ff (P.w 0) m_min boot_min (a2 (aJ (bY (P.v 7) (P.y 0)) (bY (P.v 4) (P.v 5))) (bf (P.v 2) ai))))))))))))
theorem pM (P:Pl X jx jF) (hS:X.env.scope=ae dq)
  (m_max:X.mg "max"=none) (c_law_bits_by:Callee X "_law_bits_by" aM):SSs X (ak dq) dC:=by
 unfold dC
 exact (ah (P.set 3 (bY ai (aJ (P.y 0) (P.y 0))))
 (ah (P.set 4 (br (P.v 2) ai))
 (ah (P.set 5 (cq (P.v 2) ai))
 (ah (P.if_ ↥32 (ao (P.ret (jm (P.v 1) (P.v 3)))) aA)
 (ah (P.if_ ↥32 (ao (P.ret (jm (P.v 1) (br (P.v 5) ai)))) aA)
 (ah (P.if_ ↥32 (ao (P.ret (jm (jm (P.v 1) (P.v 3)) (br (P.v 5) ai)))) aA)
 (ah (P.if_ ↥32 (ao (P.ret (br (bf (aJ (P.v 1) (br (P.v 5) ai)) ai) (cL ai (P.v 3))))) aA)
 (ah (P.if_ ↥32 (ao (P.ret (jm (P.v 1) (bY (br (P.v 5) ↥31) (P.y 0))))) aA)
 (ah (P.if_ ↥32 (ah (P.set 6 (dh (tq L.calm) sG (P.w 0) m_max boot_max (a2 ai (bf (aJ (bf (JG (br (P.v 1) (P.v 3)) (P.y 0)) (P.y 0)) (br (P.v 5) ai)) ai))))
 (ah (P.set 7 (dh (tq L.calm) sG (P.w 0) m_max boot_max (a2 ai (bf (aJ (bY (P.v 6) (P.y 0)) (br (cq (P.v 5) ai) ai)) ai))))
 (ao (P.ret (aJ (cL (br (cq (P.v 5) ai) ai) (P.v 3)) (P.v 7)))))) aA)
 (ao (P.ret (P.call 1 c_law_bits_by (a2 ↥29 (P.v 5))))))))))))))
theorem B1 (P:Pl X uQ uX) (hS:X.env.scope=ae kH) {C_NoWay:Addr}
  (g_NAMES:GC X "NAMES" (.tup [.str "even",.str "away",.str "nought",.str "up",.str "down"])) (q_NoWay:X.mg "NoWay"=some (.ref  C_NoWay)) (xi_NoWay:PySem.W.excIn X.K C_NoWay bmV "ValueError.__new__"=true) (mk_Way:MakeOk X "Way" "name"):SSs X (ak kH) kT:=by
 unfold kT
 exact (ah (P.if_ (DS ↥29 (Rr (P.w 0) g_NAMES)) (ao (gi (x:="NoWay") L.calm (P.w 1) q_NoWay xi_NoWay)) aA)
 (ao (P.ret (FV (cn:="Way") (f:="name") mk_Way (P.w 2) (a1 ↥29)))))
theorem vZ (P:Pl X nF nN) (hS:X.env.scope=ae gQ)
     : SSs X (ak gQ) hW:=by
 unfold hW
 exact (ao (P.ret (bY ai (aJ (P.y 0) (P.y 0)))))
theorem Gd (P:Pl X zE zK) (hS:X.env.scope=ae ow)
     : SSs X (ak ow) oZ:=by
 unfold oZ
 exact (ao (P.ret (aJ (aJ (P.y 0) (P.y 0)) ai)))
theorem B5 (P:Pl X uU u4) (hS:X.env.scope=ae kL) {C_NoBits:Addr}
  (c_width:Callee X "width" lK) (q_NoBits:X.mg "NoBits"=some (.ref  C_NoBits)) (xi_NoBits:PySem.W.excIn X.K C_NoBits bmV "ValueError.__new__"=true) (c_sign_bit:Callee X "sign_bit" bC):SSs X (ak kL) kX:=by
 unfold kX
 exact (ah (P.if_ (t_w (w_or (rJ (P.v 1) ai) (lh (Hr (P.v 1) (bY ai (P.call 0 c_width (a1 ↥29))))))) (ao (gi (x:="NoBits") L.calm (P.w 1) q_NoBits xi_NoBits)) aA)
 (ah (P.set 2 (br (P.v 1) (P.call 2 c_sign_bit (a1 ↥29))))
 (ah (P.set 3 ↥31)
 (ao (P.ret (bc (a3 (cq (P.v 1) (P.call 2 c_sign_bit (a1 ↥29))) (cq (P.v 2) (P.v 3)) (br (P.v 2) (P.v 3))) ↥1))))))
theorem qQ (P:Pl X ka ko) (hS:X.env.scope=ae dZ)
     : SSs X (ak dZ) ef:=by
 unfold ef
 exact (ao (P.ret (bf ↥31 ai)))
theorem JP (P:Pl X CW CZ) (hS:X.env.scope=ae ua)
  (c_parted:Callee X "parted" aR) (c_last_field:Callee X "last_field" aQ):SSs X (ak ua) uz:=by
 unfold uz
 exact (ah (P.set 2 (P.call 0 c_parted (a2 ↥29 (P.v 1))))
 (ah (P.set 3 (P.y 2))
 (ah (P.set 4 (P.y 2))
 (ah (P.if_ (ft hr (P.v 3) ai) (ao (P.ret (yX ↥32 bT bT))) aA)
 (ah (P.if_ (ft hr (P.v 3) (P.call 1 c_last_field (a1 ↥29))) (ao (P.ret (yX ↥32 bT bT))) aA)
 (ao (P.ret bT)))))))
theorem kE (P:Pl X fU fX) (hS:X.env.scope=ae b7)
     : SSs X (ak b7) cb:=by
 unfold cb
 exact (ah (P.set 1 (P.y 0))
 (ah (P.set 2 (P.y 0))
 (ah (P.if_ (Hr (P.v 2) ai) (ao (P.ret (bc (a3 (P.y 0) (bY (P.v 1) (P.v 2)) ai) ↥1))) aA)
 (ao (P.ret (bc (a3 (P.y 0) (P.v 1) (bY ai (JH (P.v 2)))) ↥1))))))
theorem JQ (P:Pl X CY C0) (hS:X.env.scope=ae ub)
     : SSs X (ak ub) uA:=by
 unfold uA
 exact (ao (P.ret (bf (bY ai (bf (P.y 0) ai)) ai)))
theorem LW (P:Pl X JY J3) (hS:X.env.scope=ae AL)
  (c_bias:Callee X "bias" qf):SSs X (ak AL) BI:=by
 unfold BI
 exact (ao (P.ret (bf (bf ai (P.call 0 c_bias (a1 ↥29))) (P.y 0))))
theorem Ga (P:Pl X zD zJ) (hS:X.env.scope=ae ou) {C_NotFinite:Addr}
  (c_parted:Callee X "parted" aR) (c_last_field:Callee X "last_field" aQ) (q_NotFinite:X.mg "NotFinite"=some (.ref  C_NotFinite)) (xi_NotFinite:PySem.W.excIn X.K C_NotFinite bmV "ValueError.__new__"=true) (c_low:Callee X "low" iW):SSs X (ak ou) oY:=by
 unfold oY
 exact (ah (P.set 2 (P.call 0 c_parted (a2 ↥29 (P.v 1))))
 (ah (P.set 3 (P.y 2))
 (ah (P.set 4 (P.y 2))
 (ah (P.set 5 (P.y 2))
 (ah (P.if_ (ft hr (P.v 4) (P.call 1 c_last_field (a1 ↥29))) (ao (gi (x:="NotFinite") L.calm (P.w 2) q_NotFinite xi_NotFinite)) aA)
 (ah (P.if_ ↥32 (ao (P.ret (bc (a3 (P.v 3) (P.v 5) (P.call 3 c_low (a1 ↥29))) ↥1))) aA)
 (ao (P.ret (bc (a3 (P.v 3) (aJ ↥31 (P.v 5)) (bf (aJ (P.call 3 c_low (a1 ↥29)) (P.v 4)) ai)) ↥1)))))))))
theorem wd (P:Pl X nL nV) (hS:X.env.scope=ae gX)
  (c_worth_fraction:Callee X "worth_fraction" aT) (c_worth:Callee X "worth" iE):SSs X (ak gX) ie:=by
 unfold ie
 exact (ao (P.ret (P.call 0 c_worth_fraction (a1 (P.call 1 c_worth (a2 ↥29 (P.v 1)))))))
theorem kG (P:Pl X fW fZ) (hS:X.env.scope=ae b9) {C_NoFraction:Addr}
  (q_NoFraction:X.mg "NoFraction"=some (.ref  C_NoFraction)) (xi_NoFraction:PySem.W.excIn X.K C_NoFraction bmV "ValueError.__new__"=true):SSs X (ak b9) cf:=by
 unfold cf
 exact (ao (P.if_ (t_w (w_or (rJ ↥29 ai) (lh (rJ (P.v 1) ai)))) (ao (gi (x:="NoFraction") L.calm (P.w 0) q_NoFraction xi_NoFraction)) aA))
theorem B3 (P:Pl X uS uZ) (hS:X.env.scope=ae kJ)
     : SSs X (ak kJ) kW:=by
 unfold kW
 exact (ah (P.if_ (Hr (P.v 2) ai) (ao (P.ret (bc (a2 ↥29 (bY (P.v 1) (P.v 2))) ↥1))) aA)
 (ao (P.ret (bc (a2 (bY ↥29 (JH (P.v 2))) (P.v 1)) ↥1))))
theorem kF (P:Pl X fV fY) (hS:X.env.scope=ae b8)
     : SSs X (ak b8) cc:=by
 unfold cc
 exact (ah (P.if_ (ft hr ↥29 ai) (ao (P.ret ai)) aA)
 (ah (P.if_ (rJ (P.v 1) (P.v 2)) (ao (P.ret ai)) aA)
 (ao (P.ret (yX (ft hr (P.v 1) (P.v 2)) ai ai)))))
theorem zo (P:Pl X qV rl) (hS:X.env.scope=ae iO)
  (c_rest_by_middle:Callee X "rest_by_middle" aU):SSs X (ak iO) je:=by
 unfold je
 exact (ao (P.ret (P.call 0 c_rest_by_middle (a3 ↥29 (cL ai ↥29) (P.v 1)))))
theorem B7 (P:Pl X uW u7) (hS:X.env.scope=ae kN)
  (c_scaled:Callee X "scaled" dw):SSs X (ak kN) kZ:=by
 unfold kZ
 exact (ah (P.set 2 (bf (lb ↥29) (lb (P.v 1))))
 (ah (P.set 3 (P.call 0 c_scaled (a3 ↥29 (P.v 1) (P.v 2))))
 (ao (P.ret (yX (rJ (P.y 3) (P.y 3)) (P.v 2) (aJ (P.v 2) ai))))))
theorem LY (P:Pl X J0 J5) (hS:X.env.scope=ae AM)
  (c_check_fraction:Callee X "check_fraction" aV) (c_low:Callee X "low" iW) (c_height:Callee X "height" fF) (m_max:X.mg "max"=none) (c_scaled:Callee X "scaled" dw) (c_rest_of:Callee X "rest_of" gm):SSs X (ak AM) yO:=by
 unfold yO
 exact (ah (P.xp (P.call 0 c_check_fraction (a2 (P.v 1) (P.v 2))))
 (ah (P.if_ (ft hr (P.v 1) ai) (ao (P.ret (bc (a3 ai (P.call 1 c_low (a1 ↥29)) ai) ↥1))) aA)
 (ah (P.set 3 (dh (tq L.calm) sG (P.w 2) m_max boot_max (a2 (P.call 1 c_low (a1 ↥29)) (bf (bf (P.call 3 c_height (a2 (P.v 1) (P.v 2))) (P.y 0)) ai))))
 (ah (P.set 4 (P.call 4 c_scaled (a3 (P.v 1) (P.v 2) (P.v 3))))
 (ao (P.ret (bc (a3 (cq (P.y 4) (P.y 4)) (P.v 3) (P.call 5 c_rest_of (a2 (br (P.y 4) (P.y 4)) (P.y 4)))) ↥1)))))))
theorem zr (P:Pl X qY rq) (hS:X.env.scope=ae iR)
  (c_last_field:Callee X "last_field" aQ):SSs X (ak iR) jh:=by
 unfold jh
 exact (ao (P.ret (bY (P.call 0 c_last_field (a1 ↥29)) (P.y 0))))
theorem B2 (P:Pl X uR uY) (hS:X.env.scope=ae kI)
  (c_sign_bit:Callee X "sign_bit" bC):SSs X (ak kI) kU:=by
 unfold kU
 exact (ao (P.ret (aJ (cL (P.v 1) (P.call 0 c_sign_bit (a1 ↥29))) (P.v 2))))
theorem qO (P:Pl X j8 ki) (hS:X.env.scope=ae dX)
  (c_endless:Callee X "endless" aN) (g_INEXACT:∃ t,X.mg "INEXACT"=some (.int 1 t)) (g_GREAT:∃ t,X.mg "GREAT"=some (.int 4 t)) (g_SMALL:∃ t,X.mg "SMALL"=some (.int 2 t)):SSs X (ak dX) d8:=by
 unfold d8
 exact (ah (P.if_ (ft hr (P.v 2) (P.call 0 c_endless (a1 ↥29))) (ao (P.ret (aJ (fT (P.w 1) g_INEXACT) (fT (P.w 2) g_GREAT)))) aA)
 (ah (P.set 3 (Rp (P.v 1) ↥31))
 (ao (P.ret (yX (iA (P.v 3)) (aJ (fT (P.w 1) g_INEXACT) (fT (P.w 3) g_SMALL)) (fT (P.w 1) g_INEXACT))))))
theorem jq (P:Pl X eB eC) (hS:X.env.scope=ae aK)
  (fl_Way_name:FldOk X "Way" "name"):SSs X (ak aK) bq:=by
 unfold bq
 exact (ah (P.if_ (ft hr (yY (cn:="Way") (f:="name") fl_Way_name ↥29) bT) (ao (P.ret (BP hr (P.v 1) ai))) aA)
 (ao (P.ret (vX (BP hr (yY (cn:="Way") (f:="name") fl_Way_name ↥29) bT) (sY (BP hr (P.v 1) ai))))))
theorem tK (P:Pl X mr mB) (hS:X.env.scope=ae cg)
  (fl_Way_name:FldOk X "Way" "name") (mt_Way_flees_nought:MethOk X "Way" "flees_nought" aS):SSs X (ak cg) dR:=by
 unfold dR
 exact (ah (P.if_ (ft hr (P.v 3) ai) (ao (P.ret CL)) aA)
 (ah (P.if_ (ft hr (yY (cn:="Way") (f:="name") fl_Way_name ↥29) bT) (ao (P.ret (Ro (BP hr (P.v 3) ai) (sY (vX (BP hr (P.v 3) ai) (sY (P.v 2))))))) aA)
 (ah (P.if_ (ft hr (yY (cn:="Way") (f:="name") fl_Way_name ↥29) bT) (ao (P.ret (Rq (P.v 3) ai))) aA)
 (ao (P.ret (uF (cn:="Way") (m:="flees_nought") mt_Way_flees_nought ↥29 (a1 (P.v 1))))))))
theorem qR (P:Pl X kd kq) (hS:X.env.scope=ae bH)
  (fl_Way_name:FldOk X "Way" "name") (mt_Way_flees_nought:MethOk X "Way" "flees_nought" aS):SSs X (ak bH) cZ:=by
 unfold cZ
 exact (ah (P.if_ (DU (yY (cn:="Way") (f:="name") fl_Way_name ↥29) (bc (a2 bT bT) ↥1)) (ao (P.ret CL)) aA)
 (ao (P.ret (uF (cn:="Way") (m:="flees_nought") mt_Way_flees_nought ↥29 (a1 (P.v 1))))))
theorem zl (P:Pl X qT ri) (hS:X.env.scope=ae iM)
  (c_way_of:Callee X "way_of" aY) (c_low:Callee X "low" iW) (c_endless:Callee X "endless" aN) (mt_Way_bursts:MethOk X "Way" "bursts" d3) (c_signed:Callee X "signed" bj) (g_INEXACT:∃ t,X.mg "INEXACT"=some (.int 1 t)) (g_GREAT:∃ t,X.mg "GREAT"=some (.int 4 t)) (mt_Way_grows:MethOk X "Way" "grows" fG) (c_lost_flags:Callee X "lost_flags" cW):SSs X (ak iM) jd:=by
 unfold jd
 exact (ah (P.set 6 (P.call 0 c_way_of (a1 (P.v 1))))
 (ah (P.set 7 (aJ (bY (bf (P.v 4) (P.call 1 c_low (a1 ↥29))) (P.y 0)) (P.v 3)))
 (ah (P.set 8 (P.call 2 c_endless (a1 ↥29)))
 (ah (P.if_ (Hr (P.v 7) (P.v 8)) (ah (P.set 9 (yX (iA (uF (cn:="Way") (m:="bursts") mt_Way_bursts (P.v 6) (a1 (P.v 2)))) (P.v 8) (bf (P.v 8) ai)))
 (ao (P.ret (bc (a2 (P.call 3 c_signed (a3 ↥29 (P.v 2) (P.v 9))) (aJ (fT (P.w 4) g_INEXACT) (fT (P.w 5) g_GREAT))) ↥1)))) aA)
 (ah (P.if_ (ft hr (P.v 5) ai) (ao (P.ret (bc (a2 (P.call 3 c_signed (a3 ↥29 (P.v 2) (P.v 7))) ai) ↥1))) aA)
 (ah (P.set 9 (yX (iA (uF (cn:="Way") (m:="grows") mt_Way_grows (P.v 6) (a3 (P.v 2) (BP hr (JJ (P.v 7) ai) ai) (P.v 5)))) (aJ (P.v 7) ai) (P.v 7)))
 (ao (P.ret (bc (a2 (P.call 3 c_signed (a3 ↥29 (P.v 2) (P.v 9))) (P.call 6 c_lost_flags (a3 ↥29 (P.v 7) (P.v 9)))) ↥1)))))))))
theorem zm (P:Pl X qU rj) (hS:X.env.scope=ae iN)
  (c_way_of:Callee X "way_of" aY) (c_cut:Callee X "cut" sA) (c_settled:Callee X "settled" dM):SSs X (ak iN) gw:=by
 unfold gw
 exact (ah (P.xp (P.call 0 c_way_of (a1 (P.v 1))))
 (ah (P.set 5 (P.call 1 c_cut (a3 ↥29 (P.v 3) (P.v 4))))
 (ao (P.ret (P.call 2 c_settled (aj ↥29 (aj (P.v 1) (aj (P.v 2) (aj (P.y 5) (aj (P.y 5) (aj (P.y 5) bZ)))))))))))
theorem tG (P:Pl X ml mx) (hS:X.env.scope=ae fB)
  (c_endless:Callee X "endless" aN):SSs X (ak fB) fL:=by
 unfold fL
 exact (ao (P.ret (aJ (P.call 0 c_endless (a1 ↥29)) (bY ai (bf (P.y 0) ai)))))
theorem zu (P:Pl X rh rA) (hS:X.env.scope=ae iT)
  (c_way_of:Callee X "way_of" aY) (c_kind:Callee X "kind" a9) (c_no_number:Callee X "no_number" aD) (c_signed:Callee X "signed" bj) (c_parted:Callee X "parted" aR) (c_endless:Callee X "endless" aN) (c_fraction:Callee X "fraction" bw) (c_rounded:Callee X "rounded" bo):SSs X (ak iT) fe:=by
 unfold fe
 exact (ah (P.xp (P.call 0 c_way_of (a1 (P.v 2))))
 (ah (P.set 4 (P.call 1 c_kind (a2 ↥29 (P.v 3))))
 (ah (P.if_ (ft hr (P.v 4) bT) (ao (P.ret (bc (a2 (P.call 2 c_no_number (a1 (P.v 1))) ai) ↥1))) aA)
 (ah (P.if_ (ft hr (P.v 4) bT) (ao (P.ret (bc (a2 (P.call 3 c_signed (a3 (P.v 1) (pT (P.call 4 c_parted (a2 ↥29 (P.v 3))) ai) (P.call 5 c_endless (a1 (P.v 1))))) ai) ↥1))) aA)
 (ah (P.set 5 (P.call 6 c_fraction (a2 ↥29 (P.v 3))))
 (ao (P.ret (P.call 7 c_rounded (aj (P.v 1) (aj (P.v 2) (aj (P.y 5) (aj (P.y 5) (aj (P.y 5) bZ)))))))))))))
theorem we (P:Pl X nM nW) (hS:X.env.scope=ae gY)
  (c_kind:Callee X "kind" a9):SSs X (ak gY) dI:=by
 unfold dI
 exact (ah (lA P.toSx L.calm 2 rfl (P.sto _ (mG 2)) (x:="bits") (ksn:=["size"]) (G:=["kind"]) (ks:=[0]) (by walk_at "C") rfl ↥1 (by rw [hS];decide +kernel) (oV (P.v 1)) (fun C fp s H W S' G'=>.nil) (fun C fp s H W S' G'=>(qA ⟨c_kind.ex⟩ (G' _ (mG 0)) (a2 (ip S' 1 rfl) (ip S' 0 rfl)))) (lq hS (by decide +kernel)))
 (ao (El 2 (P.ret (LO bT (P.v 2))))))
theorem qM (P:Pl X j6 kf) (hS:X.env.scope=ae dU) {C_NoFraction:Addr}
  (q_NoFraction:X.mg "NoFraction"=some (.ref  C_NoFraction)) (xi_NoFraction:PySem.W.excIn X.K C_NoFraction bmV "ValueError.__new__"=true):SSs X (ak dU) d6:=by
 unfold d6
 exact (ah (P.if_ (rJ ↥29 ai) (ao (gi (x:="NoFraction") L.calm (P.w 0) q_NoFraction xi_NoFraction)) aA)
 (ah (P.set 1 (bY ai (cq (aJ (lb ↥29) ai) ai)))
 (ah (Ek P.toSx L.own (J8 (cL (P.v 1) (P.v 1)) ↥29) (ao (P.set 1 (cq (aJ (P.v 1) (cq ↥29 (P.v 1))) ai))))
 (ao (P.ret (P.v 1))))))
theorem tu (P:Pl X mj mw) (hS:X.env.scope=ae fA)
  (c_rest_by_middle:Callee X "rest_by_middle" aU):SSs X (ak fA) fK:=by
 unfold fK
 exact (ah (P.set 3 (cL (cL (aJ (cL ai (P.v 2)) ai) (aJ (cL ai (P.v 2)) ai)) (P.v 1)))
 (ao (P.ret (P.call 0 c_rest_by_middle (a3 (bf ↥29 (cL (cL (P.v 2) (P.v 2)) (P.v 1))) (cL ai ↥29) (P.v 3))))))
theorem v5 (P:Pl X nG nO) (hS:X.env.scope=ae gR)
  (c_check_fraction:Callee X "check_fraction" aV) (c_low:Callee X "low" iW) (c_height:Callee X "height" fF) (m_max:X.mg "max"=none) (c_scaled:Callee X "scaled" dw) (c_whole_root:Callee X "whole_root" cV) (c_root_rest:Callee X "root_rest" dN):SSs X (ak gR) hX:=by
 unfold hX
 exact (ah (P.xp (P.call 0 c_check_fraction (a2 (P.v 1) (P.v 2))))
 (ah (P.if_ (ft hr (P.v 1) ai) (ao (P.ret (bc (a3 ai (P.call 1 c_low (a1 ↥29)) ai) ↥1))) aA)
 (ah (P.set 3 (cq (aJ (P.call 2 c_height (a2 (P.v 1) (P.v 2))) ai) ai))
 (ah (P.set 4 (dh (tq L.calm) sG (P.w 3) m_max boot_max (a2 (P.call 1 c_low (a1 ↥29)) (bf (bf (P.v 3) (P.y 0)) ai))))
 (ah (P.set 5 (P.call 4 c_scaled (a3 (P.v 1) (P.v 2) (cL ai (P.v 4)))))
 (ah (P.set 6 (P.call 5 c_whole_root (a1 (cq (P.y 5) (P.y 5)))))
 (ao (P.ret (bc (a3 (P.v 6) (P.v 4) (P.call 6 c_root_rest (a3 (P.y 5) (P.y 5) (P.v 6)))) ↥1)))))))))
theorem B4 (P:Pl X uT u3) (hS:X.env.scope=ae kK)
  (c_way_of:Callee X "way_of" aY) (c_any_none:Callee X "any_none" ba) (c_no_number:Callee X "no_number" aD) (c_kind:Callee X "kind" a9) (c_endless:Callee X "endless" aN) (c_parted:Callee X "parted" aR) (g_WRONG:∃ t,X.mg "WRONG"=some (.int 16 t)) (c_fraction:Callee X "fraction" bw) (c_root_cut:Callee X "root_cut" eO) (c_settled:Callee X "settled" dM):SSs X (ak kK) fJ:=by
 unfold fJ
 exact (ah (P.xp (P.call 0 c_way_of (a1 (P.v 1))))
 (ah (P.if_ (iA (P.call 1 c_any_none (a2 ↥29 (lZ (a1 (P.v 2)) ↥1)))) (ao (P.ret (bc (a2 (P.call 2 c_no_number (a1 ↥29)) ai) ↥1))) aA)
 (ah (P.if_ (t_w (w_or (ft hr (P.call 3 c_kind (a2 ↥29 (P.v 2))) bT) (lh (ft hr (P.v 2) (P.call 4 c_endless (a1 ↥29)))))) (ao (P.ret (bc (a2 (P.v 2) ai) ↥1))) aA)
 (ah (P.if_ (ft hr (pT (P.call 5 c_parted (a2 ↥29 (P.v 2))) ai) ai) (ao (P.ret (bc (a2 (P.call 2 c_no_number (a1 ↥29)) (fT (P.w 6) g_WRONG)) ↥1))) aA)
 (ah (P.set 3 (P.call 7 c_fraction (a2 ↥29 (P.v 2))))
 (ah (P.set 4 (P.call 8 c_root_cut (a3 ↥29 (P.y 3) (P.y 3))))
 (ao (P.ret (P.call 9 c_settled (aj ↥29 (aj (P.v 1) (aj ai (aj (P.y 4) (aj (P.y 4) (aj (P.y 4) bZ)))))))))))))))
theorem Ge (P:Pl X zF zL) (hS:X.env.scope=ae ox)
  (m_min:X.mg "min"=none) (m_abs:X.mg "abs"=none):SSs X (ak ox) pf:=by
 unfold pf
 exact (ah (P.set 1 (JI L.calm (P.w 0) m_min (a1 (uG L.calm P.sc (x:="term") (ksn:=[]) (G:=[]) (ks:=[]) (by walk_at "C") rfl ↥1 (by rw [hS];decide +kernel) (oV ↥29) (fun C fp s H W S' G'=>(pT (ip S' 0 rfl) ai))))))
 (ah (P.set 2 ai)
 (ah (xv P.toSx L 3 rfl (P.sto _ (mG 3)) (oV ↥29) (ah (P.set 4 (bY (P.y 3) (bf (P.y 3) (P.v 1))))
 (ao (P.set 2 (yX (ft hr (P.y 3) ai) (bf (P.v 2) (P.v 4)) (aJ (P.v 2) (P.v 4)))))))
 (ao (P.ret (bc (a3 (yX (rJ (P.v 2) ai) ai ai) (dh LS Ly (P.w 1) m_abs boot_abs (a1 (P.v 2))) (P.v 1)) ↥1))))))
theorem pK (P:Pl X jv jD) (hS:X.env.scope=ae dk)
  (c_way_of:Callee X "way_of" aY):SSs X (ak dk) dA:=by
 unfold dA
 exact (ah (P.xp (P.call 0 c_way_of (a1 ↥29)))
 (ah (P.if_ (t_w (w_and (DU ai (P.v 1)) (tW (DU ai (P.v 1))))) (ao (P.ret (yX (ft hr ↥29 bT) ai ai))) aA)
 (ao (P.ret (yX (DU ai (P.v 1)) ai ai)))))
theorem l6 (P:Pl X gA gG) (hS:X.env.scope=ae cv)
  (c_worth_fraction:Callee X "worth_fraction" aT) (c_total:Callee X "total" lL) (c_nought_sign:Callee X "nought_sign" cA) (c_signed:Callee X "signed" bj) (c_rounded:Callee X "rounded" bo):SSs X (ak cv) bM:=by
 unfold bM
 exact (ah (P.set 3 (P.call 0 c_worth_fraction (a1 (P.call 1 c_total (a1 (P.v 2))))))
 (ah (P.if_ (ft hr (P.y 3) ai) (ah (P.set 4 (P.call 2 c_nought_sign (a2 (P.v 1) (uG L.calm P.sc (x:="term") (ksn:=[]) (G:=[]) (ks:=[]) (by walk_at "C") rfl ↥1 (by rw [hS];decide +kernel) (oV (P.v 2)) (fun C fp s H W S' G'=>(pT (ip S' 0 rfl) ai))))))
 (ao (P.ret (bc (a2 (P.call 3 c_signed (a3 ↥29 (P.v 4) ai)) ai) ↥1)))) aA)
 (ao (P.ret (P.call 4 c_rounded (aj ↥29 (aj (P.v 1) (aj (P.y 3) (aj (P.y 3) (aj (P.y 3) bZ))))))))))
theorem l7 (P:Pl X gB gH) (hS:X.env.scope=ae cw)
  (c_no_number:Callee X "no_number" aD) (g_WRONG:∃ t,X.mg "WRONG"=some (.int 16 t)) (m_len:X.mg "len"=none) (c_signed:Callee X "signed" bj) (c_endless:Callee X "endless" aN) (c_settled_total:Callee X "settled_total" aE):SSs X (ak cw) bN:=by
 unfold bN
 exact (ah (lA P.toSx L.calm 3 rfl (P.sto _ (mG 3)) (x:="term") (ksn:=[]) (G:=[]) (ks:=[]) (by walk_at "C") rfl ↥1 (by rw [hS];decide +kernel) (oV (P.v 2)) (fun C fp s H W S' G'=>.one (DT (pT (ip S' 0 rfl) ai))) (fun C fp s H W S' G'=>(pT (ip S' 0 rfl) ai)) (lq hS (by decide +kernel)))
 (ah (El 3 (P.if_ (t_w (w_and (DU ai (P.v 3)) (tW (DU ai (P.v 3))))) (ao (P.ret (bc (a2 (P.call 0 c_no_number (a1 ↥29)) (fT (P.w 1) g_WRONG)) ↥1))) aA))
 (ah (P.if_ (J8 (dh BY Bp (P.w 2) m_len PySem.boot_len (a1 (P.v 3))) ai) (ao (P.ret (bc (a2 (P.call 3 c_signed (a3 ↥29 (P.y 3) (P.call 4 c_endless (a1 ↥29)))) ai) ↥1))) aA)
 (ao (P.ret (P.call 5 c_settled_total (a3 ↥29 (P.v 1) (P.v 2))))))))
theorem pJ (P:Pl X ju jC) (hS:X.env.scope=ae dj)
  (c_kind:Callee X "kind" a9) (c_parted:Callee X "parted" aR) (c_worth:Callee X "worth" iE):SSs X (ak dj) cI:=by
 unfold cI
 exact (ah (P.if_ (ft hr (P.call 0 c_kind (a2 ↥29 (P.v 1))) bT) (ao (P.ret (bc (a3 (pT (P.call 1 c_parted (a2 ↥29 (P.v 1))) ai) FU ai) ↥1))) aA)
 (ao (P.ret (P.call 2 c_worth (a2 ↥29 (P.v 1))))))
theorem mR (P:Pl X iy iz) (hS:X.env.scope=ae cT)
  (c_number_term:Callee X "number_term" aF):SSs X (ak cT) cU:=by
 unfold cU
 exact (ah (P.set 3 (P.call 0 c_number_term (a2 ↥29 (P.v 1))))
 (ah (P.set 4 (P.call 0 c_number_term (a2 ↥29 (P.v 2))))
 (ah (P.set 5 (jm (P.y 3) (P.y 4)))
 (ah (P.if_ (t_w (w_or (DT (P.y 3)) (lh (DT (P.y 4))))) (ao (P.ret (bc (a3 (P.v 5) FU ai) ↥1))) aA)
 (ao (P.ret (bc (a3 (P.v 5) (cL (P.y 3) (P.y 4)) (aJ (P.y 3) (P.y 4))) ↥1)))))))
theorem l8 (P:Pl X gC gI) (hS:X.env.scope=ae cx)
  (c_kind:Callee X "kind" a9):SSs X (ak cx) cH:=by
 unfold cH
 exact (ah (P.set 3 (bc (a2 (P.call 0 c_kind (a2 ↥29 (P.v 1))) (P.call 0 c_kind (a2 ↥29 (P.v 2)))) ↥1))
 (ao (P.ret (vX (LO bT (P.v 3)) (sY (LO bT (P.v 3)))))))
theorem pI (P:Pl X jt jB) (hS:X.env.scope=ae di)
  (c_way_of:Callee X "way_of" aY) (m_list:X.mg "list"=none) (c_any_none:Callee X "any_none" ba) (c_no_number:Callee X "no_number" aD) (c_product_wrong:Callee X "product_wrong" bg) (m_any:X.mg "any"=none) (g_WRONG:∃ t,X.mg "WRONG"=some (.int 16 t)) (c_product_term:Callee X "product_term" bD) (c_settled_terms:Callee X "settled_terms" aP) (c_number_term:Callee X "number_term" aF):SSs X (ak di) bQ:=by
 unfold bQ
 exact (ah (P.xp (P.call 0 c_way_of (a1 (P.v 1))))
 (ah (xu P.toSx 4 rfl (P.sto _ (mG 4)) (FH (P.w 1) m_list (P.v 3)))
 (ah (xv P.toSx L 5 rfl (P.sto _ (mG 5)) (oV (P.v 2)) (ao (AK P.toSx 4 rfl (P.v 5))))
 (ah (KS (iA (P.call 2 c_any_none (a2 ↥29 (P.v 4)))) (ao (P.ret (bc (a2 (P.call 3 c_no_number (a1 ↥29)) ai) ↥1))) aA)
 (ah (P.if_ (iA (dh (LR L.calm) Lw (P.w 4) m_any boot_any (a1 (uG L.calm P.sc (x:="pair") (ksn:=["size"]) (G:=["product_wrong"]) (ks:=[0]) (by walk_at "C") rfl ↥1 (by rw [hS];decide +kernel) (oV (P.v 2)) (fun C fp s H W S' G'=>(qA ⟨c_product_wrong.ex⟩ (G' _ (mG 0)) (a3 (ip S' 1 rfl) (pT (ip S' 0 rfl) ai) (pT (ip S' 0 rfl) ai)))))))) (ao (P.ret (bc (a2 (P.call 3 c_no_number (a1 ↥29)) (fT (P.w 5) g_WRONG)) ↥1))) aA)
 (ah (lA P.toSx L.calm 6 rfl (P.sto _ (mG 6)) (x:="pair") (ksn:=["size"]) (G:=["product_term"]) (ks:=[0]) (by walk_at "C") rfl ↥1 (by rw [hS];decide +kernel) (oV (P.v 2)) (fun C fp s H W S' G'=>.nil) (fun C fp s H W S' G'=>(qA ⟨c_product_term.ex⟩ (G' _ (mG 0)) (a3 (ip S' 1 rfl) (pT (ip S' 0 rfl) ai) (pT (ip S' 0 rfl) ai)))) (lq hS (by decide +kernel)))
 (ao (El 6 (P.ret (P.call 6 c_settled_terms (a3 ↥29 (P.v 1) (aJ (P.v 6) (uG L.calm P.sc (x:="bits") (ksn:=["size"]) (G:=["number_term"]) (ks:=[0]) (by walk_at "C") rfl ↥1 (by rw [hS];decide +kernel) (oV (P.v 3)) (fun C fp s H W S' G'=>(qA ⟨c_number_term.ex⟩ (G' _ (mG 0)) (a2 (ip S' 1 rfl) (ip S' 0 rfl)))))))))))))))))
theorem Gg (P:Pl X zH zO) (hS:X.env.scope=ae oz)
  (c_settled_sum:Callee X "settled_sum" ar):SSs X (ak oz) lV:=by
 unfold lV
 exact (ao (P.ret (P.call 0 c_settled_sum (aj ↥29 (aj (P.v 1) (aj (lZ bZ ↥1) (aj (lZ (a2 (P.v 2) (P.v 3)) ↥1) bZ)))))))
theorem B6 (P:Pl X uV u5) (hS:X.env.scope=ae kM) {C_NoParts:Addr}
  (q_NoParts:X.mg "NoParts"=some (.ref  C_NoParts)) (xi_NoParts:PySem.W.excIn X.K C_NoParts bmV "ValueError.__new__"=true) (c_last_field:Callee X "last_field" aQ) (c_sign_bit:Callee X "sign_bit" bC):SSs X (ak kM) kY:=by
 unfold kY
 exact (ah (P.if_ (t_w (w_or (rJ (P.v 1) ai) (lh (J8 (P.v 1) ai)))) (ao (gi (x:="NoParts") L.calm (P.w 0) q_NoParts xi_NoParts)) aA)
 (ah (P.if_ (t_w (w_or (rJ (P.v 2) ai) (lh (J8 (P.v 2) (P.call 1 c_last_field (a1 ↥29)))))) (ao (gi (x:="NoParts") L.calm (P.w 0) q_NoParts xi_NoParts)) aA)
 (ah (P.if_ (t_w (w_or (rJ (P.v 3) ai) (lh (Hr (P.v 3) ↥31)))) (ao (gi (x:="NoParts") L.calm (P.w 0) q_NoParts xi_NoParts)) aA)
 (ao (P.ret (aJ (aJ (cL (P.v 1) (P.call 2 c_sign_bit (a1 ↥29))) (bY (P.v 2) (P.y 0))) (P.v 3)))))))
theorem zp (P:Pl X qW rn) (hS:X.env.scope=ae iP)
  (c_parted:Callee X "parted" aR) (c_joined:Callee X "joined" iX):SSs X (ak iP) jf:=by
 unfold jf
 exact (ah (P.set 2 (P.call 0 c_parted (a2 ↥29 (P.v 1))))
 (ao (P.ret (P.call 1 c_joined (aj ↥29 (aj (bf ai (P.y 2)) (aj (P.y 2) (aj (P.y 2) bZ))))))))
theorem Gf (P:Pl X zG zM) (hS:X.env.scope=ae oy)
  (c_way_of:Callee X "way_of" aY) (c_settled_sum:Callee X "settled_sum" ar) (c_negated:Callee X "negated" gn):SSs X (ak oy) ph:=by
 unfold ph
 exact (ah (P.xp (P.call 0 c_way_of (a1 (P.v 1))))
 (ao (P.ret (P.call 1 c_settled_sum (aj ↥29 (aj (P.v 1) (aj (lZ bZ ↥1) (aj (lZ (a2 (P.v 2) (P.call 2 c_negated (a2 ↥29 (P.v 3)))) ↥1) bZ))))))))
theorem qN (P:Pl X j7 kh) (hS:X.env.scope=ae dW)
  (c_settled_sum:Callee X "settled_sum" ar):SSs X (ak dW) d7:=by
 unfold d7
 exact (ao (P.ret (P.call 0 c_settled_sum (aj ↥29 (aj (P.v 1) (aj (lZ (a1 (bc (a2 (P.v 2) (P.v 3)) ↥1)) ↥1) (aj (lZ bZ ↥1) bZ)))))))
theorem v7 (P:Pl X nH nQ) (hS:X.env.scope=ae gS)
  (c_rounded:Callee X "rounded" bo):SSs X (ak gS) hZ:=by
 unfold hZ
 exact (ao (P.ret (P.call 0 c_rounded (aj ↥29 (aj (P.v 1) (aj (jm (P.y 2) (P.y 3)) (aj (cL (P.y 2) (P.y 3)) (aj (cL (P.y 2) (P.y 3)) bZ))))))))
theorem zt (P:Pl X qZ rz) (hS:X.env.scope=ae iS)
  (c_way_of:Callee X "way_of" aY) (c_any_none:Callee X "any_none" ba) (c_no_number:Callee X "no_number" aD) (c_kind:Callee X "kind" a9) (g_WRONG:∃ t,X.mg "WRONG"=some (.int 16 t)) (c_parted:Callee X "parted" aR) (c_signed:Callee X "signed" bj) (c_endless:Callee X "endless" aN) (g_POLE:∃ t,X.mg "POLE"=some (.int 8 t)) (c_quotient:Callee X "quotient" eQ) (c_fraction:Callee X "fraction" bw):SSs X (ak iS) jj:=by
 unfold jj
 exact (ah (P.xp (P.call 0 c_way_of (a1 (P.v 1))))
 (ah (P.if_ (iA (P.call 1 c_any_none (a2 ↥29 (lZ (a2 (P.v 2) (P.v 3)) ↥1)))) (ao (P.ret (bc (a2 (P.call 2 c_no_number (a1 ↥29)) ai) ↥1))) aA)
 (ah (P.set 4 (P.call 3 c_kind (a2 ↥29 (P.v 2))))
 (ah (P.set 5 (P.call 3 c_kind (a2 ↥29 (P.v 3))))
 (ah (P.if_ (t_w (w_and (ft hr (P.v 4) (P.v 5)) (tW (DU (P.v 4) (bc (a2 bT bT) ↥1))))) (ao (P.ret (bc (a2 (P.call 2 c_no_number (a1 ↥29)) (fT (P.w 4) g_WRONG)) ↥1))) aA)
 (ah (P.set 6 (jm (pT (P.call 5 c_parted (a2 ↥29 (P.v 2))) ai) (pT (P.call 5 c_parted (a2 ↥29 (P.v 3))) ai)))
 (ah (P.if_ (ft hr (P.v 4) bT) (ao (P.ret (bc (a2 (P.call 6 c_signed (a3 ↥29 (P.v 6) (P.call 7 c_endless (a1 ↥29)))) ai) ↥1))) aA)
 (ah (P.if_ (t_w (w_or (ft hr (P.v 4) bT) (lh (ft hr (P.v 5) bT)))) (ao (P.ret (bc (a2 (P.call 6 c_signed (a3 ↥29 (P.v 6) ai)) ai) ↥1))) aA)
 (ah (P.if_ (ft hr (P.v 5) bT) (ao (P.ret (bc (a2 (P.call 6 c_signed (a3 ↥29 (P.v 6) (P.call 7 c_endless (a1 ↥29)))) (fT (P.w 8) g_POLE)) ↥1))) aA)
 (ao (P.ret (P.call 9 c_quotient (aj ↥29 (aj (P.v 1) (aj (P.call 10 c_fraction (a2 ↥29 (P.v 2))) (aj (P.call 10 c_fraction (a2 ↥29 (P.v 3))) bZ))))))))))))))))
theorem v9 (P:Pl X nJ nR) (hS:X.env.scope=ae gU)
  (c_added:Callee X "added" eG) (c_taken:Callee X "taken" iF) (c_multiplied:Callee X "multiplied" bx) (c_divided:Callee X "divided" dO) (c_rooted:Callee X "rooted" bE):SSs X (ak gU) ia:=by
 unfold ia
 exact (ah (P.if_ (ft hr ↥29 ai) (ao (P.ret (P.call 0 c_added (aj (P.v 1) (aj bT (aj (P.v 2) (aj (P.v 3) bZ))))))) aA)
 (ah (P.if_ (ft hr ↥29 ai) (ao (P.ret (P.call 1 c_taken (aj (P.v 1) (aj bT (aj (P.v 2) (aj (P.v 3) bZ))))))) aA)
 (ah (P.if_ (ft hr ↥29 ai) (ao (P.ret (P.call 2 c_multiplied (aj (P.v 1) (aj bT (aj (P.v 2) (aj (P.v 3) bZ))))))) aA)
 (ah (P.if_ (ft hr ↥29 ai) (ao (P.ret (P.call 3 c_divided (aj (P.v 1) (aj bT (aj (P.v 2) (aj (P.v 3) bZ))))))) aA)
 (ao (P.ret (P.call 4 c_rooted (a3 (P.v 1) bT (P.v 2)))))))))
theorem tH (P:Pl X mn my) (hS:X.env.scope=ae fD)
  (m_int:X.mg "int"=none) (isi_int:Isi X (.ty "int")) (hE:rB X) (m_isinstance:X.mg "isinstance"=none) (m_bool:X.mg "bool"=none) (isi_bool:Isi X (.ty "bool")):SSs X (ak fD) fM:=by
 unfold fM
 exact (ao (P.ret (vX (FW isi_int hE (P.w 0) m_isinstance ↥29 (LM (n:="int") (P.w 1) m_int boot_int)) (sY (LN (FW isi_bool hE (P.w 0) m_isinstance ↥29 (LM (n:="bool") (P.w 2) m_bool boot_bool)))))))
theorem zq (P:Pl X qX ro) (hS:X.env.scope=ae iQ)
  (m_tuple:X.mg "tuple"=none) (isi_tuple:Isi X (.ty "tuple")) (hE:rB X) (m_isinstance:X.mg "isinstance"=none) (m_len:X.mg "len"=none) (c_law_whole:Callee X "_law_whole" cP):SSs X (ak iQ) jg:=by
 unfold jg
 exact (ah (P.if_ (t_w (w_or (rH (iA (FW isi_tuple hE (P.w 0) m_isinstance ↥29 (LM (n:="tuple") (P.w 1) m_tuple boot_tuple)))) (lh (KD hr (dh BY Bp (P.w 2) m_len PySem.boot_len (a1 ↥29)) ai)))) (ao (P.ret CL)) aA)
 (ao (P.ret (vX (P.call 3 c_law_whole (a1 (P.y 0))) (sY (P.call 3 c_law_whole (a1 (P.y 0))))))))
theorem wc (P:Pl X nK nU) (hS:X.env.scope=ae gW)
  (c_changed:Callee X "changed" aX) (c_law_told:Callee X "_law_told" cQ) (c_law_two:Callee X "_law_two" cD):SSs X (ak gW) ib:=by
 unfold ib
 exact (ah (P.set 5 (P.call 0 c_changed (aj (P.v 1) (aj (P.v 2) (aj bT (aj (P.v 3) bZ))))))
 (ah (P.set 6 (P.call 0 c_changed (aj (P.v 1) (aj (P.v 2) (aj bT (aj (P.v 4) bZ))))))
 (ah (P.set 7 (P.call 1 c_law_told (aj ↥29 (aj (P.v 1) (aj (P.v 3) (aj (P.v 4) bZ))))))
 (ah (P.if_ (t_w (w_or (rH (iA (P.call 2 c_law_two (a1 (P.v 5))))) (w_or (rH (iA (P.call 2 c_law_two (a1 (P.v 6))))) (lh (rH (iA (P.call 2 c_law_two (a1 (P.v 7))))))))) (ao (P.ret CL)) aA)
 (ah (P.set 8 (P.call 1 c_law_told (aj ↥29 (aj (P.v 2) (aj (P.y 5) (aj (P.y 6) bZ))))))
 (ah (P.if_ (rH (iA (P.call 2 c_law_two (a1 (P.v 8))))) (ao (P.ret CL)) aA)
 (ah (P.set 9 (P.call 0 c_changed (aj (P.v 2) (aj (P.v 1) (aj bT (aj (P.y 8) bZ))))))
 (ah (P.if_ (t_w (w_or (rH (iA (P.call 2 c_law_two (a1 (P.v 9))))) (w_or (KD hr (P.y 5) ai) (lh (KD hr (P.y 6) ai))))) (ao (P.ret CL)) aA)
 (ao (P.ret (vX (BP hr (P.y 9) (P.y 7)) (sY (BP hr (LP (P.y 8) (P.y 9)) (P.y 7))))))))))))))
theorem LX (P:Pl X JZ J4) (hS:X.env.scope=ae mO)
  (c_law_narrow_by:Callee X "_law_narrow_by" bJ) (c_law_cell_at:Callee X "_law_cell_at" aG) (c_law_wide_by:Callee X "_law_wide_by" cC) (m_len:X.mg "len"=none) (m_max:X.mg "max"=none) (m_range:X.mg "range"=none) (c_law_bits_by:Callee X "_law_bits_by" aM) (c_law_square_by:Callee X "_law_square_by" bI) (c_law_mate_by:Callee X "_law_mate_by" cF) (c_law_near_by:Callee X "_law_near_by" cE) (c_law_same:Callee X "_law_same" eR):SSs X (ak mO) BJ:=by
 unfold BJ
 exact (ah (P.set 1 (P.call 0 c_law_narrow_by (a1 (P.call 1 c_law_cell_at (a2 ↥29 ai)))))
 (ah (P.set 2 (P.call 2 c_law_wide_by (a2 (P.v 1) (P.call 1 c_law_cell_at (a2 ↥29 ai)))))
 (ah (xv P.toSx L 3 rfl (P.sto _ (mG 3)) (Ju (P.w 3) m_range ai (dh (tq L.calm) sG (P.w 4) m_max boot_max (a2 ai (dh BY Bp (P.w 5) m_len PySem.boot_len (a1 ↥29)))) ai) (ah (P.set 4 (br (P.call 1 c_law_cell_at (a2 ↥29 (P.v 3))) ai))
 (ah (P.set 5 (P.call 6 c_law_bits_by (a2 (P.v 1) (cq (P.call 1 c_law_cell_at (a2 ↥29 (P.v 3))) ai))))
 (ah (P.if_ (t_w (w_and ↥32 (tW (ft hr (br (P.call 1 c_law_cell_at (a2 ↥29 (aJ (P.v 3) ai))) ai) ai)))) (ao (P.set 5 (P.call 7 c_law_square_by (a2 (P.v 1) (cq (P.call 1 c_law_cell_at (a2 ↥29 (aJ (P.v 3) ai))) ai))))) aA)
 (ah (P.set 6 (P.call 8 c_law_mate_by (aj (P.v 1) (aj (P.v 5) (aj (P.call 1 c_law_cell_at (a2 ↥29 (aJ (P.v 3) ai))) (aj (BP hr (P.v 4) ai) bZ))))))
 (ah (P.if_ (rJ (P.v 4) ai) (ao (P.set 6 (P.call 9 c_law_near_by (a3 (P.v 1) (P.v 5) (P.call 1 c_law_cell_at (a2 ↥29 (aJ (P.v 3) ai))))))) aA)
 (ao (P.if_ (rH (iA (P.call 10 c_law_same (aj (P.v 4) (aj (P.v 1) (aj (P.v 2) (aj (P.v 5) (aj (P.v 6) bZ)))))))) (ao (P.ret CL)) aA))))))))
 (ao (P.ret CL)))))
end
theorem all_mk {P:Program} {w:World} {K:PySem.W.Frag} {h:Heap} {mg:Str->Option Value} {fa:Addr} (KX:K.In h) (GG:h.Ns mainGlobals mg) (hfa:mg "law"=some (.ref fa))
  {C_Way:Addr} (n_Way:PySem.W.nsIn K mainGlobals "Way"=some (some (.ref C_Way)))
  (pg_Way:PySem.W.plainGet K C_Way Str.empty=true) (hd_Way:PySem.W.hasDictIn K C_Way=true) (po_Way:PySem.W.plainOver K C_Way=true) (sa_Way:PySem.W.findIn K (.ref C_Way) "__setattr__"=some (some (.builtin "object.__setattr__")))
  (na_Way:PySem.W.findIn K (.ref C_Way) "name"=some none)
  {fIWay:Addr} {odIWay anIWay:Option Addr} {slIWay:Array (Option Value)} {ocIWay kVIWay dcIWay pmIWay cdIWay ctIWay:Value}
  (aIWay:PySem.W.findIn K (.ref C_Way) "__init__"=some (some (.ref fIWay))) (uIWay:PySem.W.isFn K (.ref fIWay)=true) (mm_Way:PySem.W.makesIn K C_Way=true) (kc_Way:PySem.W.keepIn K (.ref C_Way)=true)
  (lIWay:K.lookup fIWay=some ⟨ocIWay,odIWay,.func (PySem.W.fnOf "__init__" "Way.__init__" (eJ gZ) (ak gZ) (ae gZ) .none kVIWay dcIWay pmIWay anIWay cdIWay ctIWay),slIWay⟩)
  (eIWay:PySem.W.codeIn K cdIWay "Way.__init__"=true) (kIWay:PySem.W.keepIn K (.ref fIWay)=true)
  (q1:DA K "_law_narrow_by" cz)
  (q2:DA K "_law_wide_by" dm)
  (q3:DA K "_law_cell_at" du)
  (q4:DA K "_law_mixed" fE)
  (q5:DA K "_law_bits_by" dv)
  (q6:DA K "_law_odd_by" dY)
  (q7:DA K "_law_mate_by" dt)
  (q8:DA K "_law_square_by" cy)
  (q9:DA K "_law_near_by" dq)
  (q10:DA K "way_of" kH)
  (q11:DA K "sign_bit" gQ)
  (q12:DA K "width" ow)
  (q13:DA K "parted" kL)
  (q14:DA K "last_field" dZ)
  (q15:DA K "kind" ua)
  (q16:DA K "worth_fraction" b7)
  (q17:DA K "bias" ub)
  (q18:DA K "low" AL)
  (q19:DA K "worth" ou)
  (q20:DA K "fraction" gX)
  (q21:DA K "check_fraction" b9)
  (q22:DA K "scaled" kJ)
  (q23:DA K "rest_by_middle" b8)
  (q24:DA K "rest_of" iO)
  (q25:DA K "height" kN)
  (q26:DA K "cut" AM)
  (q27:DA K "endless" iR)
  (q28:DA K "signed" kI)
  (q29:DA K "lost_flags" dX)
  {f30:Addr} {od30 an30:Option Addr} {sl30:Array (Option Value)} {oc30 kV30 dc30 pm30 cd30 ct30:Value}
  (a30:PySem.W.findIn K (.ref C_Way) "flees_nought"=some (some (.ref f30))) (u30:PySem.W.isFn K (.ref f30)=true)
  (l30:K.lookup f30=some ⟨oc30,od30,.func (PySem.W.fnOf "flees_nought" "Way.flees_nought" (eJ aK) (ak aK) (ae aK) .none kV30 dc30 pm30 an30 cd30 ct30),sl30⟩)
  (e30:PySem.W.codeIn K cd30 "Way.flees_nought"=true) (k30:PySem.W.keepIn K (.ref f30)=true)
  {f31:Addr} {od31 an31:Option Addr} {sl31:Array (Option Value)} {oc31 kV31 dc31 pm31 cd31 ct31:Value}
  (a31:PySem.W.findIn K (.ref C_Way) "grows"=some (some (.ref f31))) (u31:PySem.W.isFn K (.ref f31)=true)
  (l31:K.lookup f31=some ⟨oc31,od31,.func (PySem.W.fnOf "grows" "Way.grows" (eJ cg) (ak cg) (ae cg) .none kV31 dc31 pm31 an31 cd31 ct31),sl31⟩)
  (e31:PySem.W.codeIn K cd31 "Way.grows"=true) (k31:PySem.W.keepIn K (.ref f31)=true)
  {f32:Addr} {od32 an32:Option Addr} {sl32:Array (Option Value)} {oc32 kV32 dc32 pm32 cd32 ct32:Value}
  (a32:PySem.W.findIn K (.ref C_Way) "bursts"=some (some (.ref f32))) (u32:PySem.W.isFn K (.ref f32)=true)
  (l32:K.lookup f32=some ⟨oc32,od32,.func (PySem.W.fnOf "bursts" "Way.bursts" (eJ bH) (ak bH) (ae bH) .none kV32 dc32 pm32 an32 cd32 ct32),sl32⟩)
  (e32:PySem.W.codeIn K cd32 "Way.bursts"=true) (k32:PySem.W.keepIn K (.ref f32)=true)
  (q33:DA K "settled" iM)
  (q34:DA K "rounded" iN)
  (q35:DA K "no_number" fB)
  (q36:DA K "changed" iT)
  (q37:DA K "any_none" gY)
  (q38:DA K "whole_root" dU)
  (q39:DA K "root_rest" fA)
  (q40:DA K "root_cut" gR)
  (q41:DA K "rooted" kK)
  (q42:DA K "total" ox)
  (q43:DA K "nought_sign" dk)
  (q44:DA K "settled_total" cv)
  (q45:DA K "settled_terms" cw)
  (q46:DA K "number_term" dj)
  (q47:DA K "product_term" cT)
  (q48:DA K "product_wrong" cx)
  (q49:DA K "settled_sum" di)
  (q50:DA K "added" oz)
  (q51:DA K "joined" kM)
  (q52:DA K "negated" iP)
  (q53:DA K "taken" oy)
  (q54:DA K "multiplied" dW)
  (q55:DA K "quotient" gS)
  (q56:DA K "divided" iS)
  (q57:DA K "_law_told" gU)
  (q58:DA K "_law_whole" fD)
  (q59:DA K "_law_two" iQ)
  (q60:DA K "_law_same" gW)
  {f61:Addr} {od61 an61:Option Addr} {sl61:Array (Option Value)} {oc61 kV61 dc61 pm61 cd61 ct61:Value}
  (a61:PySem.W.nsIn K mainGlobals "law"=some (some (.ref f61)))
  (l61:K.lookup f61=some ⟨oc61,od61,.func (PySem.W.fnOf "law" "law" (eJ mO) (ak mO) (ae mO) .none kV61 dc61 pm61 an61 cd61 ct61),sl61⟩)
  (e61:PySem.W.codeIn K cd61 "law"=true) (k61:PySem.W.keepIn K (.ref f61)=true)
  (z_len:PySem.W.nsIn K mainGlobals "len"=some none)
  (z_min:PySem.W.nsIn K mainGlobals "min"=some none)
  (z_max:PySem.W.nsIn K mainGlobals "max"=some none)
  (z_abs:PySem.W.nsIn K mainGlobals "abs"=some none)
  (z_list:PySem.W.nsIn K mainGlobals "list"=some none)
  (z_any:PySem.W.nsIn K mainGlobals "any"=some none)
  (z_int:PySem.W.nsIn K mainGlobals "int"=some none)
  (z_isinstance:PySem.W.nsIn K mainGlobals "isinstance"=some none)
  (z_bool:PySem.W.nsIn K mainGlobals "bool"=some none)
  (z_tuple:PySem.W.nsIn K mainGlobals "tuple"=some none)
  (z_range:PySem.W.nsIn K mainGlobals "range"=some none)
  {A_NAMES:Addr} {dd_NAMES:Option Addr} {nn_NAMES:Nat} {ss_NAMES:Array (Option Value)} {t0_NAMES t1_NAMES t2_NAMES t3_NAMES t4_NAMES:Tok} (y_NAMES:PySem.W.nsIn K mainGlobals "NAMES"=some (some (.ref A_NAMES)))
  (yl_NAMES:K.lookup A_NAMES=some ⟨.type "tuple",dd_NAMES,.seq #[.str "even" t0_NAMES,.str "away" t1_NAMES,.str "nought" t2_NAMES,.str "up" t3_NAMES,.str "down" t4_NAMES] nn_NAMES,ss_NAMES⟩)
  {t_INEXACT:Tok} (y_INEXACT:PySem.W.nsIn K mainGlobals "INEXACT"=some (some (.int 1 t_INEXACT)))
  {t_GREAT:Tok} (y_GREAT:PySem.W.nsIn K mainGlobals "GREAT"=some (some (.int 4 t_GREAT)))
  {t_SMALL:Tok} (y_SMALL:PySem.W.nsIn K mainGlobals "SMALL"=some (some (.int 2 t_SMALL)))
  {t_WRONG:Tok} (y_WRONG:PySem.W.nsIn K mainGlobals "WRONG"=some (some (.int 16 t_WRONG)))
  {t_POLE:Tok} (y_POLE:PySem.W.nsIn K mainGlobals "POLE"=some (some (.int 8 t_POLE)))
  {C_MillError:Addr} (n_MillError:PySem.W.nsIn K mainGlobals "MillError"=some (some (.ref C_MillError)))
  {C_NoBits:Addr} (n_NoBits:PySem.W.nsIn K mainGlobals "NoBits"=some (some (.ref C_NoBits)))
  {C_NoParts:Addr} (n_NoParts:PySem.W.nsIn K mainGlobals "NoParts"=some (some (.ref C_NoParts)))
  {C_NotFinite:Addr} (n_NotFinite:PySem.W.nsIn K mainGlobals "NotFinite"=some (some (.ref C_NotFinite)))
  {C_NoWay:Addr} (n_NoWay:PySem.W.nsIn K mainGlobals "NoWay"=some (some (.ref C_NoWay)))
  {C_NoFraction:Addr} (n_NoFraction:PySem.W.nsIn K mainGlobals "NoFraction"=some (some (.ref C_NoFraction)))
  (xi_NoWay:PySem.W.excIn K C_NoWay bmV "ValueError.__new__"=true)
  (xi_NoBits:PySem.W.excIn K C_NoBits bmV "ValueError.__new__"=true)
  (xi_NotFinite:PySem.W.excIn K C_NotFinite bmV "ValueError.__new__"=true)
  (xi_NoFraction:PySem.W.excIn K C_NoFraction bmV "ValueError.__new__"=true)
  (xi_NoParts:PySem.W.excIn K C_NoParts bmV "ValueError.__new__"=true)
  (v_MillError:XCls K C_MillError)
  (w_NoSize:PySem.W.nsIn K mainGlobals "NoSize"=some none)
  (v_NoBits:XCls K C_NoBits)
  (v_NoParts:XCls K C_NoParts)
  (w_NoRank:PySem.W.nsIn K mainGlobals "NoRank"=some none)
  (v_NotFinite:XCls K C_NotFinite)
  (v_NoWay:XCls K C_NoWay)
  (w_NoFlags:PySem.W.nsIn K mainGlobals "NoFlags"=some none)
  (v_NoFraction:XCls K C_NoFraction)
  (w_Unlike:PySem.W.nsIn K mainGlobals "Unlike"=some none)
  (w_Empty:PySem.W.nsIn K mainGlobals "Empty"=some none)
  (w_NoLeft:PySem.W.nsIn K mainGlobals "NoLeft"=some none)
  (w_NoText:PySem.W.nsIn K mainGlobals "NoText"=some none)
  (w_NoRow:PySem.W.nsIn K mainGlobals "NoRow"=some none)
  (w_NoName:PySem.W.nsIn K mainGlobals "NoName"=some none)
  (w_Stopped:PySem.W.nsIn K mainGlobals "Stopped"=some none)
  (i_int_NoneType:PySem.W.kitOne K (.type "NoneType") (.type "int")=some false)
  (i_int_bool:PySem.W.kitOne K (.type "bool") (.type "int")=some true)
  (i_int_int:PySem.W.kitOne K (.type "int") (.type "int")=some true)
  (i_int_str:PySem.W.kitOne K (.type "str") (.type "int")=some false)
  (i_int_tuple:PySem.W.kitOne K ↥6 (.type "int")=some false)
  (i_int_list:PySem.W.kitOne K (.type "list") (.type "int")=some false)
  (i_bool_NoneType:PySem.W.kitOne K (.type "NoneType") (.type "bool")=some false)
  (i_bool_bool:PySem.W.kitOne K (.type "bool") (.type "bool")=some true)
  (i_bool_int:PySem.W.kitOne K (.type "int") (.type "bool")=some false)
  (i_bool_str:PySem.W.kitOne K (.type "str") (.type "bool")=some false)
  (i_bool_tuple:PySem.W.kitOne K ↥6 (.type "bool")=some false)
  (i_bool_list:PySem.W.kitOne K (.type "list") (.type "bool")=some false)
  (i_tuple_NoneType:PySem.W.kitOne K (.type "NoneType") ↥6=some false)
  (i_tuple_bool:PySem.W.kitOne K (.type "bool") ↥6=some false)
  (i_tuple_int:PySem.W.kitOne K (.type "int") ↥6=some false)
  (i_tuple_str:PySem.W.kitOne K (.type "str") ↥6=some false)
  (i_tuple_tuple:PySem.W.kitOne K ↥6 ↥6=some true)
  (i_tuple_list:PySem.W.kitOne K (.type "list") ↥6=some false)
  : ∃ fd:FuncData,(∀ (s:Shared) (v:Value),BindsTo s fd ⟨[v],[]⟩ [("_law_script",v)])/\∀ base:Heap,K.In base->base.Ns mainGlobals mg->FnOk P w K mg base (CXF P w) 12 fa fd ["_law_script"] (spP K mg A1):=by
 have e:=hfa.symm.trans (PySem.W.mg_of KX GG a61)
 cases e
 have q_Way:=PySem.W.mg_of KX GG n_Way
 have cl_Way:Cls K C_Way:=⟨pg_Way,hd_Way,po_Way,sa_Way⟩
 have m_len:=PySem.W.mg_none_of KX GG z_len
 have m_min:=PySem.W.mg_none_of KX GG z_min
 have m_max:=PySem.W.mg_none_of KX GG z_max
 have m_abs:=PySem.W.mg_none_of KX GG z_abs
 have m_list:=PySem.W.mg_none_of KX GG z_list
 have m_any:=PySem.W.mg_none_of KX GG z_any
 have m_int:=PySem.W.mg_none_of KX GG z_int
 have m_isinstance:=PySem.W.mg_none_of KX GG z_isinstance
 have m_bool:=PySem.W.mg_none_of KX GG z_bool
 have m_tuple:=PySem.W.mg_none_of KX GG z_tuple
 have m_range:=PySem.W.mg_none_of KX GG z_range
 have g_INEXACT:∃ t,mg "INEXACT"=some (.int 1 t):=⟨_,PySem.W.mg_of KX GG y_INEXACT⟩
 have g_GREAT:∃ t,mg "GREAT"=some (.int 4 t):=⟨_,PySem.W.mg_of KX GG y_GREAT⟩
 have g_SMALL:∃ t,mg "SMALL"=some (.int 2 t):=⟨_,PySem.W.mg_of KX GG y_SMALL⟩
 have g_WRONG:∃ t,mg "WRONG"=some (.int 16 t):=⟨_,PySem.W.mg_of KX GG y_WRONG⟩
 have g_POLE:∃ t,mg "POLE"=some (.int 8 t):=⟨_,PySem.W.mg_of KX GG y_POLE⟩
 have q_MillError:=PySem.W.mg_of KX GG n_MillError
 have q_NoBits:=PySem.W.mg_of KX GG n_NoBits
 have q_NoParts:=PySem.W.mg_of KX GG n_NoParts
 have q_NotFinite:=PySem.W.mg_of KX GG n_NotFinite
 have q_NoWay:=PySem.W.mg_of KX GG n_NoWay
 have q_NoFraction:=PySem.W.mg_of KX GG n_NoFraction
 have hXF:∀ n∈av,XF K mg n:=L8
  ⟨.inr ⟨_,q_MillError,v_MillError⟩⟩
  ⟨.inl (PySem.W.mg_none_of KX GG w_NoSize)⟩
  ⟨.inr ⟨_,q_NoBits,v_NoBits⟩⟩
  ⟨.inr ⟨_,q_NoParts,v_NoParts⟩⟩
  ⟨.inl (PySem.W.mg_none_of KX GG w_NoRank)⟩
  ⟨.inr ⟨_,q_NotFinite,v_NotFinite⟩⟩
  ⟨.inr ⟨_,q_NoWay,v_NoWay⟩⟩
  ⟨.inl (PySem.W.mg_none_of KX GG w_NoFlags)⟩
  ⟨.inr ⟨_,q_NoFraction,v_NoFraction⟩⟩
  ⟨.inl (PySem.W.mg_none_of KX GG w_Unlike)⟩
  ⟨.inl (PySem.W.mg_none_of KX GG w_Empty)⟩
  ⟨.inl (PySem.W.mg_none_of KX GG w_NoLeft)⟩
  ⟨.inl (PySem.W.mg_none_of KX GG w_NoText)⟩
  ⟨.inl (PySem.W.mg_none_of KX GG w_NoRow)⟩
  ⟨.inl (PySem.W.mg_none_of KX GG w_NoName)⟩
  ⟨.inl (PySem.W.mg_none_of KX GG w_Stopped)⟩
 refine ⟨PySem.W.fnOf "law" "law" (eJ mO) (ak mO) (ae mO) .none kV61 dc61 pm61 an61 cd61 ct61,fun s v=>.of_eq rfl,fun base _ _ => ?_⟩
 have FIWay:=m9 (st:=gZ) lIWay eIWay kIWay
 have BIWay:=cj (ps:=["self","name"]) FIWay rfl fun _ _ _ _ _ _ _ _=>rfl
 have JIWay:FnOk P w K mg base CX0 1 fIWay _ ["self","name"] (spI K "name"):=Fz (k:=0) FIWay ⟨rfl,rfl,rfl,by decide +kernel,by decide +kernel,by decide +kernel,by decide +kernel⟩ (by decide +kernel) (by decide +kernel) (by decide +kernel) (by decide +kernel) rfl (fun _=>rfl)
 have D1:FnP P w K mg base "_law_narrow_by" 1 bJ:=q1.fn KX GG kA rfl rfl (eA · rfl fun _ _ _ _ _ _ _=>rfl) fun X hr L O Pl hS =>
  ma (X:=at5 X P w K mg base) hr L O Pl hS
 have D2:FnP P w K mg base "_law_wide_by" 1 cC:=q2.fn KX GG mI rfl rfl (cj · rfl fun _ _ _ _ _ _ _ _=>rfl) fun X hr L O Pl hS =>
  pL (X:=at5 X P w K mg base) hr L O Pl hS
 have D3:FnP P w K mg base "_law_cell_at" 1 aG:=q3.fn KX GG mL rfl rfl (cj · rfl fun _ _ _ _ _ _ _ _=>rfl) fun X hr L O Pl hS =>
  pO (X:=at5 X P w K mg base) hr L O Pl hS m_len
 have D4:FnP P w K mg base "_law_mixed" 1 bK:=q4.fn KX GG p9 rfl rfl (cj · rfl fun _ _ _ _ _ _ _ _=>rfl) fun X hr L O Pl hS =>
  tJ (X:=at5 X P w K mg base) hr L O Pl hS
 have D5:FnP P w K mg base "_law_bits_by" 2 aM:=q5.fn KX GG mM rfl rfl (cj · rfl fun _ _ _ _ _ _ _ _=>rfl) fun X hr L O Pl hS =>
  pP (X:=at5 X P w K mg base) hr L O Pl hS (D4.c hr) m_min m_max
 have D6:FnP P w K mg base "_law_odd_by" 3 cX:=q6.fn KX GG om rfl rfl (cj · rfl fun _ _ _ _ _ _ _ _=>rfl) fun X hr L O Pl hS =>
  qP (X:=at5 X P w K mg base) hr L O Pl hS (D5.c hr)
 have D7:FnP P w K mg base "_law_mate_by" 4 cF:=q7.fn KX GG mK rfl rfl (gy · rfl fun _ _ _ _ _ _ _ _ _ _=>rfl) fun X hr L O Pl hS =>
  pN (X:=at5 X P w K mg base) hr L O Pl hS m_min m_max (D4.c hr) (D6.c hr) (D5.c hr)
 have D8:FnP P w K mg base "_law_square_by" 1 bI:=q8.fn KX GG kz rfl rfl (cj · rfl fun _ _ _ _ _ _ _ _=>rfl) fun X hr L O Pl hS =>
  l9 (X:=at5 X P w K mg base) hr L O Pl hS m_min
 have D9:FnP P w K mg base "_law_near_by" 3 cE:=q9.fn KX GG mJ rfl rfl (fj · rfl fun _ _ _ _ _ _ _ _ _=>rfl) fun X hr L O Pl hS =>
  pM (X:=at5 X P w K mg base) hr L O Pl hS m_max (D5.c hr)
 have D10:FnP P w K mg base "way_of" 3 aY:=q10.fn KX GG xj rfl rfl (eA · rfl fun _ _ _ _ _ _ _=>rfl) fun X hr L O Pl hS =>
  B1 (X:=at5 X P w K mg base) hr L O Pl hS (FG (ss:=["even","away","nought","up","down"]) (PySem.W.mg_of KX GG y_NAMES) yl_NAMES (pW (ts:=[t0_NAMES,t1_NAMES,t2_NAMES,t3_NAMES,t4_NAMES]) rfl rfl) (Nat.le_of_ble_eq_true rfl)) q_NoWay xi_NoWay ⟨⟨C_Way,_,1,_,_,q_Way,cl_Way,na_Way,⟨mm_Way,aIWay,uIWay,kc_Way⟩,JIWay,hr.mono ↥1,BIWay⟩⟩
 have D11:FnP P w K mg base "sign_bit" 1 bC:=q11.fn KX GG rO rfl rfl (eA · rfl fun _ _ _ _ _ _ _=>rfl) fun X hr L O Pl hS =>
  vZ (X:=at5 X P w K mg base) hr L O Pl hS
 have D12:FnP P w K mg base "width" 1 lK:=q12.fn KX GG AG rfl rfl (eA · rfl fun _ _ _ _ _ _ _=>rfl) fun X hr L O Pl hS =>
  Gd (X:=at5 X P w K mg base) hr L O Pl hS
 have D13:FnP P w K mg base "parted" 2 aR:=q13.fn KX GG xn rfl rfl (cj · rfl fun _ _ _ _ _ _ _ _=>rfl) fun X hr L O Pl hS =>
  B5 (X:=at5 X P w K mg base) hr L O Pl hS (D12.c hr) q_NoBits xi_NoBits (D11.c hr)
 have D14:FnP P w K mg base "last_field" 1 aQ:=q14.fn KX GG oo rfl rfl (eA · rfl fun _ _ _ _ _ _ _=>rfl) fun X hr L O Pl hS =>
  qQ (X:=at5 X P w K mg base) hr L O Pl hS
 have D15:FnP P w K mg base "kind" 3 a9:=q15.fn KX GG Ei rfl rfl (cj · rfl fun _ _ _ _ _ _ _ _=>rfl) fun X hr L O Pl hS =>
  JP (X:=at5 X P w K mg base) hr L O Pl hS (D13.c hr) (D14.c hr)
 have D16:FnP P w K mg base "worth_fraction" 1 aT:=q16.fn KX GG jO rfl rfl (eA · rfl fun _ _ _ _ _ _ _=>rfl) fun X hr L O Pl hS =>
  kE (X:=at5 X P w K mg base) hr L O Pl hS
 have D17:FnP P w K mg base "bias" 1 qf:=q17.fn KX GG Ej rfl rfl (eA · rfl fun _ _ _ _ _ _ _=>rfl) fun X hr L O Pl hS =>
  JQ (X:=at5 X P w K mg base) hr L O Pl hS
 have D18:FnP P w K mg base "low" 2 iW:=q18.fn KX GG HA rfl rfl (eA · rfl fun _ _ _ _ _ _ _=>rfl) fun X hr L O Pl hS =>
  LW (X:=at5 X P w K mg base) hr L O Pl hS (D17.c hr)
 have D19:FnP P w K mg base "worth" 3 iE:=q19.fn KX GG AF rfl rfl (cj · rfl fun _ _ _ _ _ _ _ _=>rfl) fun X hr L O Pl hS =>
  Ga (X:=at5 X P w K mg base) hr L O Pl hS (D13.c hr) (D14.c hr) q_NotFinite xi_NotFinite (D18.c hr)
 have D20:FnP P w K mg base "fraction" 4 bw:=q20.fn KX GG rT rfl rfl (cj · rfl fun _ _ _ _ _ _ _ _=>rfl) fun X hr L O Pl hS =>
  wd (X:=at5 X P w K mg base) hr L O Pl hS (D16.c hr) (D19.c hr)
 have D21:FnP P w K mg base "check_fraction" 1 aV:=q21.fn KX GG jQ rfl rfl (cj · rfl fun _ _ _ _ _ _ _ _=>rfl) fun X hr L O Pl hS =>
  kG (X:=at5 X P w K mg base) hr L O Pl hS q_NoFraction xi_NoFraction
 have D22:FnP P w K mg base "scaled" 1 dw:=q22.fn KX GG xl rfl rfl (fj · rfl fun _ _ _ _ _ _ _ _ _=>rfl) fun X hr L O Pl hS =>
  B3 (X:=at5 X P w K mg base) hr L O Pl hS
 have D23:FnP P w K mg base "rest_by_middle" 1 aU:=q23.fn KX GG jP rfl rfl (fj · rfl fun _ _ _ _ _ _ _ _ _=>rfl) fun X hr L O Pl hS =>
  kF (X:=at5 X P w K mg base) hr L O Pl hS
 have D24:FnP P w K mg base "rest_of" 2 gm:=q24.fn KX GG vo rfl rfl (cj · rfl fun _ _ _ _ _ _ _ _=>rfl) fun X hr L O Pl hS =>
  zo (X:=at5 X P w K mg base) hr L O Pl hS (D23.c hr)
 have D25:FnP P w K mg base "height" 2 fF:=q25.fn KX GG xr rfl rfl (cj · rfl fun _ _ _ _ _ _ _ _=>rfl) fun X hr L O Pl hS =>
  B7 (X:=at5 X P w K mg base) hr L O Pl hS (D22.c hr)
 have D26:FnP P w K mg base "cut" 3 sA:=q26.fn KX GG HC rfl rfl (fj · rfl fun _ _ _ _ _ _ _ _ _=>rfl) fun X hr L O Pl hS =>
  LY (X:=at5 X P w K mg base) hr L O Pl hS (D21.c hr) (D18.c hr) (D25.c hr) m_max (D22.c hr) (D24.c hr)
 have D27:FnP P w K mg base "endless" 2 aN:=q27.fn KX GG vr rfl rfl (eA · rfl fun _ _ _ _ _ _ _=>rfl) fun X hr L O Pl hS =>
  zr (X:=at5 X P w K mg base) hr L O Pl hS (D14.c hr)
 have D28:FnP P w K mg base "signed" 2 bj:=q28.fn KX GG xk rfl rfl (fj · rfl fun _ _ _ _ _ _ _ _ _=>rfl) fun X hr L O Pl hS =>
  B2 (X:=at5 X P w K mg base) hr L O Pl hS (D11.c hr)
 have D29:FnP P w K mg base "lost_flags" 3 cW:=q29.fn KX GG oj rfl rfl (fj · rfl fun _ _ _ _ _ _ _ _ _=>rfl) fun X hr L O Pl hS =>
  qO (X:=at5 X P w K mg base) hr L O Pl hS (D27.c hr) g_INEXACT g_GREAT g_SMALL
 have F30:=m9 (st:=aK) l30 e30 k30
 have B30:=cj (ps:=["self","sign"]) F30 rfl fun _ _ _ _ _ _ _ _=>rfl
 have D30:=qy (P:=P) (w:=w) (mg:=mg) (base:=base) (n:=2) (m:=2) (g:=bq) (k:=0) F30 iC rfl rfl fun X hr L O Pl hS=>by
  exact jq (X:=at5 X P w K mg base) hr L O Pl hS ⟨⟨C_Way,q_Way,cl_Way,na_Way⟩⟩
 have F31:=m9 (st:=cg) l31 e31 k31
 have B31:=gy (ps:=["self","sign","odd","rest"]) F31 rfl fun _ _ _ _ _ _ _ _ _ _=>rfl
 have D31:=qy (P:=P) (w:=w) (mg:=mg) (base:=base) (n:=4) (m:=4) (g:=dR) (k:=1) F31 qb rfl rfl fun X hr L O Pl hS=>by
  exact tK (X:=at5 X P w K mg base) hr L O Pl hS ⟨⟨C_Way,q_Way,cl_Way,na_Way⟩⟩ ⟨⟨C_Way,f30,1,_,_,q_Way,cl_Way,⟨a30,u30,k30⟩,D30,hr.mono ↥1,B30⟩⟩
 have F32:=m9 (st:=bH) l32 e32 k32
 have B32:=cj (ps:=["self","sign"]) F32 rfl fun _ _ _ _ _ _ _ _=>rfl
 have D32:=qy (P:=P) (w:=w) (mg:=mg) (base:=base) (n:=2) (m:=2) (g:=cZ) (k:=1) F32 ot rfl rfl fun X hr L O Pl hS=>by
  exact qR (X:=at5 X P w K mg base) hr L O Pl hS ⟨⟨C_Way,q_Way,cl_Way,na_Way⟩⟩ ⟨⟨C_Way,f30,1,_,_,q_Way,cl_Way,⟨a30,u30,k30⟩,D30,hr.mono ↥1,B30⟩⟩
 have D33:FnP P w K mg base "settled" 4 dM:=q33.fn KX GG vm rfl rfl (JO · rfl fun _ _ _ _ _ _ _ _ _ _ _ _=>rfl) fun X hr L O Pl hS =>
  zl (X:=at5 X P w K mg base) hr L O Pl hS (D10.c hr) (D18.c hr) (D27.c hr) ⟨⟨C_Way,f32,2,_,_,q_Way,cl_Way,⟨a32,u32,k32⟩,D32,hr.mono ↥1,B32⟩⟩ (D28.c hr) g_INEXACT g_GREAT ⟨⟨C_Way,f31,2,_,_,q_Way,cl_Way,⟨a31,u31,k31⟩,D31,hr.mono ↥1,B31⟩⟩ (D29.c hr)
 have D34:FnP P w K mg base "rounded" 5 bo:=q34.fn KX GG vn rfl rfl (CS · rfl fun _ _ _ _ _ _ _ _ _ _ _=>rfl) fun X hr L O Pl hS =>
  zm (X:=at5 X P w K mg base) hr L O Pl hS (D10.c hr) (D26.c hr) (D33.c hr)
 have D35:FnP P w K mg base "no_number" 3 aD:=q35.fn KX GG p7 rfl rfl (eA · rfl fun _ _ _ _ _ _ _=>rfl) fun X hr L O Pl hS =>
  tG (X:=at5 X P w K mg base) hr L O Pl hS (D27.c hr)
 have D36:FnP P w K mg base "changed" 6 aX:=q36.fn KX GG vu rfl rfl (gy · rfl fun _ _ _ _ _ _ _ _ _ _=>rfl) fun X hr L O Pl hS =>
  zu (X:=at5 X P w K mg base) hr L O Pl hS (D10.c hr) (D15.c hr) (D35.c hr) (D28.c hr) (D13.c hr) (D27.c hr) (D20.c hr) (D34.c hr)
 have D37:FnP P w K mg base "any_none" 4 ba:=q37.fn KX GG rV rfl rfl (cj · rfl fun _ _ _ _ _ _ _ _=>rfl) fun X hr L O Pl hS =>
  we (X:=at5 X P w K mg base) hr L O Pl hS (D15.c hr)
 have D38:FnP P w K mg base "whole_root" 1 cV:=q38.fn KX GG oh rfl rfl (eA · rfl fun _ _ _ _ _ _ _=>rfl) fun X hr L O Pl hS =>
  qM (X:=at5 X P w K mg base) hr L O Pl hS q_NoFraction xi_NoFraction
 have D39:FnP P w K mg base "root_rest" 2 dN:=q39.fn KX GG p6 rfl rfl (fj · rfl fun _ _ _ _ _ _ _ _ _=>rfl) fun X hr L O Pl hS =>
  tu (X:=at5 X P w K mg base) hr L O Pl hS (D23.c hr)
 have D40:FnP P w K mg base "root_cut" 3 eO:=q40.fn KX GG rP rfl rfl (fj · rfl fun _ _ _ _ _ _ _ _ _=>rfl) fun X hr L O Pl hS =>
  v5 (X:=at5 X P w K mg base) hr L O Pl hS (D21.c hr) (D18.c hr) (D25.c hr) m_max (D22.c hr) (D38.c hr) (D39.c hr)
 have D41:FnP P w K mg base "rooted" 5 bE:=q41.fn KX GG xm rfl rfl (fj · rfl fun _ _ _ _ _ _ _ _ _=>rfl) fun X hr L O Pl hS =>
  B4 (X:=at5 X P w K mg base) hr L O Pl hS (D10.c hr) (D37.c hr) (D35.c hr) (D15.c hr) (D27.c hr) (D13.c hr) g_WRONG (D20.c hr) (D40.c hr) (D33.c hr)
 have D42:FnP P w K mg base "total" 1 lL:=q42.fn KX GG AH rfl rfl (eA · rfl fun _ _ _ _ _ _ _=>rfl) fun X hr L O Pl hS =>
  Ge (X:=at5 X P w K mg base) hr L O Pl hS m_min m_abs
 have D43:FnP P w K mg base "nought_sign" 4 cA:=q43.fn KX GG mH rfl rfl (cj · rfl fun _ _ _ _ _ _ _ _=>rfl) fun X hr L O Pl hS =>
  pK (X:=at5 X P w K mg base) hr L O Pl hS (D10.c hr)
 have D44:FnP P w K mg base "settled_total" 6 aE:=q44.fn KX GG ku rfl rfl (fj · rfl fun _ _ _ _ _ _ _ _ _=>rfl) fun X hr L O Pl hS =>
  l6 (X:=at5 X P w K mg base) hr L O Pl hS (D16.c hr) (D42.c hr) (D43.c hr) (D28.c hr) (D34.c hr)
 have D45:FnP P w K mg base "settled_terms" 7 aP:=q45.fn KX GG kv rfl rfl (fj · rfl fun _ _ _ _ _ _ _ _ _=>rfl) fun X hr L O Pl hS =>
  l7 (X:=at5 X P w K mg base) hr L O Pl hS (D35.c hr) g_WRONG m_len (D28.c hr) (D27.c hr) (D44.c hr)
 have D46:FnP P w K mg base "number_term" 4 aF:=q46.fn KX GG mF rfl rfl (cj · rfl fun _ _ _ _ _ _ _ _=>rfl) fun X hr L O Pl hS =>
  pJ (X:=at5 X P w K mg base) hr L O Pl hS (D15.c hr) (D13.c hr) (D19.c hr)
 have D47:FnP P w K mg base "product_term" 5 bD:=q47.fn KX GG ly rfl rfl (fj · rfl fun _ _ _ _ _ _ _ _ _=>rfl) fun X hr L O Pl hS =>
  mR (X:=at5 X P w K mg base) hr L O Pl hS (D46.c hr)
 have D48:FnP P w K mg base "product_wrong" 4 bg:=q48.fn KX GG ky rfl rfl (fj · rfl fun _ _ _ _ _ _ _ _ _=>rfl) fun X hr L O Pl hS =>
  l8 (X:=at5 X P w K mg base) hr L O Pl hS (D15.c hr)
 have D49:FnP P w K mg base "settled_sum" 8 ar:=q49.fn KX GG mE rfl rfl (gy · rfl fun _ _ _ _ _ _ _ _ _ _=>rfl) fun X hr L O Pl hS =>
  pI (X:=at5 X P w K mg base) hr L O Pl hS (D10.c hr) m_list (D37.c hr) (D35.c hr) (D48.c hr) m_any g_WRONG (D47.c hr) (D45.c hr) (D46.c hr)
 have D50:FnP P w K mg base "added" 9 eG:=q50.fn KX GG AJ rfl rfl (gy · rfl fun _ _ _ _ _ _ _ _ _ _=>rfl) fun X hr L O Pl hS =>
  Gg (X:=at5 X P w K mg base) hr L O Pl hS (D49.c hr)
 have D51:FnP P w K mg base "joined" 2 iX:=q51.fn KX GG xo rfl rfl (gy · rfl fun _ _ _ _ _ _ _ _ _ _=>rfl) fun X hr L O Pl hS =>
  B6 (X:=at5 X P w K mg base) hr L O Pl hS q_NoParts xi_NoParts (D14.c hr) (D11.c hr)
 have D52:FnP P w K mg base "negated" 3 gn:=q52.fn KX GG vp rfl rfl (cj · rfl fun _ _ _ _ _ _ _ _=>rfl) fun X hr L O Pl hS =>
  zp (X:=at5 X P w K mg base) hr L O Pl hS (D13.c hr) (D51.c hr)
 have D53:FnP P w K mg base "taken" 9 iF:=q53.fn KX GG AI rfl rfl (gy · rfl fun _ _ _ _ _ _ _ _ _ _=>rfl) fun X hr L O Pl hS =>
  Gf (X:=at5 X P w K mg base) hr L O Pl hS (D10.c hr) (D49.c hr) (D52.c hr)
 have D54:FnP P w K mg base "multiplied" 9 bx:=q54.fn KX GG oi rfl rfl (gy · rfl fun _ _ _ _ _ _ _ _ _ _=>rfl) fun X hr L O Pl hS =>
  qN (X:=at5 X P w K mg base) hr L O Pl hS (D49.c hr)
 have D55:FnP P w K mg base "quotient" 6 eQ:=q55.fn KX GG rQ rfl rfl (gy · rfl fun _ _ _ _ _ _ _ _ _ _=>rfl) fun X hr L O Pl hS =>
  v7 (X:=at5 X P w K mg base) hr L O Pl hS (D34.c hr)
 have D56:FnP P w K mg base "divided" 7 dO:=q56.fn KX GG vt rfl rfl (gy · rfl fun _ _ _ _ _ _ _ _ _ _=>rfl) fun X hr L O Pl hS =>
  zt (X:=at5 X P w K mg base) hr L O Pl hS (D10.c hr) (D37.c hr) (D35.c hr) (D15.c hr) g_WRONG (D13.c hr) (D28.c hr) (D27.c hr) g_POLE (D55.c hr) (D20.c hr)
 have D57:FnP P w K mg base "_law_told" 10 cQ:=q57.fn KX GG rR rfl rfl (gy · rfl fun _ _ _ _ _ _ _ _ _ _=>rfl) fun X hr L O Pl hS =>
  v9 (X:=at5 X P w K mg base) hr L O Pl hS (D50.c hr) (D53.c hr) (D54.c hr) (D56.c hr) (D41.c hr)
 have D58:FnP P w K mg base "_law_whole" 1 cP:=q58.fn KX GG p8 rfl rfl (eA · rfl fun _ _ _ _ _ _ _=>rfl) fun X hr L O Pl hS =>
  tH (X:=at5 X P w K mg base) hr L O Pl hS m_int (yG ↥1 i_int_NoneType i_int_bool i_int_int i_int_str i_int_tuple i_int_list) (qz (wH hXF)) m_isinstance m_bool (yG ↥1 i_bool_NoneType i_bool_bool i_bool_int i_bool_str i_bool_tuple i_bool_list)
 have D59:FnP P w K mg base "_law_two" 2 cD:=q59.fn KX GG vq rfl rfl (eA · rfl fun _ _ _ _ _ _ _=>rfl) fun X hr L O Pl hS =>
  zq (X:=at5 X P w K mg base) hr L O Pl hS m_tuple (yG ↥1 i_tuple_NoneType i_tuple_bool i_tuple_int i_tuple_str i_tuple_tuple i_tuple_list) (qz (wH hXF)) m_isinstance m_len (D58.c hr)
 have D60:FnP P w K mg base "_law_same" 11 eR:=q60.fn KX GG rS rfl rfl (CS · rfl fun _ _ _ _ _ _ _ _ _ _ _=>rfl) fun X hr L O Pl hS =>
  wc (X:=at5 X P w K mg base) hr L O Pl hS (D36.c hr) (D57.c hr) (D59.c hr)
 have F61:=m9 (st:=mO) l61 e61 k61
 ·refine qy (k:=11) F61 HB rfl rfl fun X hr L O Pl hS => ?_
  exact LX (X:=at5 X P w K mg base) hr L O Pl hS (D1.c hr) (D3.c hr) (D2.c hr) m_len m_max m_range (D5.c hr) (D8.c hr) (D7.c hr) (D9.c hr) (D60.c hr)
end T
namespace H
open PySem PySem.W PySem.Spec PyProof.Rows L2 EV ES
noncomputable section
abbrev vS (x:Str) (n:Nat):Value:=.str x n
abbrev vI (x:Int) (n:Nat):Value:=.int x n
abbrev r (n:Addr):Value:=.ref n
abbrev z (x:Int):Value:=.int x 0
abbrev c (n:Nat):Value:=.str "/claim/cut.py" n
abbrev en (P:Params) (x:Str) (n:Nat) (v:Value):DictEntry:=⟨PyData.keyHash P x,.str x n,v⟩
abbrev sqO (c:Value) (a:Array Value):Obj:=⟨c,none,.seq a 0,#[]⟩
abbrev fiO (c:Value) (a:Array Value):Obj:=⟨c,none,.fields a,#[]⟩
abbrev diO (c:Value) (a:Array DictEntry) (n:Nat):Obj:=⟨c,none,.dict a n,#[]⟩
abbrev fnO (c:Value) (x q:Str) (s:Stmt) (g:Addr) (cl:List (Str×Addr)) (d k dc m:Value) (an:Option Addr) (cd ct:Value) (b:Addr):Obj:=⟨c,none,.func ⟨x,q,eJ s,.stmts (ak s),ae s,g,cl,d,k,dc,m,an,cd,ct,b⟩,#[]⟩
abbrev cd (x:Str) (a b d:Nat) (l k:Int) (p:Addr) (w:Int) (q s t u:Addr) (m:Int) (e:Nat):Obj:=fiO (.type "code") #[vS x a,vS x b,c d,z l,z k,z 0,z 0,z 3,r p,.bool true,z w,r q,.none,r s,r t,r u,z m,z l,c e]
abbrev fu (x:Str) (n:Nat) (g:Addr) (m:Str) (b:Nat) (d:Addr):Obj:=fnO (.type "function") x x (T.top n) g [] .none .none .none (vS m b) none (r d) .none 0
abbrev fv (x:Str) (n:Nat):Obj:=fnO .none x x (T.top n) 0 [] .none .none .none .none none .none .none 0
abbrev N:BT:=.nil
abbrev L (o:Obj):BT:=.node o .nil .nil
abbrev B (o:Obj) (l r:BT):BT:=.node o l r
def cut (n:Nat) (t:BT):Nat->Nat->BT := @BT.rec (fun _=>Nat->Nat->BT) (fun _ _=>.nil) (fun v _ _ l r a b => @Bool.rec (fun _=>BT) .nil (.node v (l (Nat.mul 2 a) (Nat.add a b)) (r (Nat.mul 2 a) (Nat.add (Nat.mul 2 a) b))) (Nat.blt b n)) t
def o0:Obj:=sqO ↥6 #[]
def o1:Obj:=fiO .none #[]
def o2:Obj:=fiO (.type "code") #[(vS "<module>" 182),(vS "<module>" 183),(c 184),(z 1),(z 0),(z 0),(z 0),(z 0),(r 11),(.bool false),(z 181),(r 12),.none,.none,.none,.none,(z 185),(z 1),(c 186)]
def o3:Obj:=(Obj.mk (.type "frame") none Data.plain #[(some (r 13)),(some (r 3)),(some (r 3)),none,(some (vS "__main__" 164)),none,(some (r 0))])
def o4 (P:Params):Obj:=diO (.type "dict") #[(en P "__name__" 165 (vS "roundmill.sizes" 287)),(en P "__doc__" 166 .none),(en P "__package__" 167 .none),(en P "__loader__" 168 (.builtin "__main__.__loader__#opaque")),(en P "__spec__" 169 .none),(en P "__annotations__" 170 (r 6)),(en P "__builtins__" 171 (r 4)),(en P "__file__" 173 (c 172)),(en P "__cached__" 174 .none),(en P "MillError" 206 (r 24)),(en P "NoBits" 222 (r 37)),(en P "NoParts" 238 (r 49)),(en P "NotFinite" 254 (r 61)),(en P "NoWay" 270 (r 73)),(en P "NoFraction" 286 (r 85)),(en P "width" 295 (r 94))] 16
def o5:Obj:=fiO .none #[(z 2),(z 0),(r 20),(z 4),(z 0),(r 33),(z 6),(z 0),(r 45),(z 8),(z 0),(r 57),(z 10),(z 0),(r 69),(z 12),(z 0),(r 81),(z 15),(z 0),(r 93)]
def o6:Obj:=sqO ↥6 #[(.type "ValueError")]
def o7:Obj:=fiO (.type "builtin_function_or_method") #[(.builtin "type.__prepare__"),(.type "type")]
def o8 (P:Params):Obj:=diO (.type "dict") #[(en P "__module__" 196 ↥20),(en P "__qualname__" 198 (vS "MillError" 197)),(en P "__firstlineno__" 200 (vI 2 199)),(en P "__static_attributes__" 201 (r 22))] 4
def o9:Obj:=fiO (.type "code") #[(vS "MillError" 191),(vS "MillError" 192),(c 193),(z 2),(z 0),(z 0),(z 0),(z 0),(r 18),(.bool false),(z 181),(r 19),.none,.none,.none,.none,(z 194),(z 2),(c 195)]
def o10:Obj:=(Obj.mk (.type "frame") none Data.plain #[(some (r 20)),(some (r 3)),(some (r 17)),none,(some ↥20),none,(some (r 0))])
def o11 (P:Params):Obj:=diO (.type "dict") #[(en P "__module__" 196 ↥20),(en P "__firstlineno__" 200 (vI 2 199)),(en P "__static_attributes__" 201 (r 22)),(en P "__weakref__" 203 (r 25)),(en P "__doc__" 204 .none)] 3
def o12:Obj:=(Obj.mk (.type "type") none (Data.cls (ClassData.mk "MillError" [(.type "ValueError")] [(r 24),(.type "ValueError"),(.type "Exception"),(.type "BaseException"),(.type "object")] 23 "MillError" true [] [(r 37),(r 49),(r 61),(r 73),(r 85)] false none false)) #[(some (r 15)),none,(some (vS "MillError" 189)),(some (vS "MillError" 197)),(some (.builtin "ValueError.__new__")),(some (.bool true))])
def o13:Obj:=fiO (.type "getset_descriptor") #[(vS "__weakref__" 202),(r 24),(.builtin "ExceptionGroup.__weakref__"),.none]
def o14:Obj:=fiO (.type "super") #[(r 24),(r 24),(r 24)]
def o15:Obj:=fiO (.type "builtin_function_or_method") #[(.builtin "object.__init_subclass__"),(r 24)]
def o16:Obj:=sqO ↥6 #[(r 24)]
def o17 (P:Params):Obj:=diO (.type "dict") #[(en P "__module__" 214 ↥20),(en P "__qualname__" 216 (vS "NoBits" 215)),(en P "__firstlineno__" 218 (vI 4 217)),(en P "__static_attributes__" 219 (r 35))] 4
def o18:Obj:=fiO (.type "code") #[(vS "NoBits" 209),(vS "NoBits" 210),(c 211),(z 4),(z 0),(z 0),(z 0),(z 0),(r 31),(.bool false),(z 181),(r 32),.none,.none,.none,.none,(z 212),(z 4),(c 213)]
def o19:Obj:=(Obj.mk (.type "frame") none Data.plain #[(some (r 33)),(some (r 3)),(some (r 30)),none,(some ↥20),none,(some (r 0))])
def o20 (P:Params):Obj:=diO (.type "dict") #[(en P "__module__" 214 ↥20),(en P "__firstlineno__" 218 (vI 4 217)),(en P "__static_attributes__" 219 (r 35)),(en P "__doc__" 220 .none)] 2
def o21:Obj:=(Obj.mk (.type "type") none (Data.cls (ClassData.mk "NoBits" [(r 24)] [(r 37),(r 24),(.type "ValueError"),(.type "Exception"),(.type "BaseException"),(.type "object")] 36 "NoBits" true [] [] false none false)) #[(some (r 28)),none,(some (vS "NoBits" 207)),(some (vS "NoBits" 215)),(some (.builtin "ValueError.__new__")),(some (.bool true))])
def o22:Obj:=fiO (.type "super") #[(r 37),(r 37),(r 37)]
def o23:Obj:=fiO (.type "builtin_function_or_method") #[(.builtin "object.__init_subclass__"),(r 37)]
def o24 (P:Params):Obj:=diO (.type "dict") #[(en P "__module__" 230 ↥20),(en P "__qualname__" 232 (vS "NoParts" 231)),(en P "__firstlineno__" 234 (vI 6 233)),(en P "__static_attributes__" 235 (r 47))] 4
def o25:Obj:=fiO (.type "code") #[(vS "NoParts" 225),(vS "NoParts" 226),(c 227),(z 6),(z 0),(z 0),(z 0),(z 0),(r 43),(.bool false),(z 181),(r 44),.none,.none,.none,.none,(z 228),(z 6),(c 229)]
def o26:Obj:=(Obj.mk (.type "frame") none Data.plain #[(some (r 45)),(some (r 3)),(some (r 42)),none,(some ↥20),none,(some (r 0))])
def o27 (P:Params):Obj:=diO (.type "dict") #[(en P "__module__" 230 ↥20),(en P "__firstlineno__" 234 (vI 6 233)),(en P "__static_attributes__" 235 (r 47)),(en P "__doc__" 236 .none)] 2
def o28:Obj:=(Obj.mk (.type "type") none (Data.cls (ClassData.mk "NoParts" [(r 24)] [(r 49),(r 24),(.type "ValueError"),(.type "Exception"),(.type "BaseException"),(.type "object")] 48 "NoParts" true [] [] false none false)) #[(some (r 40)),none,(some (vS "NoParts" 223)),(some (vS "NoParts" 231)),(some (.builtin "ValueError.__new__")),(some (.bool true))])
def o29:Obj:=fiO (.type "super") #[(r 49),(r 49),(r 49)]
def o30:Obj:=fiO (.type "builtin_function_or_method") #[(.builtin "object.__init_subclass__"),(r 49)]
def o31 (P:Params):Obj:=diO (.type "dict") #[(en P "__module__" 246 ↥20),(en P "__qualname__" 248 (vS "NotFinite" 247)),(en P "__firstlineno__" 250 (vI 8 249)),(en P "__static_attributes__" 251 (r 59))] 4
def o32:Obj:=fiO (.type "code") #[(vS "NotFinite" 241),(vS "NotFinite" 242),(c 243),(z 8),(z 0),(z 0),(z 0),(z 0),(r 55),(.bool false),(z 181),(r 56),.none,.none,.none,.none,(z 244),(z 8),(c 245)]
def o33:Obj:=(Obj.mk (.type "frame") none Data.plain #[(some (r 57)),(some (r 3)),(some (r 54)),none,(some ↥20),none,(some (r 0))])
def o34 (P:Params):Obj:=diO (.type "dict") #[(en P "__module__" 246 ↥20),(en P "__firstlineno__" 250 (vI 8 249)),(en P "__static_attributes__" 251 (r 59)),(en P "__doc__" 252 .none)] 2
def o35:Obj:=(Obj.mk (.type "type") none (Data.cls (ClassData.mk "NotFinite" [(r 24)] [(r 61),(r 24),(.type "ValueError"),(.type "Exception"),(.type "BaseException"),(.type "object")] 60 "NotFinite" true [] [] false none false)) #[(some (r 52)),none,(some (vS "NotFinite" 239)),(some (vS "NotFinite" 247)),(some (.builtin "ValueError.__new__")),(some (.bool true))])
def o36:Obj:=fiO (.type "super") #[(r 61),(r 61),(r 61)]
def o37:Obj:=fiO (.type "builtin_function_or_method") #[(.builtin "object.__init_subclass__"),(r 61)]
def o38 (P:Params):Obj:=diO (.type "dict") #[(en P "__module__" 262 ↥20),(en P "__qualname__" 264 (vS "NoWay" 263)),(en P "__firstlineno__" 266 (vI 10 265)),(en P "__static_attributes__" 267 (r 71))] 4
def o39:Obj:=fiO (.type "code") #[(vS "NoWay" 257),(vS "NoWay" 258),(c 259),(z 10),(z 0),(z 0),(z 0),(z 0),(r 67),(.bool false),(z 181),(r 68),.none,.none,.none,.none,(z 260),(z 10),(c 261)]
def o40:Obj:=(Obj.mk (.type "frame") none Data.plain #[(some (r 69)),(some (r 3)),(some (r 66)),none,(some ↥20),none,(some (r 0))])
def o41 (P:Params):Obj:=diO (.type "dict") #[(en P "__module__" 262 ↥20),(en P "__firstlineno__" 266 (vI 10 265)),(en P "__static_attributes__" 267 (r 71)),(en P "__doc__" 268 .none)] 2
def o42:Obj:=(Obj.mk (.type "type") none (Data.cls (ClassData.mk "NoWay" [(r 24)] [(r 73),(r 24),(.type "ValueError"),(.type "Exception"),(.type "BaseException"),(.type "object")] 72 "NoWay" true [] [] false none false)) #[(some (r 64)),none,(some (vS "NoWay" 255)),(some (vS "NoWay" 263)),(some (.builtin "ValueError.__new__")),(some (.bool true))])
def o43:Obj:=fiO (.type "super") #[(r 73),(r 73),(r 73)]
def o44:Obj:=fiO (.type "builtin_function_or_method") #[(.builtin "object.__init_subclass__"),(r 73)]
def o45 (P:Params):Obj:=diO (.type "dict") #[(en P "__module__" 278 ↥20),(en P "__qualname__" 280 (vS "NoFraction" 279)),(en P "__firstlineno__" 282 (vI 12 281)),(en P "__static_attributes__" 283 (r 83))] 4
def o46:Obj:=fiO (.type "code") #[(vS "NoFraction" 273),(vS "NoFraction" 274),(c 275),(z 12),(z 0),(z 0),(z 0),(z 0),(r 79),(.bool false),(z 181),(r 80),.none,.none,.none,.none,(z 276),(z 12),(c 277)]
def o47:Obj:=(Obj.mk (.type "frame") none Data.plain #[(some (r 81)),(some (r 3)),(some (r 78)),none,(some ↥20),none,(some (r 0))])
def o48 (P:Params):Obj:=diO (.type "dict") #[(en P "__module__" 278 ↥20),(en P "__firstlineno__" 282 (vI 12 281)),(en P "__static_attributes__" 283 (r 83)),(en P "__doc__" 284 .none)] 2
def o49:Obj:=(Obj.mk (.type "type") none (Data.cls (ClassData.mk "NoFraction" [(r 24)] [(r 85),(r 24),(.type "ValueError"),(.type "Exception"),(.type "BaseException"),(.type "object")] 84 "NoFraction" true [] [] false none false)) #[(some (r 76)),none,(some (vS "NoFraction" 271)),(some (vS "NoFraction" 279)),(some (.builtin "ValueError.__new__")),(some (.bool true))])
def o50:Obj:=fiO (.type "super") #[(r 85),(r 85),(r 85)]
def o51:Obj:=fiO (.type "builtin_function_or_method") #[(.builtin "object.__init_subclass__"),(r 85)]
def o52:Obj:=sqO ↥6 #[(vS "size" 292)]
def o53:Obj:=fv "width" 8
def o54:Obj:=cd "width" 289 290 291 15 1 88 181 89 90 91 92 293 294
def o55:Obj:=fu "width" 8 3 "roundmill.sizes" 287 93
def o56 (P:Params):Obj:=diO (.type "dict") #[(en P "__name__" 165 (vS "roundmill.changing" 626)),(en P "__doc__" 166 .none),(en P "__package__" 167 .none),(en P "__loader__" 168 (.builtin "__main__.__loader__#opaque")),(en P "__spec__" 169 .none),(en P "__annotations__" 170 (r 6)),(en P "__builtins__" 171 (r 4)),(en P "__file__" 173 (c 172)),(en P "__cached__" 174 .none),(en P "MillError" 206 (r 24)),(en P "NoBits" 222 (r 37)),(en P "NoParts" 238 (r 49)),(en P "NotFinite" 254 (r 61)),(en P "NoWay" 270 (r 73)),(en P "NoFraction" 286 (r 85)),(en P "width" 295 (r 94)),(en P "bias" 302 (r 101)),(en P "low" 309 (r 108)),(en P "sign_bit" 316 (r 115)),(en P "last_field" 323 (r 122)),(en P "endless" 330 (r 129)),(en P "no_number" 337 (r 136)),(en P "parted" 349 (r 143)),(en P "joined" 359 (r 150)),(en P "kind" 370 (r 157)),(en P "worth" 382 (r 164)),(en P "worth_fraction" 391 (r 171)),(en P "fraction" 399 (r 178)),(en P "signed" 408 (r 185)),(en P "negated" 417 (r 192)),(en P "check_fraction" 427 (r 199)),(en P "scaled" 436 (r 206)),(en P "height" 446 (r 213)),(en P "rest_by_middle" 455 (r 220)),(en P "rest_of" 463 (r 227)),(en P "cut" 474 (r 234)),(en P "whole_root" 482 (r 241)),(en P "root_rest" 492 (r 248)),(en P "root_cut" 505 (r 255)),(en P "INEXACT" 507 (vI 1 506)),(en P "SMALL" 509 (vI 2 508)),(en P "GREAT" 511 (vI 4 510)),(en P "POLE" 513 (vI 8 512)),(en P "WRONG" 515 (vI 16 514)),(en P "NAMES" 523 (r 256)),(en P "Way" 578 (r 294)),(en P "way_of" 585 (r 305)),(en P "settled" 603 (r 312)),(en P "lost_flags" 613 (r 319)),(en P "rounded" 625 (r 326))] 50
def o57:Obj:=fiO .none #[(z 2),(z 0),(r 20),(z 4),(z 0),(r 33),(z 6),(z 0),(r 45),(z 8),(z 0),(r 57),(z 10),(z 0),(r 69),(z 12),(z 0),(r 81),(z 15),(z 0),(r 93),(z 17),(z 0),(r 100),(z 19),(z 0),(r 107),(z 21),(z 0),(r 114),(z 23),(z 0),(r 121),(z 25),(z 0),(r 128),(z 27),(z 0),(r 135),(z 30),(z 0),(r 142),(z 36),(z 0),(r 149),(z 44),(z 0),(r 156),(z 53),(z 0),(r 163),(z 63),(z 0),(r 170),(z 69),(z 0),(r 177),(z 71),(z 0),(r 184),(z 73),(z 0),(r 191),(z 77),(z 0),(r 198),(z 80),(z 0),(r 205),(z 84),(z 0),(r 212),(z 88),(z 0),(r 219),(z 94),(z 0),(r 226),(z 96),(z 0),(r 233),(z 103),(z 0),(r 240),(z 110),(z 0),(r 247),(z 113),(z 0),(r 254),(z 129),(z 0),(r 262),(z 152),(z 0),(r 304),(z 157),(z 0),(r 311),(z 168),(z 0),(r 318),(z 173),(z 0),(r 325)]
def o58:Obj:=sqO ↥6 #[(vS "size" 299)]
def o59:Obj:=fv "bias" 9
def o60:Obj:=cd "bias" 296 297 298 17 1 95 181 96 97 98 99 300 301
def o61:Obj:=fu "bias" 9 3 "roundmill.sizes" 287 100
def o62:Obj:=sqO ↥6 #[(vS "size" 306)]
def o63:Obj:=fv "low" 10
def o64:Obj:=cd "low" 303 304 305 19 1 102 181 103 104 105 106 307 308
def o65:Obj:=fu "low" 10 3 "roundmill.sizes" 287 107
def o66:Obj:=sqO ↥6 #[(vS "size" 313)]
def o67:Obj:=fv "sign_bit" 11
def o68:Obj:=cd "sign_bit" 310 311 312 21 1 109 181 110 111 112 113 314 315
def o69:Obj:=fu "sign_bit" 11 3 "roundmill.sizes" 287 114
def o70:Obj:=sqO ↥6 #[(vS "size" 320)]
def o71:Obj:=fv "last_field" 12
def o72:Obj:=cd "last_field" 317 318 319 23 1 116 181 117 118 119 120 321 322
def o73:Obj:=fu "last_field" 12 3 "roundmill.sizes" 287 121
def o74:Obj:=sqO ↥6 #[(vS "size" 327)]
def o75:Obj:=fv "endless" 13
def o76:Obj:=cd "endless" 324 325 326 25 1 123 181 124 125 126 127 328 329
def o77:Obj:=fu "endless" 13 3 "roundmill.sizes" 287 128
def o78:Obj:=sqO ↥6 #[(vS "size" 334)]
def o79:Obj:=fv "no_number" 14
def o80:Obj:=cd "no_number" 331 332 333 27 1 130 181 131 132 133 134 335 336
def o81:Obj:=fu "no_number" 14 3 "roundmill.sizes" 287 135
def o82:Obj:=sqO ↥6 #[(vS "size" 343),(vS "bits" 344),(vS "code" 345),(vS "step" 346)]
def o83:Obj:=fv "parted" 16
def o84:Obj:=cd "parted" 340 341 342 30 2 137 181 138 139 140 141 347 348
def o85:Obj:=fu "parted" 16 3 "roundmill.parts" 338 142
def o86:Obj:=sqO ↥6 #[(vS "size" 353),(vS "sign" 354),(vS "field" 355),(vS "figures" 356)]
def o87:Obj:=fv "joined" 17
def o88:Obj:=cd "joined" 350 351 352 36 4 144 181 145 146 147 148 357 358
def o89:Obj:=fu "joined" 17 3 "roundmill.parts" 338 149
def o90:Obj:=sqO ↥6 #[(vS "size" 363),(vS "bits" 364),(vS "parts" 365),(vS "field" 366),(vS "figures" 367)]
def o91:Obj:=fv "kind" 18
def o92:Obj:=cd "kind" 360 361 362 44 2 151 181 152 153 154 155 368 369
def o93:Obj:=fu "kind" 18 3 "roundmill.parts" 338 156
def o94:Obj:=sqO ↥6 #[(vS "size" 374),(vS "bits" 375),(vS "parts" 376),(vS "sign" 377),(vS "field" 378),(vS "figures" 379)]
def o95:Obj:=fv "worth" 19
def o96:Obj:=cd "worth" 371 372 373 53 2 158 181 159 160 161 162 380 381
def o97:Obj:=fu "worth" 19 3 "roundmill.parts" 338 163
def o98:Obj:=sqO ↥6 #[(vS "value" 386),(vS "whole" 387),(vS "power" 388)]
def o99:Obj:=fv "worth_fraction" 20
def OV:Obj:=cd "worth_fraction" 383 384 385 63 1 165 181 166 167 168 169 389 390
def OU:Obj:=fu "worth_fraction" 20 3 "roundmill.parts" 338 170
def OT:Obj:=sqO ↥6 #[(vS "size" 395),(vS "bits" 396)]
def QL:Obj:=fv "fraction" 21
def OS:Obj:=cd "fraction" 392 393 394 69 2 172 181 173 174 175 176 397 398
def OR:Obj:=fu "fraction" 21 3 "roundmill.parts" 338 177
def OP:Obj:=sqO ↥6 #[(vS "size" 403),(vS "sign" 404),(vS "code" 405)]
def QK:Obj:=fv "signed" 22
def OO:Obj:=cd "signed" 400 401 402 71 3 179 181 180 181 182 183 406 407
def ON:Obj:=fu "signed" 22 3 "roundmill.parts" 338 184
def OM:Obj:=sqO ↥6 #[(vS "size" 412),(vS "bits" 413),(vS "parts" 414)]
def QJ:Obj:=fv "negated" 23
def OL:Obj:=cd "negated" 409 410 411 73 2 186 181 187 188 189 190 415 416
def OK:Obj:=fu "negated" 23 3 "roundmill.parts" 338 191
def OJ:Obj:=sqO ↥6 #[(vS "top" 423),(vS "bottom" 424)]
def QI:Obj:=fv "check_fraction" 25
def OI:Obj:=cd "check_fraction" 420 421 422 77 2 193 181 194 195 196 197 425 426
def OH:Obj:=fu "check_fraction" 25 3 "roundmill.cutting" 418 198
def OG:Obj:=sqO ↥6 #[(vS "top" 431),(vS "bottom" 432),(vS "power" 433)]
def QH:Obj:=fv "scaled" 26
def OF:Obj:=cd "scaled" 428 429 430 80 3 200 181 201 202 203 204 434 435
def OE:Obj:=fu "scaled" 26 3 "roundmill.cutting" 418 205
def OD:Obj:=sqO ↥6 #[(vS "top" 440),(vS "bottom" 441),(vS "guess" 442),(vS "parts" 443)]
def QG:Obj:=fv "height" 27
def OC:Obj:=cd "height" 437 438 439 84 2 207 181 208 209 210 211 444 445
def OB:Obj:=fu "height" 27 3 "roundmill.cutting" 418 212
def OA:Obj:=sqO ↥6 #[(vS "over" 450),(vS "number" 451),(vS "middle" 452)]
def QF:Obj:=fv "rest_by_middle" 28
def Oz:Obj:=cd "rest_by_middle" 447 448 449 88 3 214 181 215 216 217 218 453 454
def Oy:Obj:=fu "rest_by_middle" 28 3 "roundmill.cutting" 418 219
def Ox:Obj:=sqO ↥6 #[(vS "over" 459),(vS "step" 460)]
def QE:Obj:=fv "rest_of" 29
def Ow:Obj:=cd "rest_of" 456 457 458 94 2 221 181 222 223 224 225 461 462
def Ov:Obj:=fu "rest_of" 29 3 "roundmill.cutting" 418 226
def Ou:Obj:=sqO ↥6 #[(vS "size" 467),(vS "top" 468),(vS "bottom" 469),(vS "power" 470),(vS "parts" 471)]
def QD:Obj:=fv "cut" 30
def Ot:Obj:=cd "cut" 464 465 466 96 3 228 181 229 230 231 232 472 473
def Oq:Obj:=fu "cut" 30 3 "roundmill.cutting" 418 233
def Oo:Obj:=sqO ↥6 #[(vS "number" 478),(vS "root" 479)]
def QC:Obj:=fv "whole_root" 31
def Om:Obj:=cd "whole_root" 475 476 477 103 1 235 181 236 237 238 239 480 481
def Ol:Obj:=fu "whole_root" 31 3 "roundmill.cutting" 418 240
def Oj:Obj:=sqO ↥6 #[(vS "top" 486),(vS "bottom" 487),(vS "root" 488),(vS "middle" 489)]
def QB:Obj:=fv "root_rest" 32
def Oi:Obj:=cd "root_rest" 483 484 485 110 3 242 181 243 244 245 246 490 491
def Oh:Obj:=fu "root_rest" 32 3 "roundmill.cutting" 418 247
def Og:Obj:=sqO ↥6 #[(vS "size" 496),(vS "top" 497),(vS "bottom" 498),(vS "root_height" 499),(vS "power" 500),(vS "parts" 501),(vS "root" 502)]
def QA:Obj:=fv "root_cut" 33
def Of:Obj:=cd "root_cut" 493 494 495 113 3 249 181 250 251 252 253 503 504
def Oe:Obj:=fu "root_cut" 33 3 "roundmill.cutting" 418 254
def Od:Obj:=sqO ↥6 #[(vS "even" 518),(vS "away" 519),(vS "nought" 520),(vS "up" 521),(vS "down" 522)]
def Qz (P:Params):Obj:=diO (.type "dict") #[(en P "__module__" 531 (vS "roundmill.ways" 516)),(en P "__qualname__" 533 (vS "Way" 532)),(en P "__firstlineno__" 535 (vI 129 534)),(en P "__init__" 543 (r 270)),(en P "grows" 553 (r 277)),(en P "bursts" 561 (r 284)),(en P "flees_nought" 569 (r 291)),(en P "__static_attributes__" 571 (r 292))] 8
def Qy:Obj:=fiO .none #[(z 131),(z 4),(r 269),(z 134),(z 4),(r 276),(z 143),(z 4),(r 283),(z 148),(z 4),(r 290)]
def Qx:Obj:=fiO (.type "code") #[(vS "Way" 526),(vS "Way" 527),(c 528),(z 129),(z 0),(z 0),(z 0),(z 0),(r 260),(.bool false),(z 181),(r 261),.none,.none,.none,.none,(z 529),(z 129),(c 530)]
def Qw:Obj:=(Obj.mk (.type "frame") none Data.plain #[(some (r 262)),(some (r 3)),(some (r 259)),none,(some (vS "roundmill.ways" 516)),none,(some (r 0))])
def Oc:Obj:=sqO ↥6 #[(vS "self" 539),(vS "name" 540)]
def Qv:Obj:=fnO .none "__init__" "Way.__init__" ((dg (T.top 41)).getD 0 (.Pass ⟨0,0,0,0⟩)) 0 [] .none .none .none .none none .none .none 0
def Ob:Obj:=fiO (.type "code") #[(vS "__init__" 536),(vS "Way.__init__" 537),(c 538),(z 131),(z 2),(z 0),(z 0),(z 3),(r 264),(.bool true),(z 181),(r 265),.none,(r 266),(r 267),(r 268),(z 541),(z 131),(c 542)]
def Oa:Obj:=fnO (.type "function") "__init__" "Way.__init__" ((dg (T.top 41)).getD 0 (.Pass ⟨0,0,0,0⟩)) 3 [] .none .none .none (vS "roundmill.ways" 516) none (r 269) .none 0
def N9:Obj:=sqO ↥6 #[(vS "self" 547),(vS "sign" 548),(vS "odd" 549),(vS "rest" 550)]
def Qu:Obj:=fnO .none "grows" "Way.grows" ((dg (T.top 41)).getD 1 (.Pass ⟨0,0,0,0⟩)) 0 [] .none .none .none .none none .none .none 0
def N8:Obj:=fiO (.type "code") #[(vS "grows" 544),(vS "Way.grows" 545),(c 546),(z 134),(z 4),(z 0),(z 0),(z 3),(r 271),(.bool true),(z 181),(r 272),.none,(r 273),(r 274),(r 275),(z 551),(z 134),(c 552)]
def N7:Obj:=fnO (.type "function") "grows" "Way.grows" ((dg (T.top 41)).getD 1 (.Pass ⟨0,0,0,0⟩)) 3 [] .none .none .none (vS "roundmill.ways" 516) none (r 276) .none 0
def N6:Obj:=sqO ↥6 #[(vS "self" 557),(vS "sign" 558)]
def Qt:Obj:=fnO .none "bursts" "Way.bursts" ((dg (T.top 41)).getD 2 (.Pass ⟨0,0,0,0⟩)) 0 [] .none .none .none .none none .none .none 0
def N5:Obj:=fiO (.type "code") #[(vS "bursts" 554),(vS "Way.bursts" 555),(c 556),(z 143),(z 2),(z 0),(z 0),(z 3),(r 278),(.bool true),(z 181),(r 279),.none,(r 280),(r 281),(r 282),(z 559),(z 143),(c 560)]
def N4:Obj:=fnO (.type "function") "bursts" "Way.bursts" ((dg (T.top 41)).getD 2 (.Pass ⟨0,0,0,0⟩)) 3 [] .none .none .none (vS "roundmill.ways" 516) none (r 283) .none 0
def N3:Obj:=sqO ↥6 #[(vS "self" 565),(vS "sign" 566)]
def Qs:Obj:=fnO .none "flees_nought" "Way.flees_nought" ((dg (T.top 41)).getD 3 (.Pass ⟨0,0,0,0⟩)) 0 [] .none .none .none .none none .none .none 0
def N2:Obj:=fiO (.type "code") #[(vS "flees_nought" 562),(vS "Way.flees_nought" 563),(c 564),(z 148),(z 2),(z 0),(z 0),(z 3),(r 285),(.bool true),(z 181),(r 286),.none,(r 287),(r 288),(r 289),(z 567),(z 148),(c 568)]
def N1:Obj:=fnO (.type "function") "flees_nought" "Way.flees_nought" ((dg (T.top 41)).getD 3 (.Pass ⟨0,0,0,0⟩)) 3 [] .none .none .none (vS "roundmill.ways" 516) none (r 290) .none 0
def NZ:Obj:=sqO ↥6 #[(vS "name" 570)]
def NY (P:Params):Obj:=diO (.type "dict") #[(en P "__module__" 531 (vS "roundmill.ways" 516)),(en P "__firstlineno__" 535 (vI 129 534)),(en P "__init__" 543 (r 270)),(en P "grows" 553 (r 277)),(en P "bursts" 561 (r 284)),(en P "flees_nought" 569 (r 291)),(en P "__static_attributes__" 571 (r 292)),(en P "__dict__" 573 (r 295)),(en P "__weakref__" 575 (r 296)),(en P "__doc__" 576 .none)] 4
def NX:Obj:=(Obj.mk (.type "type") none (Data.cls (ClassData.mk "Way" [(.type "object")] [(r 294),(.type "object")] 293 "Way" true [] [] false none false)) #[none,none,(some (vS "Way" 524)),(some (vS "Way" 532)),(some (.builtin "object.__new__")),(some (.bool true))])
def NW:Obj:=fiO (.type "getset_descriptor") #[(vS "__dict__" 572),(r 294),(.builtin "function.__dict__"),(.builtin "function.__dict__#set")]
def NV:Obj:=fiO (.type "getset_descriptor") #[(vS "__weakref__" 574),(r 294),(.builtin "ExceptionGroup.__weakref__"),.none]
def Qr:Obj:=fiO (.type "super") #[(r 294),(r 294),(r 294)]
def Qq:Obj:=fiO (.type "builtin_function_or_method") #[(.builtin "object.__init_subclass__"),(r 294)]
def NU:Obj:=sqO ↥6 #[(vS "name" 582)]
def Qp:Obj:=fv "way_of" 42
def NT:Obj:=cd "way_of" 579 580 581 152 1 299 181 300 301 302 303 583 584
def NS:Obj:=fu "way_of" 42 3 "roundmill.ways" 516 304
def NR:Obj:=sqO ↥6 #[(vS "size" 591),(vS "way" 592),(vS "sign" 593),(vS "whole" 594),(vS "power" 595),(vS "rest" 596),(vS "chosen" 597),(vS "code" 598),(vS "end" 599),(vS "taken" 600)]
def Qo:Obj:=fv "settled" 44
def NQ:Obj:=cd "settled" 588 589 590 157 6 306 181 307 308 309 310 601 602
def NP:Obj:=fu "settled" 44 3 "roundmill.rounding" 586 311
def NO:Obj:=sqO ↥6 #[(vS "size" 607),(vS "code" 608),(vS "taken" 609),(vS "faint" 610)]
def Qn:Obj:=fv "lost_flags" 45
def NN:Obj:=cd "lost_flags" 604 605 606 168 3 313 181 314 315 316 317 611 612
def NM:Obj:=fu "lost_flags" 45 3 "roundmill.rounding" 586 318
def NL:Obj:=sqO ↥6 #[(vS "size" 617),(vS "way" 618),(vS "sign" 619),(vS "top" 620),(vS "bottom" 621),(vS "parts" 622)]
def Qm:Obj:=fv "rounded" 46
def NK:Obj:=cd "rounded" 614 615 616 173 5 320 181 321 322 323 324 623 624
def NJ:Obj:=fu "rounded" 46 3 "roundmill.rounding" 586 325
def NI (P:Params):Obj:=diO (.type "dict") #[(en P "__name__" 165 (vS "law_roundmill_k64_whole_wide" 778)),(en P "__doc__" 166 .none),(en P "__package__" 167 .none),(en P "__loader__" 168 (.builtin "__main__.__loader__#opaque")),(en P "__spec__" 169 .none),(en P "__annotations__" 170 (r 6)),(en P "__builtins__" 171 (r 4)),(en P "__file__" 173 (c 172)),(en P "__cached__" 174 .none),(en P "MillError" 206 (r 24)),(en P "NoBits" 222 (r 37)),(en P "NoParts" 238 (r 49)),(en P "NotFinite" 254 (r 61)),(en P "NoWay" 270 (r 73)),(en P "NoFraction" 286 (r 85)),(en P "width" 295 (r 94)),(en P "bias" 302 (r 101)),(en P "low" 309 (r 108)),(en P "sign_bit" 316 (r 115)),(en P "last_field" 323 (r 122)),(en P "endless" 330 (r 129)),(en P "no_number" 337 (r 136)),(en P "parted" 349 (r 143)),(en P "joined" 359 (r 150)),(en P "kind" 370 (r 157)),(en P "worth" 382 (r 164)),(en P "worth_fraction" 391 (r 171)),(en P "fraction" 399 (r 178)),(en P "signed" 408 (r 185)),(en P "negated" 417 (r 192)),(en P "check_fraction" 427 (r 199)),(en P "scaled" 436 (r 206)),(en P "height" 446 (r 213)),(en P "rest_by_middle" 455 (r 220)),(en P "rest_of" 463 (r 227)),(en P "cut" 474 (r 234)),(en P "whole_root" 482 (r 241)),(en P "root_rest" 492 (r 248)),(en P "root_cut" 505 (r 255)),(en P "INEXACT" 507 (vI 1 506)),(en P "SMALL" 509 (vI 2 508)),(en P "GREAT" 511 (vI 4 510)),(en P "POLE" 513 (vI 8 512)),(en P "WRONG" 515 (vI 16 514)),(en P "NAMES" 523 (r 256)),(en P "Way" 578 (r 294)),(en P "way_of" 585 (r 305)),(en P "settled" 603 (r 312)),(en P "lost_flags" 613 (r 319)),(en P "rounded" 625 (r 326)),(en P "changed" 639 (r 333)),(en P "total" 647 (r 338)),(en P "nought_sign" 655 (r 345)),(en P "settled_total" 661 (r 350)),(en P "any_none" 669 (r 355)),(en P "number_term" 677 (r 362)),(en P "product_wrong" 687 (r 369)),(en P "product_term" 699 (r 376)),(en P "settled_terms" 705 (r 381)),(en P "settled_sum" 711 (r 386)),(en P "added" 723 (r 393)),(en P "taken" 733 (r 400)),(en P "multiplied" 743 (r 407)),(en P "divided" 756 (r 414)),(en P "quotient" 766 (r 421)),(en P "rooted" 777 (r 428)),(en P "_law_cell_at" 787 (r 435)),(en P "_law_whole" 794 (r 442)),(en P "_law_mixed" 802 (r 449)),(en P "_law_bits_by" 817 (r 456)),(en P "_law_odd_by" 830 (r 463)),(en P "_law_near_by" 844 (r 470)),(en P "_law_mate_by" 861 (r 477)),(en P "_law_square_by" 875 (r 484)),(en P "_law_two" 882 (r 491)),(en P "_law_narrow_by" 889 (r 498)),(en P "_law_wide_by" 898 (r 505)),(en P "_law_told" 908 (r 512)),(en P "_law_same" 924 (r 519)),(en P "law" 937 (r 526))] 80
def Ql:Obj:=fiO .none #[(z 2),(z 0),(r 20),(z 4),(z 0),(r 33),(z 6),(z 0),(r 45),(z 8),(z 0),(r 57),(z 10),(z 0),(r 69),(z 12),(z 0),(r 81),(z 15),(z 0),(r 93),(z 17),(z 0),(r 100),(z 19),(z 0),(r 107),(z 21),(z 0),(r 114),(z 23),(z 0),(r 121),(z 25),(z 0),(r 128),(z 27),(z 0),(r 135),(z 30),(z 0),(r 142),(z 36),(z 0),(r 149),(z 44),(z 0),(r 156),(z 53),(z 0),(r 163),(z 63),(z 0),(r 170),(z 69),(z 0),(r 177),(z 71),(z 0),(r 184),(z 73),(z 0),(r 191),(z 77),(z 0),(r 198),(z 80),(z 0),(r 205),(z 84),(z 0),(r 212),(z 88),(z 0),(r 219),(z 94),(z 0),(r 226),(z 96),(z 0),(r 233),(z 103),(z 0),(r 240),(z 110),(z 0),(r 247),(z 113),(z 0),(r 254),(z 129),(z 0),(r 262),(z 152),(z 0),(r 304),(z 157),(z 0),(r 311),(z 168),(z 0),(r 318),(z 173),(z 0),(r 325),(z 178),(z 0),(r 332),(z 188),(z 0),(r 337),(z 195),(z 0),(r 344),(z 200),(z 0),(r 349),(z 207),(z 0),(r 354),(z 210),(z 0),(r 361),(z 214),(z 0),(r 368),(z 217),(z 0),(r 375),(z 224),(z 0),(r 380),(z 231),(z 0),(r 385),(z 243),(z 0),(r 392),(z 245),(z 0),(r 399),(z 248),(z 0),(r 406),(z 250),(z 0),(r 413),(z 266),(z 0),(r 420),(z 268),(z 0),(r 427),(z 280),(z 0),(r 434),(z 284),(z 0),(r 441),(z 286),(z 0),(r 448),(z 288),(z 0),(r 455),(z 308),(z 0),(r 462),(z 321),(z 0),(r 469),(z 340),(z 0),(r 476),(z 362),(z 0),(r 483),(z 372),(z 0),(r 490),(z 376),(z 0),(r 497),(z 382),(z 0),(r 504),(z 387),(z 0),(r 511),(z 397),(z 0),(r 518),(z 410),(z 0),(r 525)]
def NH:Obj:=sqO ↥6 #[(vS "size" 631),(vS "other" 632),(vS "way" 633),(vS "bits" 634),(vS "found" 635),(vS "value" 636)]
def Qk:Obj:=fv "changed" 48
def NG:Obj:=cd "changed" 628 629 630 178 4 327 181 328 329 330 331 637 638
def NF:Obj:=fu "changed" 48 3 "roundmill.changing" 626 332
def Qj:Obj:=fv "total" 50
def ND:Obj:=fiO (.type "code") #[(vS "total" 642),(vS "total" 643),(c 644),(z 188),(z 1),(z 0),(z 0),(z 3),(r 334),(.bool true),(z 181),(r 335),.none,.none,.none,(r 336),(z 645),(z 188),(c 646)]
def NC:Obj:=fu "total" 50 3 "roundmill.totals" 640 337
def NA:Obj:=sqO ↥6 #[(vS "way" 651),(vS "signs" 652)]
def Qi:Obj:=fv "nought_sign" 51
def Nz:Obj:=cd "nought_sign" 648 649 650 195 2 339 181 340 341 342 343 653 654
def Ny:Obj:=fu "nought_sign" 51 3 "roundmill.totals" 640 344
def Qh:Obj:=fv "settled_total" 52
def Nx:Obj:=fiO (.type "code") #[(vS "settled_total" 656),(vS "settled_total" 657),(c 658),(z 200),(z 3),(z 0),(z 0),(z 3),(r 346),(.bool true),(z 181),(r 347),.none,.none,.none,(r 348),(z 659),(z 200),(c 660)]
def Nw:Obj:=fu "settled_total" 52 3 "roundmill.totals" 640 349
def Qg:Obj:=fv "any_none" 54
def Nv:Obj:=fiO (.type "code") #[(vS "any_none" 664),(vS "any_none" 665),(c 666),(z 207),(z 2),(z 0),(z 0),(z 3),(r 351),(.bool true),(z 181),(r 352),.none,.none,.none,(r 353),(z 667),(z 207),(c 668)]
def Nu:Obj:=fu "any_none" 54 3 "roundmill.terms" 662 354
def Nt:Obj:=sqO ↥6 #[(vS "size" 673),(vS "bits" 674)]
def Qe:Obj:=fv "number_term" 55
def Nr:Obj:=cd "number_term" 670 671 672 210 2 356 181 357 358 359 360 675 676
def Nq:Obj:=fu "number_term" 55 3 "roundmill.terms" 662 361
def Np:Obj:=sqO ↥6 #[(vS "size" 681),(vS "a" 682),(vS "b" 683),(vS "kinds" 684)]
def Qd:Obj:=fv "product_wrong" 56
def Nn:Obj:=cd "product_wrong" 678 679 680 214 3 363 181 364 365 366 367 685 686
def Nm:Obj:=fu "product_wrong" 56 3 "roundmill.terms" 662 368
def Nl:Obj:=sqO ↥6 #[(vS "size" 691),(vS "a" 692),(vS "b" 693),(vS "left" 694),(vS "right" 695),(vS "sign" 696)]
def Qc:Obj:=fv "product_term" 57
def Nk:Obj:=cd "product_term" 688 689 690 217 3 370 181 371 372 373 374 697 698
def Nj:Obj:=fu "product_term" 57 3 "roundmill.terms" 662 375
def Qb:Obj:=fv "settled_terms" 58
def Ni:Obj:=fiO (.type "code") #[(vS "settled_terms" 700),(vS "settled_terms" 701),(c 702),(z 224),(z 3),(z 0),(z 0),(z 3),(r 377),(.bool true),(z 181),(r 378),.none,.none,.none,(r 379),(z 703),(z 224),(c 704)]
def Nh:Obj:=fu "settled_terms" 58 3 "roundmill.terms" 662 380
def Qa:Obj:=fv "settled_sum" 59
def Ng:Obj:=fiO (.type "code") #[(vS "settled_sum" 706),(vS "settled_sum" 707),(c 708),(z 231),(z 4),(z 0),(z 0),(z 3),(r 382),(.bool true),(z 181),(r 383),.none,.none,.none,(r 384),(z 709),(z 231),(c 710)]
def Nf:Obj:=fu "settled_sum" 59 3 "roundmill.terms" 662 385
def Nd:Obj:=sqO ↥6 #[(vS "size" 717),(vS "way" 718),(vS "a" 719),(vS "b" 720)]
def P9:Obj:=fv "added" 61
def Nc:Obj:=cd "added" 714 715 716 243 4 387 181 388 389 390 391 721 722
def Nb:Obj:=fu "added" 61 3 "roundmill.deeds" 712 392
def Na:Obj:=sqO ↥6 #[(vS "size" 727),(vS "way" 728),(vS "a" 729),(vS "b" 730)]
def P8:Obj:=fv "taken" 62
def M9:Obj:=cd "taken" 724 725 726 245 4 394 181 395 396 397 398 731 732
def M8:Obj:=fu "taken" 62 3 "roundmill.deeds" 712 399
def M7:Obj:=sqO ↥6 #[(vS "size" 737),(vS "way" 738),(vS "a" 739),(vS "b" 740)]
def P7:Obj:=fv "multiplied" 63
def M6:Obj:=cd "multiplied" 734 735 736 248 4 401 181 402 403 404 405 741 742
def M5:Obj:=fu "multiplied" 63 3 "roundmill.deeds" 712 406
def M4:Obj:=sqO ↥6 #[(vS "size" 747),(vS "way" 748),(vS "a" 749),(vS "b" 750),(vS "over" 751),(vS "under" 752),(vS "sign" 753)]
def P6:Obj:=fv "divided" 64
def M3:Obj:=cd "divided" 744 745 746 250 4 408 181 409 410 411 412 754 755
def M0:Obj:=fu "divided" 64 3 "roundmill.deeds" 712 413
def MZ:Obj:=sqO ↥6 #[(vS "size" 760),(vS "way" 761),(vS "over" 762),(vS "under" 763)]
def P5:Obj:=fv "quotient" 65
def MY:Obj:=cd "quotient" 757 758 759 266 4 415 181 416 417 418 419 764 765
def MX:Obj:=fu "quotient" 65 3 "roundmill.deeds" 712 420
def MW:Obj:=sqO ↥6 #[(vS "size" 770),(vS "way" 771),(vS "a" 772),(vS "value" 773),(vS "parts" 774)]
def P2:Obj:=fv "rooted" 66
def MV:Obj:=cd "rooted" 767 768 769 268 3 422 181 423 424 425 426 775 776
def MU:Obj:=fu "rooted" 66 3 "roundmill.deeds" 712 427
def MT:Obj:=sqO ↥6 #[(vS "_law_script" 783),(vS "_law_k" 784)]
def P1:Obj:=fv "_law_cell_at" 68
def MS:Obj:=cd "_law_cell_at" 780 781 782 280 2 429 181 430 431 432 433 785 786
def MR:Obj:=fu "_law_cell_at" 68 3 "law_roundmill_k64_whole_wide" 778 434
def MQ:Obj:=sqO ↥6 #[(vS "_law_found" 791)]
def PZ:Obj:=fv "_law_whole" 69
def MP:Obj:=cd "_law_whole" 788 789 790 284 1 436 181 437 438 439 440 792 793
def MO:Obj:=fu "_law_whole" 69 3 "law_roundmill_k64_whole_wide" 778 441
def MN:Obj:=sqO ↥6 #[(vS "_law_cell" 798),(vS "_law_many" 799)]
def PY:Obj:=fv "_law_mixed" 70
def MM:Obj:=cd "_law_mixed" 795 796 797 286 2 443 181 444 445 446 447 800 801
def ML:Obj:=fu "_law_mixed" 70 3 "law_roundmill_k64_whole_wide" 778 448
def MK:Obj:=sqO ↥6 #[(vS "_law_size" 806),(vS "_law_cell" 807),(vS "_law_top" 808),(vS "_law_last" 809),(vS "_law_way" 810),(vS "_law_rest" 811),(vS "_law_sign" 812),(vS "_law_code" 813),(vS "_law_field" 814)]
def PX:Obj:=fv "_law_bits_by" 71
def MJ:Obj:=cd "_law_bits_by" 803 804 805 288 2 450 181 451 452 453 454 815 816
def MI:Obj:=fu "_law_bits_by" 71 3 "law_roundmill_k64_whole_wide" 778 455
def MH:Obj:=sqO ↥6 #[(vS "_law_size" 821),(vS "_law_cell" 822),(vS "_law_top" 823),(vS "_law_last" 824),(vS "_law_way" 825),(vS "_law_rest" 826),(vS "_law_first" 827)]
def PV:Obj:=fv "_law_odd_by" 72
def MG:Obj:=cd "_law_odd_by" 818 819 820 308 2 457 181 458 459 460 461 828 829
def MF:Obj:=fu "_law_odd_by" 72 3 "law_roundmill_k64_whole_wide" 778 462
def ME:Obj:=sqO ↥6 #[(vS "_law_size" 834),(vS "_law_bits" 835),(vS "_law_cell" 836),(vS "_law_top" 837),(vS "_law_way" 838),(vS "_law_rest" 839),(vS "_law_field" 840),(vS "_law_code" 841)]
def PU:Obj:=fv "_law_near_by" 73
def MD:Obj:=cd "_law_near_by" 831 832 833 321 3 464 181 465 466 467 468 842 843
def MC:Obj:=fu "_law_near_by" 73 3 "law_roundmill_k64_whole_wide" 778 469
def MB:Obj:=sqO ↥6 #[(vS "_law_size" 848),(vS "_law_bits" 849),(vS "_law_cell" 850),(vS "_law_turned" 851),(vS "_law_top" 852),(vS "_law_middle" 853),(vS "_law_way" 854),(vS "_law_rest" 855),(vS "_law_goal" 856),(vS "_law_field" 857),(vS "_law_figures" 858)]
def PR:Obj:=fv "_law_mate_by" 74
def MA:Obj:=cd "_law_mate_by" 845 846 847 340 4 471 181 472 473 474 475 859 860
def Mz:Obj:=fu "_law_mate_by" 74 3 "law_roundmill_k64_whole_wide" 778 476
def Mx:Obj:=sqO ↥6 #[(vS "_law_size" 865),(vS "_law_cell" 866),(vS "_law_last" 867),(vS "_law_side" 868),(vS "_law_whole_here" 869),(vS "_law_spare" 870),(vS "_law_steps" 871),(vS "_law_power" 872)]
def PQ:Obj:=fv "_law_square_by" 75
def Mw:Obj:=cd "_law_square_by" 862 863 864 362 2 478 181 479 480 481 482 873 874
def Mv:Obj:=fu "_law_square_by" 75 3 "law_roundmill_k64_whole_wide" 778 483
def Mu:Obj:=sqO ↥6 #[(vS "_law_found" 879)]
def PN:Obj:=fv "_law_two" 76
def Mt:Obj:=cd "_law_two" 876 877 878 372 1 485 181 486 487 488 489 880 881
def Ms:Obj:=fu "_law_two" 76 3 "law_roundmill_k64_whole_wide" 778 490
def Mr:Obj:=sqO ↥6 #[(vS "_law_cell" 886)]
def PM:Obj:=fv "_law_narrow_by" 77
def Mq:Obj:=cd "_law_narrow_by" 883 884 885 376 1 492 181 493 494 495 496 887 888
def Mp:Obj:=fu "_law_narrow_by" 77 3 "law_roundmill_k64_whole_wide" 778 497
def Mo:Obj:=sqO ↥6 #[(vS "_law_size" 893),(vS "_law_cell" 894),(vS "_law_field" 895)]
def PL:Obj:=fv "_law_wide_by" 78
def Mn:Obj:=cd "_law_wide_by" 890 891 892 382 2 499 181 500 501 502 503 896 897
def Mm:Obj:=fu "_law_wide_by" 78 3 "law_roundmill_k64_whole_wide" 778 504
def Ml:Obj:=sqO ↥6 #[(vS "_law_which" 902),(vS "_law_size" 903),(vS "_law_a" 904),(vS "_law_b" 905)]
def PK:Obj:=fv "_law_told" 79
def Mj:Obj:=cd "_law_told" 899 900 901 387 4 506 181 507 508 509 510 906 907
def Mi:Obj:=fu "_law_told" 79 3 "law_roundmill_k64_whole_wide" 778 511
def Mh:Obj:=sqO ↥6 #[(vS "_law_which" 912),(vS "_law_size" 913),(vS "_law_wide" 914),(vS "_law_a" 915),(vS "_law_b" 916),(vS "_law_one" 917),(vS "_law_other" 918),(vS "_law_straight" 919),(vS "_law_there" 920),(vS "_law_back" 921)]
def PJ:Obj:=fv "_law_same" 80
def Mg:Obj:=cd "_law_same" 909 910 911 397 5 513 181 514 515 516 517 922 923
def Mf:Obj:=fu "_law_same" 80 3 "law_roundmill_k64_whole_wide" 778 518
def Me:Obj:=sqO ↥6 #[(vS "_law_script" 928),(vS "_law_size" 929),(vS "_law_wide" 930),(vS "_law_k" 931),(vS "_law_which" 932),(vS "_law_a" 933),(vS "_law_b" 934)]
def PH:Obj:=fv "law" 81
def Md:Obj:=cd "law" 925 926 927 410 1 520 181 521 522 523 524 935 936
def Mc:Obj:=fu "law" 81 3 "law_roundmill_k64_whole_wide" 778 525
def full (P:Params):BT:=(B (boot_o_0 P) (B (boot_o_1 P) (B (NI P) (B (boot_o_7 P) (B o6 (B o0 (B o37 (B o75 (B Oe (L Mj) N) (L o1)) (B OL (L NM) (L PY))) (B o0 (B o1 (L N3) (L o0)) (B Ox (L o0) (L o1)))) (B o0 (B o0 (B o85 (L o0) (L M9)) (B o0 (L o1) (L MF))) (B o66 (B o0 (L Qp) (L MT)) (B QC (L Qd) (L o0))))) (B (o11 P) (B o23 (B o0 (B o80 (B Qw (L Mf) N) (L P9)) (B OH (L o0) (L MJ))) (B o1 (B o98 (L NW) (L o1)) (B o0 (L o0) (L Mu)))) (B o0 (B o51 (B o0 (L o1) (L M5)) (B o1 (L Qi) (L o0))) (B o0 (B QK (L NQ) (L o0)) (B Oi (L Nk) (L PL)))))) (B o0 (B o1 (B o0 (B o0 (B o1 (B (Qz P) (L Mh) N) (L o0)) (B OJ (L o0) (L o1))) (B o59 (B o96 (L N1) (L P5)) (B Ov (L Nu) (L Mw)))) (B o30 (B o0 (B o0 (L Qu) (L M7)) (B QG (L o0) (L o0))) (B o69 (B o0 (L o1) (L MR)) (B o1 (L o1) (L o0))))) (B o15 (B o0 (B o44 (B o82 (B o0 (L o0) N) (L o1)) (B o0 (L Qk) (L MH))) (B o64 (B OU (L o0) (L MV)) (B o0 (L o0) (L Ms)))) (B o0 (B o0 (B o91 (L N5) (L o0)) (B Oz (L o1) (L PR))) (B o0 (B o1 (L NO) (L o0)) (B Og (L Qb) (L o1))))))) (B (boot_o_5 P) (B (boot_o_9 P) (B (o8 P) (B o18 (B o7 (B o77 (B o0 (L o0) N) (L Ng)) (B o0 (L o1) (L ML))) (B o58 (B o0 (L Qs) (L MZ)) (B QE (L Qg) (L o0)))) (B o28 (B o46 (B o1 (L N9) (L o0)) (B OD (L ND) (L o1))) (B o67 (B OS (L NS) (L P1)) (B Ol (L Nm) (L Mq))))) (B o13 (B o7 (B o42 (B o0 (B o1 (L o1) N) (L Nb)) (B o1 (L NH) (L o0))) (B o0 (B o99 (L Qr) (L o0)) (B Ot (L Nr) (L PN)))) (B o32 (B o1 (B o90 (L o0) (L o1)) (B o0 (L Ny) (L MB))) (B o72 (B ON (L o0) (L MP)) (B o0 (L o0) (L Mm)))))) (B o2 (B o10 (B o21 (B o39 (B o0 (B Qy (L PJ) N) (L Nd)) (B QI (L NK) (L o0))) (B o61 (B o0 (L (NY P)) (L MX)) (B o1 (L o1) (L o0)))) (B o7 (B o49 (B o88 (L N7) (L P7)) (B OB (L NA) (L MD))) (B o1 (B OP (L o0) (L o1)) (B o0 (L o0) (L Mo))))) (B o7 (B o25 (B o7 (B o83 (B Ob (L Md) N) (L o0)) (B OF (L NF) (L PV))) (B o0 (B o1 (L NU) (L o0)) (B Oo (L Np) (L o1)))) (B o35 (B o54 (B o93 (L o0) (L M3)) (B o0 (L Nx) (L Mz))) (B o74 (B o0 (L Qn) (L MN)) (B QA (L Nh) (L o0)))))))) (B (boot_o_2 P) (B (boot_o_4 P) (B (boot_o_8 P) (B o7 (B o1 (B o16 (B o76 (B Od (L Mi) N) (L Qa)) (B OK (L o0) (L MM))) (B o1 (B o94 (L o0) (L o1)) (B o0 (L o1) (L Mx)))) (B (o27 P) (B o1 (B o0 (L o1) (L M8)) (B o1 (L Qj) (L o0))) (B o0 (B QL (L NT) (L o0)) (B Om (L Nn) (L PM))))) (B o12 (B o16 (B (o41 P) (B o81 (B o0 (L o0) N) (L Nc)) (B o0 (L o1) (L MI))) (B o62 (B o0 (L NV) (L MW)) (B QD (L Qe) (L o0)))) (B o1 (B o0 (B o1 (L N6) (L o0)) (B OA (L Nz) (L o1))) (B o71 (B OO (L NP) (L PZ)) (B Oh (L Nj) (L Mn)))))) (B Ql (B o9 (B (o20 P) (B o1 (B o78 (B o0 (L o0) N) (L o1)) (B o0 (L Qm) (L MK))) (B o60 (B o97 (L NZ) (L MY)) (B o0 (L o0) (L Mv)))) (B o16 (B (o48 P) (B o87 (L N8) (L o0)) (B OC (L o1) (L PU))) (B o0 (B o1 (L NR) (L o0)) (B Oj (L Nl) (L o1))))) (B o16 (B o1 (B o16 (B o0 (B Qv (L PH) N) (L Na)) (B QH (L NG) (L o0))) (B o65 (B o0 (L o1) (L MU)) (B o1 (L o1) (L o0)))) (B (o34 P) (B o53 (B o92 (L N4) (L P6)) (B Oy (L Qh) (L MA))) (B o1 (B OM (L o0) (L o1)) (B o0 (L Ni) (L Ml))))))) (B (boot_o_6 P) (B (boot_o_10 P) (B o0 (B o19 (B (o38 P) (B o0 (B o7 (L o1) N) (L Nf)) (B o1 (L NL) (L o0))) (B o0 (B o95 (L N2) (L o0)) (B Ow (L Nv) (L PQ)))) (B o29 (B o47 (B o86 (L o0) (L o1)) (B o0 (L NC) (L ME))) (B o68 (B OR (L o0) (L MS)) (B o0 (L o0) (L Mp))))) (B o14 (B (o24 P) (B o43 (B o1 (B Oc (L Me) N) (L o0)) (B OG (L o0) (L o1))) (B o63 (B OV (L Qq) (L P2)) (B Oq (L Nq) (L Mt)))) (B o33 (B o52 (B o0 (L Qt) (L M4)) (B QF (L o0) (L o0))) (B o73 (B o0 (L o1) (L MO)) (B o1 (L o1) (L o0)))))) (B o3 (B o0 (B o22 (B o40 (B o79 (B Qx (L Mg) N) (L o0)) (B OI (L NJ) (L PX))) (B o0 (B o1 (L NX) (L o0)) (B Ou (L Nt) (L o1)))) (B (o31 P) (B o50 (B o89 (L o0) (L M6)) (B o0 (L o0) (L MC))) (B o70 (B o0 (L Qo) (L MQ)) (B QB (L Qc) (L o0))))) (B (o17 P) (B o26 (B (o45 P) (B o84 (B Oa (L Mc) N) (L P8)) (B OE (L o0) (L MG))) (B o1 (B OT (L o0) (L o1)) (B o0 (L o0) (L Mr)))) (B o36 (B o55 (B o0 (L o1) (L M0)) (B o1 (L Nw) (L o0))) (B o0 (B QJ (L NN) (L o0)) (B Of (L o0) (L PK)))))))))
def t_0 (P:Params):BT:=(((cut 15 (full P) 1 0).ins 3 (boot_o_3 P)).ins 12 (o1))
def t_1 (P:Params):BT:=(((cut 95 (full P) 1 0).ins 3 (o4 P)).ins 12 (o5))
def t_2 (P:Params):BT:=(((cut 327 (full P) 1 0).ins 3 (o56 P)).ins 12 (o57))
def t_3 (P:Params):BT:=(cut 527 (full P) 1 0)
def ha (P:Params):Heap:=⟨⟨[boot_o_0 P,boot_o_1 P,boot_o_2 P,boot_o_3 P,boot_o_4 P,boot_o_5 P,boot_o_6 P,boot_o_7 P,boot_o_8 P,boot_o_9 P,boot_o_10 P,o0,o1,o2,o3]⟩,↥3⟩
def hf (P:Params):Heap:=absHeap (full P) 527 ↥3
def K (P:Params):Frag:=(nat_lit 2,boot_o_2 P)::(nat_lit 3,NI P)::(nat_lit 15,o6)::(nat_lit 22,o0)::(nat_lit 23,o11 P)::(nat_lit 24,o12)::(nat_lit 25,o13)::(nat_lit 28,o16)::(nat_lit 35,o0)::(nat_lit 36,o20 P)::(nat_lit 37,o21)::(nat_lit 40,o16)::(nat_lit 47,o0)::(nat_lit 48,o27 P)::(nat_lit 49,o28)::(nat_lit 52,o16)::(nat_lit 59,o0)::(nat_lit 60,o34 P)::(nat_lit 61,o35)::(nat_lit 64,o16)::(nat_lit 71,o0)::(nat_lit 72,o41 P)::(nat_lit 73,o42)::(nat_lit 76,o16)::(nat_lit 83,o0)::(nat_lit 84,o48 P)::(nat_lit 85,o49)::(nat_lit 88,o0)::(nat_lit 90,o52)::(nat_lit 91,o0)::(nat_lit 93,o54)::(nat_lit 94,o55)::(nat_lit 95,o0)::(nat_lit 97,o58)::(nat_lit 98,o0)::(nat_lit 100,o60)::(nat_lit 101,o61)::(nat_lit 102,o0)::(nat_lit 104,o62)::(nat_lit 105,o0)::(nat_lit 107,o64)::(nat_lit 108,o65)::(nat_lit 109,o0)::(nat_lit 111,o66)::(nat_lit 112,o0)::(nat_lit 114,o68)::(nat_lit 115,o69)::(nat_lit 116,o0)::(nat_lit 118,o70)::(nat_lit 119,o0)::(nat_lit 121,o72)::(nat_lit 122,o73)::(nat_lit 123,o0)::(nat_lit 125,o74)::(nat_lit 126,o0)::(nat_lit 128,o76)::(nat_lit 129,o77)::(nat_lit 130,o0)::(nat_lit 132,o78)::(nat_lit 133,o0)::(nat_lit 135,o80)::(nat_lit 136,o81)::(nat_lit 137,o0)::(nat_lit 139,o82)::(nat_lit 140,o0)::(nat_lit 142,o84)::(nat_lit 143,o85)::(nat_lit 144,o0)::(nat_lit 146,o86)::(nat_lit 147,o0)::(nat_lit 149,o88)::(nat_lit 150,o89)::(nat_lit 151,o0)::(nat_lit 153,o90)::(nat_lit 154,o0)::(nat_lit 156,o92)::(nat_lit 157,o93)::(nat_lit 158,o0)::(nat_lit 160,o94)::(nat_lit 161,o0)::(nat_lit 163,o96)::(nat_lit 164,o97)::(nat_lit 165,o0)::(nat_lit 167,o98)::(nat_lit 168,o0)::(nat_lit 170,OV)::(nat_lit 171,OU)::(nat_lit 172,o0)::(nat_lit 174,OT)::(nat_lit 175,o0)::(nat_lit 177,OS)::(nat_lit 178,OR)::(nat_lit 179,o0)::(nat_lit 181,OP)::(nat_lit 182,o0)::(nat_lit 184,OO)::(nat_lit 185,ON)::(nat_lit 186,o0)::(nat_lit 188,OM)::(nat_lit 189,o0)::(nat_lit 191,OL)::(nat_lit 192,OK)::(nat_lit 193,o0)::(nat_lit 195,OJ)::(nat_lit 196,o0)::(nat_lit 198,OI)::(nat_lit 199,OH)::(nat_lit 200,o0)::(nat_lit 202,OG)::(nat_lit 203,o0)::(nat_lit 205,OF)::(nat_lit 206,OE)::(nat_lit 207,o0)::(nat_lit 209,OD)::(nat_lit 210,o0)::(nat_lit 212,OC)::(nat_lit 213,OB)::(nat_lit 214,o0)::(nat_lit 216,OA)::(nat_lit 217,o0)::(nat_lit 219,Oz)::(nat_lit 220,Oy)::(nat_lit 221,o0)::(nat_lit 223,Ox)::(nat_lit 224,o0)::(nat_lit 226,Ow)::(nat_lit 227,Ov)::(nat_lit 228,o0)::(nat_lit 230,Ou)::(nat_lit 231,o0)::(nat_lit 233,Ot)::(nat_lit 234,Oq)::(nat_lit 235,o0)::(nat_lit 237,Oo)::(nat_lit 238,o0)::(nat_lit 240,Om)::(nat_lit 241,Ol)::(nat_lit 242,o0)::(nat_lit 244,Oj)::(nat_lit 245,o0)::(nat_lit 247,Oi)::(nat_lit 248,Oh)::(nat_lit 249,o0)::(nat_lit 251,Og)::(nat_lit 252,o0)::(nat_lit 254,Of)::(nat_lit 255,Oe)::(nat_lit 256,Od)::(nat_lit 264,o0)::(nat_lit 266,Oc)::(nat_lit 267,o0)::(nat_lit 269,Ob)::(nat_lit 270,Oa)::(nat_lit 271,o0)::(nat_lit 273,N9)::(nat_lit 274,o0)::(nat_lit 276,N8)::(nat_lit 277,N7)::(nat_lit 278,o0)::(nat_lit 280,N6)::(nat_lit 281,o0)::(nat_lit 283,N5)::(nat_lit 284,N4)::(nat_lit 285,o0)::(nat_lit 287,N3)::(nat_lit 288,o0)::(nat_lit 290,N2)::(nat_lit 291,N1)::(nat_lit 292,NZ)::(nat_lit 293,NY P)::(nat_lit 294,NX)::(nat_lit 295,NW)::(nat_lit 296,NV)::(nat_lit 299,o0)::(nat_lit 301,NU)::(nat_lit 302,o0)::(nat_lit 304,NT)::(nat_lit 305,NS)::(nat_lit 306,o0)::(nat_lit 308,NR)::(nat_lit 309,o0)::(nat_lit 311,NQ)::(nat_lit 312,NP)::(nat_lit 313,o0)::(nat_lit 315,NO)::(nat_lit 316,o0)::(nat_lit 318,NN)::(nat_lit 319,NM)::(nat_lit 320,o0)::(nat_lit 322,NL)::(nat_lit 323,o0)::(nat_lit 325,NK)::(nat_lit 326,NJ)::(nat_lit 327,o0)::(nat_lit 329,NH)::(nat_lit 330,o0)::(nat_lit 332,NG)::(nat_lit 333,NF)::(nat_lit 334,o0)::(nat_lit 337,ND)::(nat_lit 338,NC)::(nat_lit 339,o0)::(nat_lit 341,NA)::(nat_lit 342,o0)::(nat_lit 344,Nz)::(nat_lit 345,Ny)::(nat_lit 346,o0)::(nat_lit 349,Nx)::(nat_lit 350,Nw)::(nat_lit 351,o0)::(nat_lit 354,Nv)::(nat_lit 355,Nu)::(nat_lit 356,o0)::(nat_lit 358,Nt)::(nat_lit 359,o0)::(nat_lit 361,Nr)::(nat_lit 362,Nq)::(nat_lit 363,o0)::(nat_lit 365,Np)::(nat_lit 366,o0)::(nat_lit 368,Nn)::(nat_lit 369,Nm)::(nat_lit 370,o0)::(nat_lit 372,Nl)::(nat_lit 373,o0)::(nat_lit 375,Nk)::(nat_lit 376,Nj)::(nat_lit 377,o0)::(nat_lit 380,Ni)::(nat_lit 381,Nh)::(nat_lit 382,o0)::(nat_lit 385,Ng)::(nat_lit 386,Nf)::(nat_lit 387,o0)::(nat_lit 389,Nd)::(nat_lit 390,o0)::(nat_lit 392,Nc)::(nat_lit 393,Nb)::(nat_lit 394,o0)::(nat_lit 396,Na)::(nat_lit 397,o0)::(nat_lit 399,M9)::(nat_lit 400,M8)::(nat_lit 401,o0)::(nat_lit 403,M7)::(nat_lit 404,o0)::(nat_lit 406,M6)::(nat_lit 407,M5)::(nat_lit 408,o0)::(nat_lit 410,M4)::(nat_lit 411,o0)::(nat_lit 413,M3)::(nat_lit 414,M0)::(nat_lit 415,o0)::(nat_lit 417,MZ)::(nat_lit 418,o0)::(nat_lit 420,MY)::(nat_lit 421,MX)::(nat_lit 422,o0)::(nat_lit 424,MW)::(nat_lit 425,o0)::(nat_lit 427,MV)::(nat_lit 428,MU)::(nat_lit 429,o0)::(nat_lit 431,MT)::(nat_lit 432,o0)::(nat_lit 434,MS)::(nat_lit 435,MR)::(nat_lit 436,o0)::(nat_lit 438,MQ)::(nat_lit 439,o0)::(nat_lit 441,MP)::(nat_lit 442,MO)::(nat_lit 443,o0)::(nat_lit 445,MN)::(nat_lit 446,o0)::(nat_lit 448,MM)::(nat_lit 449,ML)::(nat_lit 450,o0)::(nat_lit 452,MK)::(nat_lit 453,o0)::(nat_lit 455,MJ)::(nat_lit 456,MI)::(nat_lit 457,o0)::(nat_lit 459,MH)::(nat_lit 460,o0)::(nat_lit 462,MG)::(nat_lit 463,MF)::(nat_lit 464,o0)::(nat_lit 466,ME)::(nat_lit 467,o0)::(nat_lit 469,MD)::(nat_lit 470,MC)::(nat_lit 471,o0)::(nat_lit 473,MB)::(nat_lit 474,o0)::(nat_lit 476,MA)::(nat_lit 477,Mz)::(nat_lit 478,o0)::(nat_lit 480,Mx)::(nat_lit 481,o0)::(nat_lit 483,Mw)::(nat_lit 484,Mv)::(nat_lit 485,o0)::(nat_lit 487,Mu)::(nat_lit 488,o0)::(nat_lit 490,Mt)::(nat_lit 491,Ms)::(nat_lit 492,o0)::(nat_lit 494,Mr)::(nat_lit 495,o0)::(nat_lit 497,Mq)::(nat_lit 498,Mp)::(nat_lit 499,o0)::(nat_lit 501,Mo)::(nat_lit 502,o0)::(nat_lit 504,Mn)::(nat_lit 505,Mm)::(nat_lit 506,o0)::(nat_lit 508,Ml)::(nat_lit 509,o0)::(nat_lit 511,Mj)::(nat_lit 512,Mi)::(nat_lit 513,o0)::(nat_lit 515,Mh)::(nat_lit 516,o0)::(nat_lit 518,Mg)::(nat_lit 519,Mf)::(nat_lit 520,o0)::(nat_lit 522,Me)::(nat_lit 523,o0)::(nat_lit 525,Md)::(nat_lit 526,Mc)::[]
def as:List Addr:=[2,3,15,22,23,24,25,28,35,36,37,40,47,48,49,52,59,60,61,64,71,72,73,76,83,84,85,88,90,91,93,94,95,97,98,100,101,102,104,105,107,108,109,111,112,114,115,116,118,119,121,122,123,125,126,128,129,130,132,133,135,136,137,139,140,142,143,144,146,147,149,150,151,153,154,156,157,158,160,161,163,164,165,167,168,170,171,172,174,175,177,178,179,181,182,184,185,186,188,189,191,192,193,195,196,198,199,200,202,203,205,206,207,209,210,212,213,214,216,217,219,220,221,223,224,226,227,228,230,231,233,234,235,237,238,240,241,242,244,245,247,248,249,251,252,254,255,256,264,266,267,269,270,271,273,274,276,277,278,280,281,283,284,285,287,288,290,291,292,293,294,295,296,299,301,302,304,305,306,308,309,311,312,313,315,316,318,319,320,322,323,325,326,327,329,330,332,333,334,337,338,339,341,342,344,345,346,349,350,351,354,355,356,358,359,361,362,363,365,366,368,369,370,372,373,375,376,377,380,381,382,385,386,387,389,390,392,393,394,396,397,399,400,401,403,404,406,407,408,410,411,413,414,415,417,418,420,421,422,424,425,427,428,429,431,432,434,435,436,438,439,441,442,443,445,446,448,449,450,452,453,455,456,457,459,460,462,463,464,466,467,469,470,471,473,474,476,477,478,480,481,483,484,485,487,488,490,491,492,494,495,497,498,499,501,502,504,505,506,508,509,511,512,513,515,516,518,519,520,522,523,525,526]
def env:Env:={ scope:=PySem.Challenge.pw_roundmill_k64_whole_wide.main.scope,locals:=mainNs,globals:=mainNs,cells:=[],code:=(.ref 13),frame:=some 14 }
def Ea:List Stmt:=[T.top 0,T.top 1,T.top 2,T.top 3,T.top 4,T.top 5,T.top 6,T.top 7,T.top 8]
def D0:List Stmt:=[T.top 9,T.top 10,T.top 11,T.top 12,T.top 13,T.top 14,T.top 15,T.top 16,T.top 17,T.top 18,T.top 19,T.top 20,T.top 21,T.top 22,T.top 23,T.top 24,T.top 25,T.top 26,T.top 27,T.top 28,T.top 29,T.top 30,T.top 31,T.top 32,T.top 33,T.top 34,T.top 35,T.top 36,T.top 37,T.top 38,T.top 39,T.top 40,T.top 41,T.top 42,T.top 43,T.top 44,T.top 45,T.top 46,T.top 47]
def DZ:List Stmt:=[T.top 48,T.top 49,T.top 50,T.top 51,T.top 52,T.top 53,T.top 54,T.top 55,T.top 56,T.top 57,T.top 58,T.top 59,T.top 60,T.top 61,T.top 62,T.top 63,T.top 64,T.top 65,T.top 66,T.top 67,T.top 68,T.top 69,T.top 70,T.top 71,T.top 72,T.top 73,T.top 74,T.top 75,T.top 76,T.top 77,T.top 78,T.top 79,T.top 80,T.top 81]
def q:Program:=PySem.W.view PySem.Challenge.pw_roundmill_k64_whole_wide [1,2,3,4,5,6,8,9,10,11,12,13,14,16,17,18,19,20,21,22,23,25,26,27,28,29,30,31,32,33,34,35,36,37,38,40,41,42,44,45,46,48,50,51,52,54,55,56,57,58,59,61,62,63,64,65,66,68,69,70,71,72,73,74,75,76,77,78,79,80,81]
end
end H
namespace H
open PySem PySem.W PySem.Calls PySem.Spec PyProof.Rows L2 EV ES
noncomputable section
def cB:Code:=Code.body (behindTheImports PySem.Challenge.pw_roundmill_k64_whole_wide) env
def row:RowW:=OpenRow.toRowW (OpenLaw.row PySem.Challenge.rw_roundmill_k64_whole_wide)
def Xt (s:Shared):Bool:=xlAt q [] s&&recOk (RowW.records row) s
end
theorem O0:(fun (_:Program) (_:Program) (_:Env) (_:Code) (_:Shared->Bool)=>true) PySem.Challenge.pw_roundmill_k64_whole_wide q env cB Xt=true:=by k_qdec
set_option maxHeartbeats 0 in
theorem KC:∀ w:World,(fun os:OsState=>topGo treeTable PySem.Challenge.pw_roundmill_k64_whole_wide w 11 (some (.ref 6)) 12 (Shared.mk (boot_heap w.params) (Array.mk []) boot_drawn boot_toks os) (topStub PySem.Challenge.pw_roundmill_k64_whole_wide))=fun os:OsState=>some ((Shared.mk (ha w.params) ⟨[]⟩ (Drawn.mk 0 0 0 0) 187 os),Thread.mk (denote treeTable cB) cB (Pos.mk 0 0 0 0) [topFrame (Pos.mk 0 0 0 0)]):=by
 rewrite [PySem.W.Fast.te15667345088766844465,PySem.W.Fast.te14364793385576792824,PySem.W.Fast.te5954645741272803825,PySem.W.Fast.te11892475500146522536,PySem.W.Fast.te2060423359788512156]
 intro w
 kernel_rfl
set_option maxHeartbeats 0 in
theorem DV:∀ w:World,(fun os:OsState=>segRun treeTable PySem.Challenge.pw_roundmill_k64_whole_wide w 11 (some (.ref 6)) 1 1 (Shared.mk (ha w.params) ⟨[]⟩ (Drawn.mk 0 0 0 0) 187 os) (blockOf (behindTheImports PySem.Challenge.pw_roundmill_k64_whole_wide) env cB (Pos.mk 0 0 0 0) [topFrame (Pos.mk 0 0 0 0)]))=fun os:OsState=>some (Flow.next,(SharedT.abs (SharedT.mk (t_0 w.params) 15 ↥3 ⟨[]⟩ (Drawn.mk 0 0 0 0) 187 os)),cB,(Pos.mk 0 0 0 0)):=by
 rewrite [PySem.W.Fast.te14374325043358763698,PySem.W.Fast.te14364793385576792824,PySem.W.Fast.te5954645741272803825,PySem.W.Fast.te2060423359788512156]
 intro w
 kernel_rfl
set_option maxHeartbeats 0 in
theorem Pd:∀ w:World,(fun os:OsState=>segRunT treeTable PySem.Challenge.pw_roundmill_k64_whole_wide w 11 (some (.ref 6)) 1 1299 (SharedT.mk (t_0 w.params) 15 ↥3 ⟨[]⟩ (Drawn.mk 0 0 0 0) 187 os) (piecesOf Ea env cB (Pos.mk 0 0 0 0) [topFrame (Pos.mk 0 0 0 0)]))=fun os:OsState=>some (Flow.next,(SharedT.mk (t_1 w.params) 95 ↥3 ⟨[]⟩ (Drawn.mk 0 0 0 0) 296 os),cB,(Pos.mk 15 0 16 32)):=by
 rewrite [PySem.W.Fast.te10110043849684766642,PySem.W.Fast.te14364793385576792824,PySem.W.Fast.te5954645741272803825,PySem.W.Fast.te2060423359788512156]
 intro w
 kernel_rfl
set_option maxHeartbeats 0 in
theorem Pc:∀ w:World,(fun os:OsState=>segRunT treeTable PySem.Challenge.pw_roundmill_k64_whole_wide w 11 (some (.ref 6)) 1 1271 (SharedT.mk (t_1 w.params) 95 ↥3 ⟨[]⟩ (Drawn.mk 0 0 0 0) 296 os) (piecesOf D0 env cB (Pos.mk 15 0 16 32) [topFrame (Pos.mk 0 0 0 0)]))=fun os:OsState=>some (Flow.next,(SharedT.mk (t_2 w.params) 327 ↥3 ⟨[]⟩ (Drawn.mk 0 0 0 0) 628 os),cB,(Pos.mk 177 0 177 8)):=by
 rewrite [PySem.W.Fast.te10110043849684766642,PySem.W.Fast.te14364793385576792824,PySem.W.Fast.te5954645741272803825,PySem.W.Fast.te2060423359788512156]
 intro w
 kernel_rfl
set_option maxHeartbeats 0 in
theorem Pb:∀ w:World,(fun os:OsState=>segRunT treeTable PySem.Challenge.pw_roundmill_k64_whole_wide w 11 (some (.ref 6)) 1 989 (SharedT.mk (t_2 w.params) 327 ↥3 ⟨[]⟩ (Drawn.mk 0 0 0 0) 628 os) (piecesOf DZ env cB (Pos.mk 177 0 177 8) [topFrame (Pos.mk 0 0 0 0)]))=fun os:OsState=>some (Flow.next,(SharedT.mk (t_3 w.params) 527 ↥3 ⟨[]⟩ (Drawn.mk 0 0 0 0) 938 os),cB,(Pos.mk 410 0 423 15)):=by
 rewrite [PySem.W.Fast.te10110043849684766642,PySem.W.Fast.te14364793385576792824,PySem.W.Fast.te5954645741272803825,PySem.W.Fast.te2060423359788512156]
 intro w
 kernel_rfl
set_option maxHeartbeats 0 in
theorem KG:∀ w:World,(fun os:OsState=>topRun treeTable PySem.Challenge.pw_roundmill_k64_whole_wide w 11 (some (.ref 6)) 2 (SharedT.abs (SharedT.mk (t_3 w.params) 527 ↥3 ⟨[]⟩ (Drawn.mk 0 0 0 0) 938 os)) (Thread.mk (doneF Flow.next) cB (Pos.mk 410 0 423 15) [topFrame (Pos.mk 0 0 0 0)]))=fun os:OsState=>some ↥9:=by
 rewrite [PySem.W.Fast.te14082659384304107361,PySem.W.Fast.te14364793385576792824,PySem.W.Fast.te5954645741272803825,PySem.W.Fast.te2060423359788512156]
 intro w
 kernel_rfl
set_option maxHeartbeats 0 in
theorem Ho:∀ w:World,((boot_heap w.params).isNs mainGlobals&&(Array.mk []:Array GenState).size == 0,(boot_heap w.params).objs.size,(boot_heap w.params).nsMap mainGlobals "__annotations__")=(true,11,(some (.ref 6))):=by
 rewrite [PySem.W.Fast.te8920871248978507458]
 intro w
 kernel_rfl
set_option maxHeartbeats 0 in
theorem l_1:∀ w:World,(fun os:OsState=>staticsOk ↥10 (boot_heap w.params) (hf w.params)&&namesBound PySem.Challenge.pw_roundmill_k64_whole_wide (hf w.params)&&gensDone ↥9&&laidKept (boot_heap w.params) (hf w.params))=fun os:OsState=>true:=by
 rewrite [PySem.W.Fast.te5923862056798008813,PySem.W.Fast.te5954645741272803825]
 intro w
 kernel_rfl
set_option maxHeartbeats 0 in
theorem QZ:∀ w:World,(fun os:OsState=>(openSeen q [] ↥10 Xt true ↥9).1)=fun os:OsState=>(openGood q []).1:=by
 unfold openSeen openGood
 dsimp only
 rewrite [PySem.W.Fast.te5160383126252970620,PySem.W.R.mapR_eq,PySem.W.Fast.te3399658132070893891,PySem.W.Fast.te5991557255702980513]
 intro w
 kernel_rfl
set_option maxHeartbeats 0 in
theorem QY:∀ w:World,(fun os:OsState=>(openSeen q [] ↥10 Xt true ↥9).2.1)=fun os:OsState=>(openGood q []).2.1:=by
 unfold openSeen openGood
 dsimp only
 intro w
 kernel_rfl
set_option maxHeartbeats 0 in
theorem QX:∀ w:World,(fun os:OsState=>(openSeen q [] ↥10 Xt true ↥9).2.2.1)=fun os:OsState=>(openGood q []).2.2.1:=by
 unfold openSeen openGood
 dsimp only
 rewrite [PySem.W.Fast.te10880121769531294198,PySem.W.Fast.te821141287760084731,PySem.W.R.mapR_eq,PySem.W.Fast.te3399658132070893891,PySem.W.Fast.te7409074990110511671,PySem.W.Fast.te13664370479719496447,PySem.W.Fast.te14722251495701143533,PySem.W.Fast.te5923862056798008813,PySem.W.Fast.te5954645741272803825,PySem.W.Fast.te10994771534591457954,PySem.W.Fast.te18408535023408442824]
 intro w
 kernel_rfl
set_option maxHeartbeats 0 in
theorem QW:∀ w:World,(fun os:OsState=>(openSeen q [] ↥10 Xt true ↥9).2.2.2.1)=fun os:OsState=>(openGood q []).2.2.2.1:=by
 unfold openSeen openGood
 dsimp only
 rewrite [PySem.W.Fast.te479339242167458305]
 intro w
 kernel_rfl
set_option maxHeartbeats 0 in
theorem QV:∀ w:World,(fun os:OsState=>(openSeen q [] ↥10 Xt true ↥9).2.2.2.2.1)=fun os:OsState=>(openGood q []).2.2.2.2.1:=by
 unfold openSeen openGood
 dsimp only
 rewrite [PySem.W.Fast.te16090120013241838585,PySem.W.Fast.te3247288618530077131]
 intro w
 kernel_rfl
set_option maxHeartbeats 0 in
theorem QU:∀ w:World,(fun os:OsState=>(openSeen q [] ↥10 Xt true ↥9).2.2.2.2.2.1)=fun os:OsState=>(openGood q []).2.2.2.2.2.1:=by
 unfold openSeen openGood
 dsimp only
 rewrite [PySem.W.Fast.te2386780881361962483,PySem.W.Fast.te821141287760084731]
 intro w
 kernel_rfl
set_option maxHeartbeats 0 in
theorem QT:∀ w:World,(fun os:OsState=>(openSeen q [] ↥10 Xt true ↥9).2.2.2.2.2.2.1)=fun os:OsState=>(openGood q []).2.2.2.2.2.2.1:=by
 unfold openSeen openGood
 dsimp only
 rewrite [PySem.W.Fast.te11698064438423848299]
 intro w
 kernel_rfl
set_option maxHeartbeats 0 in
theorem QS:∀ w:World,(fun os:OsState=>(openSeen q [] ↥10 Xt true ↥9).2.2.2.2.2.2.2.1)=fun os:OsState=>(openGood q []).2.2.2.2.2.2.2.1:=by
 unfold openSeen openGood
 dsimp only
 rewrite [PySem.W.Fast.te7317090234206586261]
 intro w
 kernel_rfl
set_option maxHeartbeats 0 in
theorem QR:∀ w:World,(fun os:OsState=>(openSeen q [] ↥10 Xt true ↥9).2.2.2.2.2.2.2.2)=fun os:OsState=>(openGood q []).2.2.2.2.2.2.2.2:=by
 unfold openSeen openGood
 dsimp only
 rewrite [PySem.W.Fast.te7369524293546568484]
 intro w
 kernel_rfl
set_option maxHeartbeats 0 in
theorem l_k:∀ w:World,(fun os:OsState=>as.map (Shared.heap ↥9).get?)=fun os:OsState=>(K w.params).map fun x=>some x.2:=by
 rewrite [PySem.W.R.mapR_eq]
 intro w
 kernel_rfl
theorem h_b:behindTheImports PySem.Challenge.pw_roundmill_k64_whole_wide=Ea++(D0++(DZ++[])):=by kernel_rfl
theorem KU (w:World) (os:OsState):topRun treeTable PySem.Challenge.pw_roundmill_k64_whole_wide w 11 (some (.ref 6)) (1299+(1271+(989+(2)))) (SharedT.abs (SharedT.mk (t_0 w.params) 15 ↥3 ⟨[]⟩ (Drawn.mk 0 0 0 0) 187 os)) (restOf (Ea++(D0++(DZ++[]))) env cB (Pos.mk 0 0 0 0) [topFrame (Pos.mk 0 0 0 0)])=some ↥9 :=
 piece_app (segRun_of (congrFun (Pd w) os)) (piece_app (segRun_of (congrFun (Pc w) os)) (piece_app (segRun_of (congrFun (Pb w) os)) (piece_nil (congrFun (KG w) os))))
theorem run (w:World) (os:OsState):topRun treeTable PySem.Challenge.pw_roundmill_k64_whole_wide w 11 (some (.ref 6)) (12+(1+(1299+(1271+(989+(2)))))) (Shared.mk (boot_heap w.params) (Array.mk []) boot_drawn boot_toks os) (topStub PySem.Challenge.pw_roundmill_k64_whole_wide)=some ↥9 :=
 go_top (congrFun (KC w) os) (piece_block (congrFun (DV w) os) ((congrArg (fun b=>topRun treeTable PySem.Challenge.pw_roundmill_k64_whole_wide w 11 (some (.ref 6)) (1299+(1271+(989+(2)))) (SharedT.abs (SharedT.mk (t_0 w.params) 15 ↥3 ⟨[]⟩ (Drawn.mk 0 0 0 0) 187 os)) (restOf b env cB (Pos.mk 0 0 0 0) [topFrame (Pos.mk 0 0 0 0)])) h_b).trans (KU w os)))
theorem opened:∀ w:World,(fencedOpening treeTable PySem.Challenge.pw_roundmill_k64_whole_wide w 7238).map (fun s=>(s.heap,s.gens,s.drawn,s.toks))=some (boot_heap w.params,Array.mk [],boot_drawn,boot_toks):=boot_open (by kernel_rfl) ↥1 (fun s=>by kernel_rfl)
theorem he:∀ P,as=(K P).map (·.1):=fun _=>by kernel_rfl
theorem left:LeftO PySem.Challenge.pw_roundmill_k64_whole_wide q [] Xt (kHook K as he).obs (kHook K as he).val 7238 :=
 LeftO.of_pieces opened Ho run ↥1 fun w=>funext fun os=>Prod.ext (congrFun (l_1 w) os) (Prod.ext (Prod.ext (congrFun (QZ w) os) (Prod.ext (congrFun (QY w) os) (Prod.ext (congrFun (QX w) os) (Prod.ext (congrFun (QW w) os) (Prod.ext (congrFun (QV w) os) (Prod.ext (congrFun (QU w) os) (Prod.ext (congrFun (QT w) os) (Prod.ext (congrFun (QS w) os) (congrFun (QR w) os))))))))) (congrFun (l_k w) os))
end H
namespace EV
open PySem (Str)
theorem af (k:Int):0<pw k:=Int.pow_pos ↥1
theorem au (ha:0<=a) (hb:0<=b):pw (a+b)=pw a*pw b:=by
 unfold pw
 rw [Int.toNat_add ha hb,Int.pow_add]
theorem aO (ha:0<=a):pw (a+1)=2*pw a:=by
 rw [au ha ↥1,Int.mul_comm]
 rfl
theorem ay (h:a<=b):pw a<=pw b:=by
 unfold pw
 have e1:((2^a.toNat:Nat):Int)=(2:Int)^a.toNat:=by simp
 have e2:((2^b.toNat:Nat):Int)=(2:Int)^b.toNat:=by simp
 rw [<- e1,<-e2]
 exact Int.ofNat_le.mpr (Nat.pow_le_pow_right ↥1 ⋯)
theorem kD:nb i<=k↔i.natAbs<2^k:=by
 unfold nb
 by_cases h:i=0
 ·subst h
  simp
  exact Nat.two_pow_pos k
 ·rw [if_neg h]
  have h0:i.natAbs≠0:=⋯
  rw [<- Nat.log2_lt h0]
  omega
theorem mY (i:Int):i.natAbs<2^nb i:=kD.mp ↥37
theorem fH (h:i.natAbs<=j.natAbs):nb i<=nb j:=kD.mpr (Nat.lt_of_le_of_lt h (mY j))
theorem yq (hi:nb i<=a) (hj:nb j<=b):nb (i+j)<=max a b+1:=by
 rw [kD] at hi hj ⊢
 have h1:2^a<=2^max a b:=Nat.pow_le_pow_right ↥1 (Nat.le_max_left a b)
 have h2:2^b<=2^max a b:=Nat.pow_le_pow_right ↥1 (Nat.le_max_right a b)
 rw [Nat.pow_succ]
 omega
theorem uo (i:Int):nb (-i)=nb i:=Nat.le_antisymm (fH ⋯) (fH ⋯)
theorem IW (hi:nb i<=a) (hj:nb j<=b):nb (i - j)<=max a b+1:=by
 rw [Int.sub_eq_add_neg]
 exact yq hi (by rw [uo];exact hj)
theorem dP (hi:nb i<=a) (hj:nb j<=b):nb (i*j)<=a+b:=by
 rw [kD] at hi hj ⊢
 rw [Int.natAbs_mul,Nat.pow_add]
 rcases Nat.eq_zero_or_pos i.natAbs with h0 | h0
 ·rw [h0,Nat.zero_mul];exact Nat.mul_pos (Nat.two_pow_pos a) (Nat.two_pow_pos b)
 ·exact Nat.lt_of_lt_of_le (Nat.mul_lt_mul_of_pos_left hj h0) (Nat.mul_le_mul_right _ (Nat.le_of_lt hi))
theorem CH (h:0<j) (hj:nb j<=b):nb (i%j)<=b:=by
 refine Nat.le_trans (fH ?_) hj
 have h1:=Int.emod_nonneg i (by omega:j≠0)
 have h2:=Int.emod_lt_of_pos i h
 omega
theorem vH {i j:Int} (h:0<j):(i / j).natAbs<=i.natAbs:=by
 have h3:i=j*(i / j)+i%j:=(Int.mul_ediv_add_emod i j).symm
 have h1:=Int.emod_nonneg i (by omega:j≠0)
 have h2:=Int.emod_lt_of_pos i h
 by_cases hi:0<=i
 ·have:=Int.ediv_nonneg hi (by omega:(0:Int)<=j)
  have:=Int.ediv_le_self j hi
  omega
 ·have h4:i / j<0:=Int.ediv_neg_of_neg_of_pos ⋯ h
  have h5:(j - 1)*(i / j)<=(j - 1)*(-1):=Int.mul_le_mul_of_nonneg_left ⋯ ⋯
  rw [Int.sub_mul,Int.one_mul] at h5
  generalize j*(i / j)=z at *
  omega
theorem i6 {i j:Int} {a:Nat} (h:0<j) (hi:nb i<=a):nb (i / j)<=a:=Nat.le_trans (fH (vH h)) hi
theorem eV {k:Int} {c:Nat} (hk:k<=c):nb (pw k)<=c+1:=by
 rw [kD]
 unfold pw
 rw [Int.natAbs_pow]
 exact Nat.pow_lt_pow_right (a:=2) ↥1 ⋯
theorem um (h0:0<=i) (h:i<pw k) (hk:0<=k):(nb i:Int)<=k:=by
 have:nb i<=k.toNat:=by
  rw [kD]
  unfold pw at h
  have e:((2^k.toNat:Nat):Int)=(2:Int)^k.toNat:=by simp
  rw [<- e] at h
  omega
 omega
theorem jR (h0:0<=i):i<pw (nb i):=by
 have:=mY i
 unfold pw
 have e:((2^((nb i:Int)).toNat:Nat):Int)=(2:Int)^((nb i:Int)).toNat:=by simp
 rw [<- e,show ((nb i:Int)).toNat=nb i by omega]
 omega
theorem MulOk.of (hi:nb i<=a) (hj:nb j<=b) (h:a+b<=134217728):MulOk i j:=by
 unfold MulOk
 omega
theorem ir.small (h:0<j) (hj:nb j<=9000):ir i j:=⟨h,.inl hj⟩
theorem Fn:nb i<=nb i:=Nat.le_refl _
theorem yo (h:nb i<=a):nb (-i)<=a:=by rw [uo];exact h
theorem IZ (hi:nb i<=a) (hj:nb j<=b):nb (max i j)<=max a b:=by
 rcases Int.le_total i j with h | h
 ·rw [Int.max_eq_right h];exact Nat.le_trans hj (Nat.le_max_right a b)
 ·rw [Int.max_eq_left h];exact Nat.le_trans hi (Nat.le_max_left a b)
theorem IY (hi:nb i<=a) (hj:nb j<=b):nb (min i j)<=max a b:=by
 rcases Int.le_total i j with h | h
 ·rw [Int.min_eq_left h];exact Nat.le_trans hi (Nat.le_max_left a b)
 ·rw [Int.min_eq_right h];exact Nat.le_trans hj (Nat.le_max_right a b)
theorem Ja [Decidable p] (hi:nb i<=a) (hj:nb j<=b):nb (if p then i else j)<=max a b:=by
 split
 ·exact Nat.le_trans hi (Nat.le_max_left a b)
 ·exact Nat.le_trans hj (Nat.le_max_right a b)
theorem Bu (h:nb i<=a) (h2:a<=b):nb i<=b:=Nat.le_trans h h2
theorem ax (h:MulOk i j):fk (.int i) (.int j)=.ok (.int (i*j)):=by unfold fk;simp only;rw [if_pos h]
theorem gp (h:ir i j):oDiv (.int i) (.int j)=.ok (.int (i / j)):=by unfold oDiv;simp only;rw [if_pos h]
theorem E6 {i j:Int} (h:0<j):oMod (.int i) (.int j)=.ok (.int (i%j)):=by unfold oMod;simp only;rw [if_pos h]
theorem Bl {i j:Int} (h:0<j) (h2:j<18446744073709551616):oDiv (.int i) (.int j)=.ok (.int (i / j)):=gp (ir.small h (by
 have:nb j<=64:=kD.mpr ⋯
 omega))
theorem aZ (h:0<=j) (h2:(nb i:Int)+j<=134217728):cm (.int i) (.int j)=.ok (.int (i*pw j)):=by unfold cm;simp only;rw [if_pos ⟨h,h2⟩]
theorem sC {i j:Int} (h:0<=j):A6 (.int i) (.int j)=.ok (.int (i / pw j)):=by unfold A6;simp only;rw [if_pos h]
section
variable {α β:Type} {d d':D} {δ:Dt} {C:String} {f:α->R β} {c:Option D}
theorem F6 (a:α):(R.ok a).bind f=f a:=rfl
theorem F7:(R.ex C:R α).bind f=.ex C:=rfl
theorem B0:(R.bad:R α).bind f=.bad:=rfl
theorem BZ {p:Prop} [Decidable p] (x y:R α):(if p then x else y).bind f=if p then x.bind f else y.bind f:=by split<;>rfl
theorem DM {s:S}:(O.nx δ).then s=s δ:=rfl
theorem DL {s:S}:(O.rt d).then s=.rt d:=rfl
theorem DP {s:S}:(O.ex C δ).then s=.ex C δ:=rfl
theorem DN {s:S}:(O.mk C δ).then s=.mk C δ:=rfl
theorem DO {s:S}:(O.hx C δ).then s=.hx C δ:=rfl
theorem DR {s:S}:(O.bk δ).then s=.bk δ:=rfl
theorem DQ {s:S}:(O.ct δ).then s=.ct δ:=rfl
theorem Az {s:S}:(O.bad).then s=.bad:=rfl
theorem Ay {p:Prop} [Decidable p] (x y:O) {s:S}:(if p then x else y).then s=if p then x.then s else y.then s:=by split<;>rfl
theorem HI:(O.rt d).res=.ok d:=rfl
theorem HJ:(O.nx δ).res=.ok .non:=rfl
theorem HM:(O.ex C δ).res=.ex C:=rfl
theorem HK:(O.mk C δ).res=.ex C:=rfl
theorem HL:(O.hx C δ).res=.ex C:=rfl
theorem Eu:O.bad.res=.bad:=rfl
theorem Et {p:Prop} [Decidable p] (x y:O):(if p then x else y).res=if p then x.res else y.res:=by split<;>rfl
theorem JT {i:Nat}:asg i δ (.ok d)=.nx (δ.set i (some d)):=rfl
theorem JU {i:Nat}:asg i δ (.ex C)=.ex C (noOwn δ):=rfl
theorem Gm {i:Nat} {p:Prop} [Decidable p] (x y:R D):asg i δ (if p then x else y)=if p then asg i δ x else asg i δ y:=by split<;>rfl
theorem GQ:xpr δ (.ok d)=.nx δ:=rfl
theorem GR:xpr δ (.ex C)=.ex C (noOwn δ):=rfl
theorem Dk {p:Prop} [Decidable p] (x y:R D):xpr δ (if p then x else y)=if p then xpr δ x else xpr δ y:=by split<;>rfl
theorem HF:rtn δ (.ok d)=.rt d:=rfl
theorem HG:rtn δ (.ex C)=.ex C (noOwn δ):=rfl
theorem En {p:Prop} [Decidable p] (x y:R D):rtn δ (if p then x else y)=if p then rtn δ x else rtn δ y:=by split<;>rfl
theorem Jt {b:Bool} {x y:O}:ifO δ (.ok (.bl b)) x y=if b=true then x else y:=by cases b<;>rfl
theorem Js {x y:O}:ifO δ (.ex C) x y=.ex C (noOwn δ):=rfl
theorem FA {p:Prop} [Decidable p] (u v:R D) {x y:O}:ifO δ (if p then u else v) x y=if p then ifO δ u x y else ifO δ v x y:=by split<;>rfl
theorem Ax {b:Bool} {x y:R β}:truth (.bl b) x y=if b=true then x else y:=by cases b<;>rfl
theorem Jl {p:Prop} [Decidable p] {a b:Bool}:(if p then R.ok (D.bl a) else R.ok (D.bl b))=R.ok (D.bl (if p then a else b)):=by split<;>rfl
theorem ite_int {p:Prop} [Decidable p] {a b:Int}:(if p then R.ok (D.int a) else R.ok (D.int b))=R.ok (D.int (if p then a else b)):=by split<;>rfl
theorem Jo {p:Prop} [Decidable p] {b:Bool}:((if p then b else false)=true)=(p/\b=true):=by by_cases h:p<;>simp [h]
theorem Jn {p:Prop} [Decidable p] {b:Bool}:((if p then true else b)=true)=(p\/b=true):=by by_cases h:p<;>simp [h]
theorem Jm {p:Prop} [Decidable p]:((if p then false else true)=true)=¬ p:=by by_cases h:p<;>simp [h]
theorem GX:var 0 (none::δ)=.bad:=rfl
theorem Du {i:Int}:var 0 (some (.int i)::δ)=.ok (.int i):=rfl
theorem GW {b:Bool}:var 0 (some (.bl b)::δ)=.ok (.bl b):=rfl
theorem Dp {x:PySem.Str}:var 0 (some (.str x)::δ)=.ok (.str x):=rfl
theorem Dr:var 0 (some .non::δ)=.ok .non:=rfl
theorem Dn {ds:List D}:var 0 (some (.tup ds)::δ)=.ok (.tup ds):=rfl
theorem Ds {ds:List D}:var 0 (some (.lst ds)::δ)=.ok (.lst ds):=rfl
theorem Dq {ds:List D}:var 0 (some (.own ds)::δ)=.bad:=rfl
theorem Dw:var 0 (some (.exc C)::δ)=.ok (.exc C):=rfl
theorem Dx:var 0 (some (.cls C)::δ)=.ok (.cls C):=rfl
theorem Dv {fs:List (String×D)}:var 0 (some (.ins C fs)::δ)=.ok (.ins C fs):=rfl
theorem Am {n:Nat}:var (n+1) (c::δ)=var n δ:=rfl
theorem FL:evs [] δ=.ok []:=rfl
theorem BN {e:E} {es:List E}:evs (e::es) δ=(e δ).bind fun d=>(evs es δ).bind fun ds=>.ok (d::ds):=rfl
theorem Bo {i j:Int}:bF (.int i) (.int j)=.ok (.int (i+j)):=rfl
theorem A5 {i j:Int}:cN (.int i) (.int j)=.ok (.int (i - j)):=rfl
theorem A7 {i:Int}:IJ (.int i)=.ok (.int (-i)):=rfl
theorem E7 {i j:Int}:oLt (.int i) (.int j)=.ok (.bl (decide (i<j))):=rfl
theorem E8 {i j:Int}:oLe (.int i) (.int j)=.ok (.bl (decide (i<=j))):=rfl
theorem E9 {i j:Int}:oGt (.int i) (.int j)=.ok (.bl (decide (j<i))):=rfl
theorem Fb {i j:Int}:oGe (.int i) (.int j)=.ok (.bl (decide (j<=i))):=rfl
theorem Fd {i j:Int}:oEq (.int i) (.int j)=.ok (.bl (decide (i=j))):=by simp [oEq,D.cmp,D.sc,D.beq,Bool.beq_eq_decide_eq]
theorem E5 {i j:Int}:oNe (.int i) (.int j)=.ok (.bl (decide (i≠j))):=by simp [oNe,D.cmp,D.sc,D.beq,Bool.beq_eq_decide_eq]
theorem Fc {i j:PySem.Str}:oEq (.str i) (.str j)=.ok (.bl (decide (i=j))):=by simp [oEq,D.cmp,D.sc,D.beq,Bool.beq_eq_decide_eq]
theorem E3 {i j:PySem.Str}:oNe (.str i) (.str j)=.ok (.bl (decide (i≠j))):=by simp [oNe,D.cmp,D.sc,D.beq,Bool.beq_eq_decide_eq]
theorem IL {i j:Bool}:oEq (.bl i) (.bl j)=.ok (.bl (decide (i=j))):=by simp [oEq,D.cmp,D.sc,D.beq,Bool.beq_eq_decide_eq]
theorem Be:sF .non=.ok ↥36:=rfl
theorem xU:sD .non=.ok (.bl false):=rfl
theorem Bh:sF (.exc C)=.ok (.bl false):=rfl
theorem xX:sD (.exc C)=.ok ↥36:=rfl
theorem Bg {i:Int}:sF (.int i)=.ok (.bl false):=rfl
theorem xW {i:Int}:sD (.int i)=.ok ↥36:=rfl
theorem uK {i j:Int}:uL [.int i,.int j]=.ok (.int (max i j)):=by
 unfold uL;simp only;congr 2;omega
theorem B8 {i j:Int}:B9 [.int i,.int j]=.ok (.int (min i j)):=by
 unfold B9;simp only;congr 2;omega
theorem Ce {i:Int}:GA [.int i]=.ok (.int (if i<0 then -i else i)):=rfl
theorem Cc {ds:List D}:zS [.lst ds]=.ok (.int ds.length):=rfl
theorem Cb {ds:List D}:zS [.tup ds]=.ok (.int ds.length):=rfl
theorem Cd {i:Int}:O2 [.int i]=.ok (.int i):=rfl
theorem Gh {k:Bool}:O2 [.bl k]=.ok (.int (if k then 1 else 0)):=rfl
theorem tL {i:Int}:gz [.int i]=.ok (.int (nb i)):=rfl
theorem zw {ds:List D}:JR [.lst ds]=.ok (.lst ds):=rfl
theorem zv {ds:List D}:JR [.tup ds]=.ok (.lst ds):=rfl
theorem sT {i:Int}:mS [.int i,.ty "int"]=.ok ↥36:=rfl
theorem qt {i:Int}:mS [.int i,.ty "bool"]=.ok (.bl false):=rfl
theorem sP {ds:List D}:mS [.tup ds,.ty "tuple"]=.ok ↥36:=rfl
theorem sS {ds:List D}:mS [.lst ds,.ty "list"]=.ok ↥36:=rfl
theorem vP:mS [.exc C,.ty "ValueError"]=if av.contains C then .ok ↥36 else .bad:=by
 show (if (av.contains C&&("ValueError" == "ValueError"))=true then _ else _)=_
 rw [show ("ValueError" == "ValueError")=true from rfl,Bool.and_true]
theorem sU {B:String}:mS [.exc C,.cls B]=if av.contains C&&av.contains B then .ok (.bl (C == B||B == "MillError")) else .bad:=rfl
theorem sR {B:String}:mS [.non,.cls B]=if av.contains B then .ok (.bl false) else .bad:=rfl
theorem Hi {k:S}:trn (.nx δ) k=k δ:=rfl
theorem Hm {k:S}:trn (.ct δ) k=k δ:=rfl
theorem Hn {k:S}:trn (.bk δ) k=.nx δ:=rfl
theorem Hh {k:S}:trn (.rt d) k=.rt d:=rfl
theorem Hl {k:S}:trn (.ex C δ) k=.ex C δ:=rfl
theorem Hj {k:S}:trn (.mk C δ) k=.mk C δ:=rfl
theorem Hk {k:S}:trn (.hx C δ) k=.hx C δ:=rfl
theorem DK {p:Prop} [Decidable p] (x y:O) {k:S}:trn (if p then x else y) k=if p then trn x k else trn y k:=by split<;>rfl
theorem uB:forL i b [] δ=.nx δ:=rfl
theorem jk:forL i b (d::ds) δ=trn (b (δ.set i (some d))) (forL i b ds):=rfl
theorem Ir {ds:List D} {k:List D->O}:ovL δ (.ok (.lst ds)) k=k ds:=rfl
theorem Iq {ds:List D} {k:List D->O}:ovT δ (.ok (.tup ds)) k=k ds:=rfl
theorem DH {B:String} {i:Nat} {s:S}:DJ (.nx δ) B i s=.nx δ:=rfl
theorem DI {B:String} {i:Nat} {s:S}:DJ (.ex C δ) B i s=if BM C B then forget i (s ((noOwn δ).set i (some (.exc C)))) else .bad:=rfl
theorem Aw {p:Prop} [Decidable p] (x y:O) {B:String} {i:Nat} {s:S}:DJ (if p then x else y) B i s=if p then DJ x B i s else DJ y B i s:=by split<;>rfl
theorem yR {i:Nat}:forget i (.nx δ)=.nx (δ.set i none):=rfl
theorem yf:noOwn []=[]:=rfl
theorem vE:noOwn (none::δ)=none::noOwn δ:=rfl
theorem yh {i:Int}:noOwn (some (.int i)::δ)=some (.int i)::noOwn δ:=rfl
theorem Bs {i:Bool}:noOwn (some (.bl i)::δ)=some (.bl i)::noOwn δ:=rfl
theorem yc {i:PySem.Str}:noOwn (some (.str i)::δ)=some (.str i)::noOwn δ:=rfl
theorem ye:noOwn (some .non::δ)=some .non::noOwn δ:=rfl
theorem yb {ds:List D}:noOwn (some (.tup ds)::δ)=some (.tup ds)::noOwn δ:=rfl
theorem yg {ds:List D}:noOwn (some (.lst ds)::δ)=some (.lst ds)::noOwn δ:=rfl
theorem yj:noOwn (some (.exc C)::δ)=some (.exc C)::noOwn δ:=rfl
theorem vW {C:String}:BM C "MillError"=av.contains C:=by simp [BM]
end
theorem m7 {ds:List D} {k:Nat} {d:D} (h:ds[k]? = some d):oIx (.tup ds) (.int k)=.ok d:=by
 obtain ⟨hk,he⟩:=List.getElem?_eq_some_iff.mp h
 unfold oIx ixN
 simp [he,hk]
theorem qr {k:Nat} (h:ds[k]? = some d):oIx (.lst ds) (.int k)=.ok d:=by
 obtain ⟨hk,he⟩:=List.getElem?_eq_some_iff.mp h
 unfold oIx ixN
 simp [he,hk]
section
variable {a b c d e:D} {r:List D}
theorem ix0:oIx (.tup (a::r)) (.int 0)=.ok a:=m7 (k:=0) rfl
theorem ix1:oIx (.tup (a::b::r)) (.int 1)=.ok b:=m7 (k:=1) rfl
theorem ix2:oIx (.tup (a::b::c::r)) (.int 2)=.ok c:=m7 (k:=2) rfl
theorem ix3:oIx (.tup (a::b::c::d::r)) (.int 3)=.ok d:=m7 (k:=3) rfl
theorem Q3:oIx (.lst (a::r)) (.int 0)=.ok a:=qr (k:=0) rfl
theorem Q2:oIx (.lst (a::b::r)) (.int 1)=.ok b:=qr (k:=1) rfl
theorem Q1:oIx (.lst (a::b::c::r)) (.int 2)=.ok c:=qr (k:=2) rfl
end
theorem Rl {m:Nat} {gg:S}:fn 0 m gg []=(gg (List.replicate m none)).res:=rfl
theorem Rk {m:Nat} {gg:S} {a:D}:fn 1 m gg [a]=(gg (some a::List.replicate (m - 1) none)).res:=rfl
theorem Rj {m:Nat} {gg:S} {a b:D}:fn 2 m gg [a,b]=(gg (some a::some b::List.replicate (m - 2) none)).res:=rfl
theorem Ri {m:Nat} {gg:S} {a b c:D}:fn 3 m gg [a,b,c]=(gg (some a::some b::some c::List.replicate (m - 3) none)).res:=rfl
theorem Rh {m:Nat} {gg:S} {a b c d:D}:fn 4 m gg [a,b,c,d]=(gg (some a::some b::some c::some d::List.replicate (m - 4) none)).res:=rfl
theorem Rg {m:Nat} {gg:S} {a b c d e:D}:fn 5 m gg [a,b,c,d,e]=(gg (some a::some b::some c::some d::some e::List.replicate (m - 5) none)).res:=rfl
theorem Rf {m:Nat} {gg:S} {a b c d e f:D}:fn 6 m gg [a,b,c,d,e,f]=(gg (some a::some b::some c::some d::some e::some f::List.replicate (m - 6) none)).res:=rfl
theorem Rc {m:Nat} {gg:S} {a b c d e f g:D}:fn 7 m gg [a,b,c,d,e,f,g]=(gg (some a::some b::some c::some d::some e::some f::some g::List.replicate (m - 7) none)).res:=rfl
theorem Rb {m:Nat} {gg:S} {a b c d e f g h:D}:fn 8 m gg [a,b,c,d,e,f,g,h]=(gg (some a::some b::some c::some d::some e::some f::some g::some h::List.replicate (m - 8) none)).res:=rfl
section
variable {α β:Type} {a:α} {l:List α} {n:Nat} {p:Prop} {x y:α}
theorem va:(a::l).length=l.length+1:=rfl
theorem wu:([]:List α).length=0:=rfl
theorem wx {f:α->β}:(l.map f).length=l.length:=List.length_map f
theorem u9 {f:α->β}:(a::l).map f=f a::l.map f:=rfl
theorem wq {f:α->β}:([]:List α).map f=[]:=rfl
theorem C3:(a::l).set 0 x=x::l:=rfl
theorem C2:(a::l).set (n+1) x=a::l.set n x:=rfl
theorem C5:List.replicate 0 a=[]:=rfl
theorem C4:List.replicate (n+1) a=a::List.replicate n a:=rfl
theorem GK:0+n=n:=Nat.zero_add n
theorem GH:(if True then x else y)=x:=if_pos trivial
theorem GI:(if False then x else y)=y:=if_neg id
theorem O7:(false=true)=False:=by simp
theorem O4:(true=true)=True:=by simp
theorem C6:(!true)=false:=rfl
theorem C7:(!false)=true:=rfl
theorem Kf [Decidable p]:(decide p=true)=p:=decide_eq_true_eq
theorem C9 [Decidable True]:decide True=true:=by simp
theorem Dc [Decidable False]:decide False=false:=by simp
theorem Dd:(p/\True)=p:=by simp
theorem C1:(True/\p)=p:=by simp
theorem De:(p/\False)=False:=by simp
theorem C8:(False/\p)=False:=by simp
theorem GD:(p\/True)=True:=by simp
theorem GB:(True\/p)=True:=by simp
theorem GF:(p\/False)=p:=by simp
theorem GJ:(False\/p)=p:=by simp
theorem O5:(¬ True)=False:=by simp
theorem O6:(¬ False)=True:=by simp
end
section
variable {a b c:E} {s t:S} {δ:Dt} {i:Nat} {f h:D->D->R D} {k:D->R D} {es:List E} {F:List D->R D} {d:D} {C:String}
theorem Kn:seq s t δ=(s δ).then t:=rfl
theorem Au:assign i a δ=asg i δ (a δ):=rfl
theorem Ko:ret a δ=rtn δ (a δ):=rfl
theorem G0:Py a δ=rtn δ (a (view δ)):=rfl
theorem Kv:ifs a s t δ=ifO δ (a δ) (s δ) (t δ):=rfl
theorem Hb:expr a δ=xpr δ (a δ):=rfl
theorem Dz:raise C δ=.mk C δ:=rfl
theorem G3:az δ=.nx δ:=rfl
theorem G1:Pz δ=.rt .non:=rfl
theorem Ky:brk δ=.bk δ:=rfl
theorem Hd:cont δ=.ct δ:=rfl
theorem Kx:con d δ=.ok d:=rfl
theorem Kz:bin f a b δ=(a δ).bind fun x=>(b δ).bind fun y=>f x y:=rfl
theorem O8:un k a δ=(a δ).bind k:=rfl
theorem KA:tO a b δ=(a δ).bind fun d=>truth d (b δ) (.ok (.bl false)):=rfl
theorem O9:or_ a b δ=(a δ).bind fun d=>truth d (.ok ↥36) (b δ):=rfl
theorem Kp:ya a δ=(a δ).bind fun d=>truth d (.ok (.bl false)) (.ok ↥36):=rfl
theorem Kw:ife c a b δ=(c δ).bind fun d=>truth d (a δ) (b δ):=rfl
theorem DF:chain f h a b c δ=(a δ).bind fun x=>(b δ).bind fun y=>(f x y).bind fun d=>truth d ((c δ).bind fun z=>h y z) (.ok (.bl false)):=rfl
theorem Ki:df es δ=(evs es δ).bind fun ds=>.ok (.tup ds):=rfl
theorem Kr:vM es δ=(evs es δ).bind fun ds=>.ok (.lst ds):=rfl
theorem Hf:call F es δ=(evs es δ).bind F:=rfl
theorem Kj:Pa s C i t δ=DJ (s δ) C i t:=rfl
theorem DC:LJ i a s δ=ovL δ (a δ) fun ds=>forL i s ds δ:=rfl
theorem DB:LI i a s δ=ovT δ (a δ) fun ds=>forL i s ds δ:=rfl
theorem DE:LK i a s δ=ovR δ (a δ) fun ds=>forL i s ds δ:=rfl
end
theorem pV:av.contains "MillError"=true:=by decide
theorem wA:av.contains "NoSize"=true:=by decide
theorem wG:av.contains "NoBits"=true:=by decide
theorem ve:av.contains "NoParts"=true:=by decide
theorem wB:av.contains "NoRank"=true:=by decide
theorem pU:av.contains "NotFinite"=true:=by decide
theorem zU:av.contains "NoWay"=true:=by decide
theorem vf:av.contains "NoFlags"=true:=by decide
theorem nY:av.contains "NoFraction"=true:=by decide
theorem wy:av.contains "Unlike"=true:=by decide
theorem zW:av.contains "Empty"=true:=by decide
theorem wD:av.contains "NoLeft"=true:=by decide
theorem wz:av.contains "NoText"=true:=by decide
theorem zV:av.contains "NoRow"=true:=by decide
theorem wC:av.contains "NoName"=true:=by decide
theorem vd:av.contains "Stopped"=true:=by decide
section
variable {α:Type} {b:Bool} {ds es:List D} {i:Nat} {it:IT} {g h:E} {s:S} {δ:Dt} {C:String} {ks:List Nat} {k:List D->O} {x:D} {fs:List (String×D)} {F:List D->R D} {gs:List E} {cn m f:String}
theorem Dh:(b&&true)=b:=by simp
theorem Df:(true&&b)=b:=by simp
theorem Dg:(false&&b)=false:=by simp
theorem Di:(b&&false)=false:=by simp
theorem GO:(b||false)=b:=by simp
theorem GP:(false||b)=b:=by simp
theorem GL:(true||b)=true:=by simp
theorem GN:(b||true)=true:=by simp
theorem Ha:Gy i it s δ=ovI δ (it δ) fun ds=>forL i s ds δ:=rfl
theorem Iu:ovI δ (.ok ds) k=k ds:=rfl
theorem Iv:ovI δ (.ex C) k=.ex C (noOwn δ):=rfl
theorem Kt:itL g δ=(g δ).bind asL:=rfl
theorem Ks:itT g δ=(g δ).bind asT:=rfl
theorem G8:Q6 g δ=(g δ).bind Ke:=rfl
theorem G7:Q5 g h δ=(evs [g,h] δ).bind Kd:=rfl
theorem Gp:asL (.lst ds)=.ok ds:=rfl
theorem Gn:asT (.tup ds)=.ok ds:=rfl
theorem Cj {n:Int} (h0 : -4611686018427387904<=n) (h1:n<4611686018427387904):Ke (.int n)=.ok (HH 0 n):=by unfold Ke;simp only;rw [if_pos ⟨h0,h1⟩]
theorem Ci {n m:Int} (h0 : -4611686018427387904<=n) (h1:n<4611686018427387904) (h2 : -4611686018427387904<=m) (h3:m<4611686018427387904):Kd [.int n,.int m]=.ok (HH n m):=by unfold Kd;simp only;rw [if_pos ⟨h0,h1,h2,h3⟩]
theorem He:comp it ks g δ=(it δ).bind fun ds=>if ds.length<=100000 then (runC (stC (con ↥36) g ks δ) ds).bind eI else .bad:=rfl
theorem As:gx it ks g h δ=(it δ).bind fun ds=>if ds.length<=100000 then (runC (stC g h ks δ) ds).bind eI else .bad:=rfl
theorem G5:Gx cn m F g gs δ=(g δ).bind fun d=>if fc cn m d then (evs gs δ).bind fun ds=>F (d::ds) else .bad:=rfl
theorem Kq:mk1 cn f [x]=.ok (.ins cn [(f,x)]):=rfl
theorem Rm:wj cn f (.ins cn ((f,x)::fs))=.ok x:=by simp [wj]
theorem im1:fc cn m (.ins cn [(f,x)])=(m != f):=by
 have:fc cn m (.ins cn [(f,x)])=((cn == cn)&&(List.lookup m [(f,x)]).isNone):=rfl
 rw [this,List.lookup_cons]
 cases e:(m == f)<;>simp [e,bne]
theorem yi:noOwn (some (.ins C fs)::δ)=some (.ins C fs)::noOwn δ:=rfl
theorem zy {d:D}:LZ [d,.tup ds]=m8 d ds:=rfl
theorem vQ {d:D}:m8 d []=.ok (.bl false):=rfl
theorem sV {d c:D}:m8 d (c::ds)=(mS [d,c]).bind fun x=>truth x (.ok ↥36) (m8 d ds):=rfl
theorem vO {n:String}:mS [.non,.ty n]=if ["int","bool","str","tuple","list","ValueError"].contains n then .ok (.bl false) else .bad:=rfl
theorem Bc:sF (.tup ds)=.ok (.bl false):=rfl
theorem xS:sD (.tup ds)=.ok ↥36:=rfl
theorem Bf:sF (.lst ds)=.ok (.bl false):=rfl
theorem xV:sD (.lst ds)=.ok ↥36:=rfl
theorem Bd {z:PySem.Str}:sF (.str z)=.ok (.bl false):=rfl
theorem xT {z:PySem.Str}:sD (.str z)=.ok ↥36:=rfl
end
theorem lM {x y:String} (h:(PySem.Str.ofString x)=PySem.Str.ofString y):x=y:=by
 rw [PySem.Str.ofString_eq_toList,PySem.Str.ofString_eq_toList] at h
 have h1:(x.toList.map Char.toNat).toArray=(y.toList.map Char.toNat).toArray:=congrArg PySem.Str.cps h
 have h2:x.toList.map Char.toNat=y.toList.map Char.toNat:=by simpa using h1
 have h3:∀ (l m:List Char),l.map Char.toNat=m.map Char.toNat->l=m:=by
  intro l
  induction l with
  | nil=>intro m e;cases m with | nil=>rfl | cons _ _=>cases e
  | cons c r ih =>
   intro m e
   cases m with
   | nil=>cases e
   | cons c' r' =>
    rw [List.map_cons,List.map_cons,List.cons.injEq] at e
    rw [Char.ext (UInt32.toNat_inj.mp e.1),ih r' e.2]
 exact String.toList_inj.mp (h3 _ _ h2)
theorem A4 {x y:String}:((PySem.Str.ofString x)=PySem.Str.ofString y)=(x=y):=propext ⟨lM,fun e=>by rw [e]⟩
theorem Bk {a b c d:Int}:oEq (.tup [.int a,.int b]) (.tup [.int c,.int d])=.ok (.bl (decide (a=c/\b=d))):=by
 simp [oEq,D.cmp,D.sc,D.pl,D.beq,D.beqs,Bool.beq_eq_decide_eq]
theorem Ba {a b c d:Int}:oNe (.tup [.int a,.int b]) (.tup [.int c,.int d])=.ok (.bl (!decide (a=c/\b=d))):=by
 simp [oNe,D.cmp,D.sc,D.pl,D.beq,D.beqs,Bool.beq_eq_decide_eq]
theorem Bj {a b c d e f:Int}:oEq (.tup [.int a,.int b,.int e]) (.tup [.int c,.int d,.int f])=.ok (.bl (decide (a=c/\b=d/\e=f))):=by
 simp [oEq,D.cmp,D.sc,D.pl,D.beq,D.beqs,Bool.beq_eq_decide_eq]
theorem A9 {a b c d e f:Int}:oNe (.tup [.int a,.int b,.int e]) (.tup [.int c,.int d,.int f])=.ok (.bl (!decide (a=c/\b=d/\e=f))):=by
 simp [oNe,D.cmp,D.sc,D.pl,D.beq,D.beqs,Bool.beq_eq_decide_eq]
theorem Fj {p:Prop} [Decidable p]:((!decide p)=true)=¬ p:=by simp
theorem Ku {g:E} {δ:Dt}:itA g δ=(g δ).bind asA:=rfl
theorem Gr {ds:List D}:asA (.lst ds)=.ok ds:=rfl
theorem Gq {ds:List D}:asA (.tup ds)=.ok ds:=rfl
theorem Kk {a:E} {lo hi:Option E} {δ:Dt}:slc a lo hi δ=(a δ).bind fun d=>(part lo δ).bind fun l=>(part hi δ).bind fun h=>oSl d l h:=rfl
theorem xM {δ:Dt}:part none δ=.ok none:=rfl
theorem AZ {i:Int} {δ:Dt}:part (some (con (.int i))) δ=.ok (some i):=rfl
theorem E1 {ds:List D} {lo hi:Option Int}:oSl (.lst ds) lo hi=.ok (.lst (cut ds lo hi)):=rfl
theorem sQ {x:PySem.Str}:mS [.str x,.ty "str"]=.ok ↥36:=rfl
theorem A8 {a b c x y z:Int}:oNe (.tup [.int a,.int b,.int c]) (.tup [.int x,.int y,.int z])=.ok (.bl (decide (¬ (a=x/\b=y/\c=z)))):=by
 unfold oNe
 rw [if_pos (show D.cmp _ _=true from rfl)]
 congr 2
 simp only [D.beq,D.beqs]
 by_cases h1:a=x<;>by_cases h2:b=y<;>by_cases h3:c=z<;>simp [h1,h2,h3]
theorem Bi {a b c x y z:Int}:oEq (.tup [.int a,.int b,.int c]) (.tup [.int x,.int y,.int z])=.ok (.bl (decide (a=x/\b=y/\c=z))):=by
 unfold oEq
 rw [if_pos (show D.cmp _ _=true from rfl)]
 congr 2
 simp only [D.beq,D.beqs]
 by_cases h1:a=x<;>by_cases h2:b=y<;>by_cases h3:c=z<;>simp [h1,h2,h3]
theorem EZ {a b:String}:(PySem.Str.ofString a=PySem.Str.ofString b)=(a=b):=by
 apply propext
 constructor
 ·intro h
  rw [PySem.Str.ofString_eq_toList,PySem.Str.ofString_eq_toList] at h
  have h1:a.toList.map Char.toNat=b.toList.map Char.toNat:=by
   have:=congrArg (fun z:PySem.Str=>z.cps.toList) h
   simpa using this
  have h2:a.toList=b.toList:=by
   refine List.map_inj_right (f:=Char.toNat) (fun x y e => ?_) |>.mp h1
   exact Char.toNat_inj.mp e
  exact String.toList_inj.mp h2
 ·intro h;rw [h]
theorem IK {cn f:String} {d:D}:wj cn f (.ins cn [(f,d)])=.ok d:=by simp [wj,List.lookup]
theorem BD {cn m f:String} {d:D}:fc cn m (.ins cn [(f,d)]) = !(m == f):=by
 unfold fc
 cases h:m == f<;>simp [List.lookup,h]
theorem Jd {cn f:String} {d:D}:mk1 cn f [d]=.ok (.ins cn [(f,d)]):=rfl
theorem BC:(!false)=true:=rfl
theorem G6 {g h k:E}:LB g h k δ=(evs [g,h,k] δ).bind JV:=rfl
theorem uO {n m c:Int} (h : -1099511627776<=n/\n<1099511627776 /\ -1099511627776<=m/\m<1099511627776) (h0:0<c) (h1:c<1048576):JV [.int n,.int m,.int c]=.ok (zQ n m c):=by unfold JV;simp only;rw [if_pos ⟨h,h0,h1⟩]
theorem Ap {i:Nat}:Im i δ=.nx (δ.set i (some (.own []))):=rfl
theorem Ar {i:Nat} {g:E}:Io i g δ=kC i δ fun ds=>JW i δ ds (g (view δ)):=rfl
theorem Ao {i:Nat}:Il i δ=kC i δ fun ds=>.nx (δ.set i (some (.own ds.reverse))):=rfl
theorem EX {ds:List D} {l:Dt} {f:List D->O}:kC 0 (some (.own ds)::l) f=f ds:=rfl
theorem EW {i:Nat} {c:Option D} {l:Dt} {f:List D->O}:kC (i+1) (c::l) f=kC i l f:=rfl
theorem Gs {i:Nat} {ds:List D} {d:D} (h:D.flat d=true) (h2:ds.length<100000):JW i δ ds (.ok d)=.nx (δ.set i (some (.own (ds++[d])))):=by unfold JW;simp only;rw [if_pos ⟨h,h2⟩]
theorem Gu {i:Nat} {ds:List D}:JW i δ ds (.ex C)=.ex C (noOwn δ):=rfl
theorem G2 {i:Nat} {s:S}:Cv i s δ=s (pub i δ):=rfl
theorem K5 {ds:List D} {l:Dt}:pub 0 (some (.own ds)::l)=some (.lst ds)::l:=rfl
theorem K4 {i:Nat} {c:Option D} {l:Dt}:pub (i+1) (c::l)=c::pub i l:=by
 unfold pub
 rw [List.getElem?_cons_succ]
 split<;>rename_i q
 ·rw [q];rfl
 ·rfl
theorem yd {ds:List D}:noOwn (some (.own ds)::δ)=none::noOwn δ:=rfl
theorem Ah:view []=[]:=rfl
theorem wM:view (none::δ)=none::view δ:=rfl
theorem Af {ds:List D}:view (some (.own ds)::δ)=some (.lst ds)::view δ:=rfl
theorem Aj {i:Int}:view (some (.int i)::δ)=some (.int i)::view δ:=rfl
theorem Dm {i:Bool}:view (some (.bl i)::δ)=some (.bl i)::view δ:=rfl
theorem Ae {i:PySem.Str}:view (some (.str i)::δ)=some (.str i)::view δ:=rfl
theorem Ag  : view (some (.non)::δ)=some (.non)::view δ:=rfl
theorem Ad {ds:List D}:view (some (.tup ds)::δ)=some (.tup ds)::view δ:=rfl
theorem Ai {ds:List D}:view (some (.lst ds)::δ)=some (.lst ds)::view δ:=rfl
theorem Al  : view (some (.exc C)::δ)=some (.exc C)::view δ:=rfl
theorem Ak {fs:List (String×D)}:view (some (.ins C fs)::δ)=some (.ins C fs)::view δ:=rfl
theorem wR {i:Nat} {g:E}:Gk i g δ=L7 i δ (g (view δ)):=rfl
theorem Cg {i:Nat} {n:Int}:L7 i δ (.ok (.int n))=.nx (δ.set i (some (.int n))):=rfl
theorem G9 {c:E} {a b:S}:LC c a b δ=ifO δ (c (view δ)) (a δ) (b δ):=rfl
theorem wQ {i:Nat} {g:E}:eH i g δ=zP i δ (g (view δ)):=rfl
theorem AA {i:Nat} {rs:List D}:zP i δ (.ok (.lst rs))=.nx (δ.set i (some (.own rs))):=rfl
theorem An {i:Nat} {a b:E}:Ik i a b δ=kC i δ fun ds=>J9 i δ ds (b (view δ)) (a (view δ)):=rfl
theorem Eh {i:Nat} {ds:List D} {d:D} {k:Int} (h:D.flat d=true) (h0:0<=k) (h1:k<ds.length):J9 i δ ds (.ok d) (.ok (.int k))=.nx (δ.set i (some (.own (ds.set k.toNat d)))):=by unfold J9;simp only;rw [if_pos ⟨h,h0,h1⟩]
theorem wO {i:Nat} {g:E}:oJ i g δ=zP i δ (g δ):=rfl
theorem aI {a b:Prop} (x:a) (y:b):a/\b:=⟨x,y⟩
def EvS:=aI @E6<|aI @Bl<|aI @sC<|aI @F7<|aI @B0<|aI @BZ<|aI @DM<|aI @DL<|aI @DP<|aI @DN<|aI @DO<|aI @DR<|aI @DQ<|aI @Az<|aI @Ay<|aI @HI<|aI @HJ<|aI @HM<|aI @HK<|aI @HL<|aI @Eu<|aI @Et<|aI @JU<|aI @Gm<|aI @GQ<|aI @GR<|aI @Dk<|aI @HF<|aI @HG<|aI @En<|aI @Jt<|aI @Js<|aI @FA<|aI @Ax<|aI @Jl<|aI @ite_int<|aI @Jo<|aI @Jn<|aI @Jm<|aI @GX<|aI @Dq<|aI @Dw<|aI @Dx<|aI @Dv<|aI @Bo<|aI @A5<|aI @A7<|aI @E7<|aI @E8<|aI @E9<|aI @Fb<|aI @Fd<|aI @E5<|aI @Fc<|aI @E3<|aI @IL<|aI @Be<|aI @xU<|aI @Bh<|aI @xX<|aI @Bg<|aI @xW<|aI @uK<|aI @B8<|aI @Ce<|aI @Cc<|aI @Cb<|aI @Cd<|aI @Gh<|aI @tL<|aI @zw<|aI @zv<|aI @sT<|aI @qt<|aI @sP<|aI @sS<|aI @vP<|aI @sU<|aI @sR<|aI @Hi<|aI @Hm<|aI @Hn<|aI @Hh<|aI @Hl<|aI @Hj<|aI @Hk<|aI @DK<|aI @Ir<|aI @Iq<|aI @DH<|aI @DI<|aI @Aw<|aI @yR<|aI @yf<|aI @vE<|aI @yh<|aI @Bs<|aI @yc<|aI @ye<|aI @yb<|aI @yg<|aI @yj<|aI @vW<|aI @ix0<|aI @ix1<|aI @ix2<|aI @ix3<|aI @Q3<|aI @Q2<|aI @Q1<|aI @va<|aI @wu<|aI @wx<|aI @C5<|aI @C4<|aI @GK<|aI @GH<|aI @GI<|aI @O7<|aI @O4<|aI @C6<|aI @C7<|aI @Kf<|aI @C9<|aI @Dc<|aI @Dd<|aI @C1<|aI @De<|aI @C8<|aI @GD<|aI @GB<|aI @GF<|aI @GJ<|aI @O5<|aI @O6<|aI @Ko<|aI @G0<|aI @Kv<|aI @Hb<|aI @Dz<|aI @G3<|aI @G1<|aI @Ky<|aI @Hd<|aI @KA<|aI @O9<|aI @Kp<|aI @Kw<|aI @DF<|aI @Ki<|aI @Kr<|aI @Hf<|aI @Kj<|aI @DC<|aI @DB<|aI @DE<|aI @pV<|aI @wA<|aI @wG<|aI @ve<|aI @wB<|aI @pU<|aI @zU<|aI @vf<|aI @nY<|aI @wy<|aI @zW<|aI @wD<|aI @wz<|aI @zV<|aI @wC<|aI @vd<|aI @Dh<|aI @Df<|aI @Dg<|aI @Di<|aI @GO<|aI @GP<|aI @GL<|aI @GN<|aI @Ha<|aI @Iu<|aI @Iv<|aI @Kt<|aI @Ks<|aI @G8<|aI @G7<|aI @Gp<|aI @Gn<|aI @Cj<|aI @Ci<|aI @He<|aI @As<|aI @G5<|aI @Kq<|aI @Rm<|aI @im1<|aI @yi<|aI @zy<|aI @vQ<|aI @sV<|aI @vO<|aI @Bc<|aI @xS<|aI @Bf<|aI @xV<|aI @Bd<|aI @xT<|aI @A4<|aI @Bk<|aI @Ba<|aI @Bj<|aI @A9<|aI @Fj<|aI @Ku<|aI @Gr<|aI @Gq<|aI @Kk<|aI @xM<|aI @AZ<|aI @E1<|aI @sQ<|aI @A8<|aI @Bi<|aI @EZ<|aI @IK<|aI @BD<|aI @Jd<|aI @BC<|aI @G6<|aI @uO<|aI @Ap<|aI @Ar<|aI @Ao<|aI @EX<|aI @EW<|aI @Gs<|aI @Gu<|aI @G2<|aI @K5<|aI @K4<|aI @yd<|aI @Ah<|aI @wM<|aI @Af<|aI @Aj<|aI @Dm<|aI @Ae<|aI @Ag<|aI @Ad<|aI @Ai<|aI @Al<|aI @Ak<|aI @wR<|aI @Cg<|aI @G9<|aI @wQ<|aI @AA<|aI @An<|aI @Eh <| @wO
theorem uC (I:Dt->Prop):∀ (ds:List D),(∀ d∈ds,∀ δ,I δ->∃ δ',(body (δ.set i (some d))=.nx δ'\/body (δ.set i (some d))=.ct δ')/\I δ')->∀ δ,I δ->∃ δ',forL i body ds δ=.nx δ'/\I δ'
 | [],_,δ,h=>⟨δ,rfl,h⟩
 | d::ds,hs,δ,h=>by
  obtain ⟨δ1,e1,h1⟩:=hs d (.head _) δ h
  obtain ⟨δ2,e2,h2⟩:=uC I ds (fun d hd=>hs d (.tail _ hd)) δ1 h1
  refine ⟨δ2,?_,h2⟩
  rw [jk]
  rcases e1 with e1 | e1<;>rw [e1]<;>exact e2
theorem uc:∀ {ds:List D},(∀ d∈ds,st d=.ok (some (f d)))->runC st ds=.ok (ds.map f)
 | [],_=>rfl
 | d::ds,h=>by
  unfold runC
  rw [h d (.head _),uc fun d hd=>h d (.tail _ hd)]
  rfl
theorem Bn (h:xs.length+ys.length<=100000):bF (.lst xs) (.lst ys)=.ok (.lst (xs++ys)):=by unfold bF;simp only;rw [if_pos h]
theorem bz {c:E} {b:S}:∀ {n:Nat} {δ:Dt},bG c b n δ ≠ .bad->∀ k,bG c b (n+k) δ=bG c b n δ
 | 0,δ,h,_=>absurd rfl h
 | n+1,δ,h,k=>by
  rw [show n+1+k=(n+k)+1 by omega]
  unfold bG at h ⊢
  split
  ·rename_i q
   rw [q] at h
   simp only at h
   unfold trn at h ⊢
   split
   ·rename_i q2;rw [q2] at h;exact bz h k
   ·rename_i q2;rw [q2] at h;exact bz h k
   ·rfl
   ·rfl
  ·rfl
  ·rfl
theorem tU {c:E} {b:S} {n:Nat} {δ:Dt} {o:O} (h:bG c b n δ=o) (ho:o ≠ .bad):jU c b δ=o:=by
 have hx:∃ n,bG c b n δ ≠ .bad:=⟨n,by rw [h];exact ho⟩
 unfold jU
 rw [dif_pos hx]
 have h1:=bz hx.choose_spec n
 have h2:=bz (show bG c b n δ ≠ .bad by rw [h];exact ho) hx.choose
 rw [Nat.add_comm] at h1
 rw [<- h1,h2,h]
theorem tV {c:E} {b:S} (I:Dt->Prop) (μ:Dt->Nat) (hs:∀ δ,I δ->(c δ=.ok (.bl false))\/(c δ=.ok ↥36/\∃ δ',b δ=.nx δ'/\I δ'/\μ δ'<μ δ)) (δ:Dt) (h:I δ) :
  ∃ δ',jU c b δ=.nx δ'/\I δ'/\c δ'=.ok (.bl false):=by
 have key:∀ (n:Nat) (δ:Dt),I δ->μ δ<n->∃ δ',bG c b n δ=.nx δ'/\I δ'/\c δ'=.ok (.bl false):=by
  intro n
  induction n with
  | zero=>intro δ _ h;omega
  | succ n ih =>
   intro δ h hn
   rcases hs δ h with e | ⟨e,δ1,e1,i1,m1⟩
   ·exact ⟨δ,by unfold bG;rw [e],h,e⟩
   ·obtain ⟨δ2,e2,i2,c2⟩:=ih δ1 i1 ⋯
    exact ⟨δ2,by unfold bG;rw [e];simp only;rw [e1];exact e2,i2,c2⟩
 obtain ⟨δ',e,i,c'⟩:=key (μ δ+1) δ h (Nat.lt_succ_self _)
 exact ⟨δ',tU e (fun z=>nomatch z),i,c'⟩
end EV
local macro_rules | `(tactic| walk_at "pos")=>`(tactic| first | (with_reducible assumption) | decide +kernel | (with_reducible exact EV.af _) | omega)
local macro_rules | `(tactic| walk_at "nb")=>`(tactic| first
 | (with_reducible assumption)
 | ((with_reducible apply EV.yq)<;>walk_at "nb")
 | ((with_reducible apply EV.IW)<;>walk_at "nb")
 | ((with_reducible apply EV.dP)<;>walk_at "nb")
 | ((with_reducible apply EV.yo)<;>walk_at "nb")
 | ((with_reducible apply EV.CH);(walk_at "pos");(walk_at "nb"))
 | ((with_reducible apply EV.i6);(walk_at "pos");(walk_at "nb"))
 | ((with_reducible apply EV.IZ)<;>walk_at "nb")
 | ((with_reducible apply EV.IY)<;>walk_at "nb")
 | ((with_reducible apply EV.Ja)<;>walk_at "nb")
 | exact EV.Fn)
/- nb e<=a number -/
local macro_rules | `(tactic| walk_at "nbk")=>`(tactic| exact EV.Bu (by walk_at "nb") (by decide +kernel))
local macro_rules | `(tactic| walk_at "mul")=>`(tactic| exact EV.MulOk.of (by walk_at "nb") (by walk_at "nb") (by decide +kernel))
local macro_rules | `(tactic| simp_arith [$ls,*])=>`(tactic| simp only [EV.EvS,EV.Am,EV.C2,EV.Du,EV.GW,EV.Dp,EV.Dr,EV.Dn,EV.Ds,EV.C3,EV.Kx,EV.FL,EV.BN,EV.Kz,EV.O8,EV.F6,EV.Kn,EV.Au,EV.JT,EV.u9,EV.wq,EV.Rl,EV.Rk,EV.Rj,EV.Ri,EV.Rh,EV.Rg,EV.Rf,EV.Rc,EV.Rb,reduceIte,Nat.reduceAdd,Nat.reduceSub,Int.reduceAdd,Int.reduceSub,Int.reduceMul,Int.reduceNeg,Int.reducePow,Int.reduceLT,Int.reduceLE,Int.reduceGT,Int.reduceGE,Int.reduceEq,Int.reduceNe,Int.reduceDiv,Int.reduceMod,Int.reduceToNat,String.reduceEq,String.reduceBEq,Nat.reduceLeDiff,Int.cast_ofNat_Int,Int.natCast_one,Int.natCast_zero,List.cons_append,List.nil_append,ne_eq,$ls,*])
namespace EV
open PySem (Str)
def Sz (E F:Int):Prop:=2<=E/\E<=15/\1<=F/\F<=112
theorem iu {F:Int} (h:1<=F):2<=pw F:=ay (a:=1) h
theorem lG {E:Int} (h:2<=E):4<=pw E:=ay (a:=2) h
theorem lF {F:Int} (h:1<=F):pw F=2*pw (F - 1):=by
 have:=aO (a:=F - 1) ⋯
 rw [show F - 1+1=F by omega] at this
 exact this
theorem Ee {r h:Int} (h0:0<=h):0<=r%2*h/\r%2*h<=h:=by
 rcases (by omega:r%2=0\/r%2=1) with e | e<;>rw [e]<;>omega
theorem part0 {P Q b:Int} (hP:0<P) (hQ:0<Q):b / (P*Q)=b / P / Q:=(Int.ediv_ediv_of_nonneg (Int.le_of_lt hP)).symm
theorem part1 {P Q b:Int} (hP:0<P) (hQ:0<Q):b%(P*Q) / Q=b / Q%P:=by
 have e1:=Int.emod_def b (P*Q)
 have e2:b - P*Q*(b / (P*Q))=b+Q*(-(P*(b / (P*Q)))):=by
  rw [Int.mul_neg,<-Int.sub_eq_add_neg,<-Int.mul_assoc,Int.mul_comm Q P]
 rw [e1,e2,Int.add_mul_ediv_left _ _ ⋯,Int.emod_def]
 have e3:b / (P*Q)=b / Q / P:=by rw [Int.mul_comm,Int.ediv_ediv_of_nonneg (Int.le_of_lt hQ)]
 rw [e3]
 omega
theorem part2 {P Q b:Int}:b%(P*Q)%Q=b%Q:=Int.emod_emod_of_dvd b (Int.dvd_mul_left P Q)
theorem AY {P Q b:Int} (hP:0<P) (hQ:0<Q) (h0:0<=b) (h1:b<2*(P*Q)) :
  (0<=b / P / Q/\b / P / Q<=1)/\(0<=b / Q%P/\b / Q%P<P)/\(0<=b%Q/\b%Q<Q):=by
 refine ⟨⟨?_,?_⟩,⟨Int.emod_nonneg _ ⋯,Int.emod_lt_of_pos _ hP⟩,⟨Int.emod_nonneg _ ⋯,Int.emod_lt_of_pos _ hQ⟩⟩
 ·exact Int.ediv_nonneg (Int.ediv_nonneg h0 (Int.le_of_lt hP)) (Int.le_of_lt hQ)
 ·rw [<- part0 hP hQ]
  have:b / (P*Q)<2:=Int.ediv_lt_of_lt_mul (Int.mul_pos hP hQ) h1
  omega
theorem BH {ns:List Int} {j:Int} (h0:0<=j) (h:¬ j<(ns.length:Int)):ns.getD j.toNat 0=0:=by
 rw [List.getD_eq_getElem?_getD,List.getElem?_eq_none ⋯]
 rfl
def sgn (E F b:Int):Int:=b / pw E / pw F
def fld (E F b:Int):Int:=b / pw F%pw E
def fig (F b:Int):Int:=b%pw F
def In (E F b:Int):Prop:=0<=b/\b<pw (E+F+1)
theorem In.parts {E F b:Int} (h:Sz E F) (hb:In E F b):(0<=sgn E F b/\sgn E F b<=1)/\(0<=fld E F b/\fld E F b<pw E)/\(0<=fig F b/\fig F b<pw F):=by
 obtain ⟨h1,h2,h3,h4⟩:=h
 have eW:pw (E+F+1)=2*(pw E*pw F):=by rw [aO ⋯,au ⋯ ⋯]
 exact AY (P:=pw E) (Q:=pw F) (b:=b) (af _) (af _) hb.1 (by rw [<- eW];exact hb.2)
def jn (E F s f g:Int):Int:=s*pw ↥4+f*pw F+g
def kindS (E f g:Int):Str:=if f=0 then (if g=0 then "nought" else "faint") else if f=pw E - 1 then (if g=0 then "endless" else "none") else "plain"
def wh (F f g:Int):Int:=if f=0 then g else pw F+g
def lo (E F:Int):Int:=2 - pw (E - 1) - F
def po (E F f:Int):Int:=if f=0 then lo E F else lo E F+f - 1
def frT (w p:Int):Int:=if 0<=p then w*pw p else w
def frB (p:Int):Int:=if 0<=p then 1 else pw (-p)
theorem iV {E F:Int} (h:Sz E F):pw E<=32768:=ay h.2.1
theorem HQ {E F:Int} (h:Sz E F):pw F<=5192296858534827628530496329220096:=ay h.2.2.2
theorem oG {E F:Int} (h:Sz E F):pw (E - 1)<=16384:=ay (b:=14) (by have:=h.2.1;omega)
theorem il {i:Int} {k:Nat} (h0:0<=i) (h:i<2^k):nb i<=k:=kD.mpr (by
 have:((i.natAbs:Nat):Int)<((2^k:Nat):Int):=by rw [Int.natAbs_of_nonneg h0];simpa using h
 exact Int.ofNat_lt.mp this)
theorem dQ {s t:Int} (h0:0<=s) (h1:s<=1) (ht:nb t<=100000):MulOk s t:=by
 have:nb s<=1:=il h0 ⋯
 unfold MulOk;omega
theorem jV {k:Int} (h0:0<=k) (h1:k<=1000000):cm (.int 1) (.int k)=.ok (.int (pw k)):=by
 have:nb (1:Int)=1:=by decide
 rw [aZ h0 ⋯,Int.one_mul]
theorem yN {ns:List Int} (hb:∀ m∈ns,nb m<=2^20) (k:Nat):nb (ns.getD k 0)<=2^20:=by
 rw [List.getD_eq_getElem?_getD]
 cases h:ns[k]? with
 | none=>exact Nat.zero_le _
 | some v=>exact hb v (List.mem_of_getElem? h)
theorem wK {E F b:Int} (h:Sz E F) (hb:In E F b):nb (wh F (fld E F b) (fig F b))<=128:=by
 obtain ⟨_,_,i3⟩:=hb.parts h
 have:=HQ h
 have:=af F
 unfold wh
 split
 ·exact il i3.1 ⋯
 ·exact il ⋯ ⋯
theorem EC {E F b:Int} (h:Sz E F) (hb:In E F b) : -100000<=po E F (fld E F b)/\po E F (fld E F b)<=100000:=by
 obtain ⟨_,i2,_⟩:=hb.parts h
 have:=iV h
 have:=oG h
 have:=af (E - 1)
 obtain ⟨h1,h2,h3,h4⟩:=h
 unfold po lo
 split<;>omega
theorem Fs {a:Int} {n:Nat} (h:n<=63) (ha:a<=63):∃ M,uL [.int a,.int n]=.ok (.int M)/\a<=M/\M<=63:=by
 exact ⟨_,uK,⋯,⋯⟩
theorem Er {a b c:Int} (hc:0<c) (h:d∈zQ a b c):∃ k,a<=k/\k<b/\d=.int k:=by
 unfold zQ at h
 obtain ⟨k,hk,e⟩:=List.mem_map.mp h
 have hk:=List.mem_range.mp hk
 by_cases g:a<b
 ·rw [if_pos g] at hk
  have h1:=Int.ediv_nonneg (show 0<=b - a - 1 by omega) (Int.le_of_lt hc)
  have h2:=Int.ediv_mul_le (b - a - 1) (show c≠0 by omega)
  have h3:=Int.mul_le_mul_of_nonneg_right (show (k:Int)<=(b - a - 1) / c by omega) (Int.le_of_lt hc)
  have h4:=Int.mul_nonneg (show 0<=(k:Int) by omega) (Int.le_of_lt hc)
  exact ⟨a+k*c,⋯,⋯,e.symm⟩
 ·rw [if_neg g] at hk
  exact absurd hk (by simp)
end EV
namespace EV
def cd (E F b:Int):Int:=b%pw ↥4
def rk (E F b:Int):Int:=if pw ↥4<=b then -(cd E F b) else cd E F b
def vl (F c:Int):Int:=if c / pw F=0 then c else (pw F+c%pw F)*pw (c / pw F - 1)
def nn (E F b:Int):Prop:=pw ↥4 - pw F<cd E F b
noncomputable instance {E F b:Int}:Decidable (nn E F b):=inferInstanceAs (Decidable (_<_))
section
variable {E F a b c c':Int}
theorem CO (h:Sz E F):cd E F b / pw F=fld E F b:=by
 obtain ⟨h1,h2,h3,h4⟩:=h
 unfold cd fld;rw [au ⋯ ⋯,part1 (af _) (af _)]
theorem CN (h:Sz E F):cd E F b%pw F=fig F b:=by
 obtain ⟨h1,h2,h3,h4⟩:=h
 unfold cd fig;rw [au ⋯ ⋯,part2]
theorem BW (h:Sz E F):cd E F b=fld E F b*pw F+fig F b:=by
 have:=Int.mul_ediv_add_emod (cd E F b) (pw F)
 rw [CO h,CN h,Int.mul_comm] at this
 exact this.symm
theorem aW (h:Sz E F):4*pw F<=pw ↥4:=by
 obtain ⟨h1,h2,h3,h4⟩:=h
 have:=af F
 rw [au ⋯ ⋯];exact Int.mul_le_mul_of_nonneg_right (lG h1) ⋯
theorem gf (h:Sz E F):pw (E+F+1)=2*pw ↥4:=by
 obtain ⟨h1,h2,h3,h4⟩:=h
 exact aO ⋯
theorem Cq (h:Sz E F) (hb:In E F b):sgn E F b=if pw ↥4<=b then 1 else 0:=by
 obtain ⟨h1,h2,h3,h4⟩:=id h
 have e0:sgn E F b=b / pw ↥4:=by unfold sgn;rw [au ⋯ ⋯,part0 (af _) (af _)]
 have hw:=gf h
 have hp:=af ↥4
 obtain ⟨b0,b1⟩:=hb
 rw [e0]
 split
 ·rename_i z
  have l:1<=b / pw ↥4:=Int.le_ediv_of_mul_le hp ⋯
  have u:b / pw ↥4<2:=Int.ediv_lt_of_lt_mul hp ⋯
  omega
 ·rename_i z
  exact Int.ediv_eq_zero_of_lt b0 ⋯
theorem jJ:vl F 0=0:=by unfold vl;simp
theorem fq (h0:0<=c) (h:c<c'):vl F c<vl F c':=by
 have hQ:=af F
 have hm:c / pw F<=c' / pw F:=Int.ediv_le_ediv hQ ⋯
 have hf0:0<=c / pw F:=Int.ediv_nonneg h0 ⋯
 have e:=Int.mul_ediv_add_emod c (pw F)
 have e':=Int.mul_ediv_add_emod c' (pw F)
 have r0:=Int.emod_nonneg c (show pw F≠0 by omega)
 have r1:=Int.emod_lt_of_pos c hQ
 have s0:=Int.emod_nonneg c' (show pw F≠0 by omega)
 have s1:=Int.emod_lt_of_pos c' hQ
 unfold vl
 generalize c / pw F=f at *
 generalize c' / pw F=f' at *
 generalize c%pw F=r at *
 generalize c'%pw F=r' at *
 by_cases z:f=0
 ·rw [if_pos z]
  subst z
  by_cases z':f'=0
  ·rw [if_pos z'];exact h
  ·rw [if_neg z']
   have p1:1<=pw (f' - 1):=af _
   have:(pw F+r')*1<=(pw F+r')*pw (f' - 1):=Int.mul_le_mul_of_nonneg_left p1 ⋯
   rw [Int.mul_zero] at e
   omega
 ·rw [if_neg z,if_neg ⋯]
  by_cases q:f=f'
  ·subst q
   exact Int.mul_lt_mul_of_pos_right ⋯ (af _)
  ·have e1:pw f=2*pw (f - 1):=lF ⋯
   have e2:pw f<=pw (f' - 1):=ay ⋯
   have k1:(pw F+r)*pw (f - 1)<(2*pw F)*pw (f - 1):=Int.mul_lt_mul_of_pos_right ⋯ (af _)
   have k2:(2*pw F)*pw (f - 1)=pw F*pw f:=by rw [e1,Int.mul_comm 2,Int.mul_assoc]
   have k3:pw F*pw f<=pw F*pw (f' - 1):=Int.mul_le_mul_of_nonneg_left e2 ⋯
   have k4:pw F*pw (f' - 1)<=(pw F+r')*pw (f' - 1):=Int.mul_le_mul_of_nonneg_right ⋯ (Int.le_of_lt (af _))
   omega
theorem Cm (h0:0<=c) (h1:0<=c'):(vl F c<vl F c'↔c<c')/\(vl F c=vl F c'↔c=c'):=by
 rcases Int.lt_trichotomy c c' with q | q | q
 ·have:=fq (F:=F) h0 q;omega
 ·subst q;omega
 ·have:=fq (F:=F) h1 q;omega
theorem bh (h0:0<=c):0<=vl F c/\(vl F c=0↔c=0):=by
 have:=Cm (F:=F) (Int.le_refl 0) h0
 have:=Cm (F:=F) h0 (Int.le_refl 0)
 rw [jJ] at *
 omega
theorem Ac (h:Sz E F) (h0:0<=c) (h1:c<pw ↥4):c / pw F<pw E/\0<=c / pw F:=by
 obtain ⟨k1,k2,k3,k4⟩:=h
 refine ⟨Int.ediv_lt_of_lt_mul (af _) ?_,Int.ediv_nonneg h0 (Int.le_of_lt (af _))⟩
 rw [<- au ⋯ ⋯];exact h1
def ng (E F b:Int):Int:=if pw ↥4<=b then b - pw ↥4 else b+pw ↥4
theorem Rt (h:Sz E F) (hb:In E F b):b=(if pw ↥4<=b then 1 else 0)*pw ↥4+cd E F b:=by
 have hw:=gf h
 obtain ⟨b0,b1⟩:=hb
 unfold cd
 split
 ·have:b%pw ↥4=b - pw ↥4:=by rw [<- Int.sub_emod_right,Int.emod_eq_of_lt ⋯ ⋯]
  omega
 ·rw [Int.emod_eq_of_lt b0 ⋯];omega
theorem LA (h:Sz E F) (hb:In E F b):jn E F (1 - sgn E F b) (fld E F b) (fig F b)=ng E F b:=by
 have e:=Rt h hb
 have e2:=BW (b:=b) h
 unfold jn ng
 rw [Cq h hb]
 split
 ·rename_i z
  rw [if_pos z] at e
  omega
 ·rename_i z
  rw [if_neg z] at e
  omega
def ab (E F b:Int):Int:=if rk E F b=pw ↥4 - pw F then b else if rk E F b<0 then pw ↥4 - (rk E F b+1) else rk E F b+1
def be (E F b:Int):Int:=if rk E F b = -(pw ↥4 - pw F) then b else if 0<rk E F b then rk E F b - 1 else pw ↥4 - (rk E F b - 1)
theorem end_is (h:Sz E F):(pw E - 1)*pw F=pw ↥4 - pw F:=by
 obtain ⟨h1,h2,h3,h4⟩:=h
 rw [au ⋯ ⋯,Int.sub_mul,Int.one_mul]
theorem oa (h0:0<=c):vl F (c+1) - vl F c=pw (max (c / pw F - 1) 0):=by
 have hQ:=af F
 have f0:0<=c / pw F:=Int.ediv_nonneg h0 ⋯
 have e:=Int.mul_ediv_add_emod c (pw F)
 have r0:=Int.emod_nonneg c (show pw F≠0 by omega)
 have r1:=Int.emod_lt_of_pos c hQ
 by_cases q:c%pw F+1<pw F
 ·have e1:(c+1) / pw F=c / pw F:=by
   rw [show c+1=(c%pw F+1)+pw F*↥15 by omega,Int.add_mul_ediv_left _ _ ⋯,Int.ediv_eq_zero_of_lt ⋯ q];omega
  have e2:(c+1)%pw F=c%pw F+1:=by
   rw [show c+1=(c%pw F+1)+pw F*↥15 by omega,Int.add_mul_emod_self_left,Int.emod_eq_of_lt ⋯ q]
  unfold vl
  rw [e1,e2]
  by_cases z:c / pw F=0
  ·rw [if_pos z,if_pos z,z]
   have:pw (max (0 - 1) 0)=1:=rfl
   omega
  ·rw [if_neg z,if_neg z,show max (c / pw F - 1) 0=c / pw F - 1 by omega,<-Int.sub_mul]
   rw [show pw F+(c%pw F+1) - (pw F+c%pw F)=1 by omega,Int.one_mul]
 ·have e1:(c+1) / pw F=c / pw F+1:=by
   rw [show c+1=0+pw F*(c / pw F+1) by rw [Int.mul_add];omega,Int.add_mul_ediv_left _ _ ⋯];simp
  have e2:(c+1)%pw F=0:=by
   rw [show c+1=0+pw F*(c / pw F+1) by rw [Int.mul_add];omega,Int.add_mul_emod_self_left];simp
  unfold vl
  rw [e1,e2,if_neg ⋯]
  by_cases z:c / pw F=0
  ·rw [if_pos z,z]
   have k1:pw (max (0 - 1) 0)=1:=rfl
   have k2:pw ((0:Int)+1 - 1)=1:=rfl
   rw [k1,k2]
   rw [z,Int.mul_zero] at e
   omega
  ·rw [if_neg z,show max (c / pw F - 1) 0=c / pw F - 1 by omega,show c / pw F+1 - 1=c / pw F by omega,lF (F:=c / pw F) ⋯]
   generalize pw (c / pw F - 1)=m
   rw [show pw F+0=pw F by omega,show pw F+c%pw F=2*pw F - 1 by omega,Int.sub_mul,Int.one_mul,<-Int.mul_assoc,Int.mul_comm (pw F) 2]
   omega
theorem GS (hn:0<=n) (h0:0<=b) (h1:b<pw n) (k0:0<=k) (k1:k<n):0<=((b.toNat ^^^ (pw k).toNat:Nat):Int)/\((b.toNat ^^^ (pw k).toNat:Nat):Int)<pw n:=by
 have c1:pw n=((2^n.toNat:Nat):Int):=by unfold pw;simp
 have c2:(pw k).toNat=2^k.toNat:=by
  have:pw k=((2^k.toNat:Nat):Int):=by unfold pw;simp
  rw [this];exact Int.toNat_natCast _
 have g1:b.toNat<2^n.toNat:=by rw [c1] at h1;omega
 have g2:(pw k).toNat<2^n.toNat:=by rw [c2];exact Nat.pow_lt_pow_right ↥1 ⋯
 have:=Nat.xor_lt_two_pow g1 g2
 rw [c1]
 omega
theorem oM (h0:0<=i) (h1:0<=j):f9 (.int i) (.int j)=.ok (.int ((i.toNat ^^^ j.toNat:Nat):Int)):=by
 unfold f9;simp only;rw [if_pos ⟨h0,h1⟩]
theorem iY {x a b:PySem.Str}:oIn (.str x) (.tup [.str a,.str b])=.ok (.bl (decide (a=x\/b=x))):=by
 unfold oIn isIn
 simp only [D.sc,List.all_cons,List.all_nil,Bool.and_self,Bool.and_true,if_true,List.any_cons,List.any_nil,D.beq,Bool.or_false]
 by_cases h1:a=x<;>by_cases h2:b=x<;>simp [h1,h2]
end
end EV
namespace EV
section
variable {t n p k a b c:Int}
theorem bu (h:p<=0):pw p=1:=by unfold pw;rw [Int.toNat_of_nonpos h];rfl
theorem cS (hc:0<c):a*c<b*c↔a<b:=⟨fun h=>Int.lt_of_mul_lt_mul_right h (Int.le_of_lt hc),fun h=>Int.mul_lt_mul_of_pos_right h hc⟩
theorem oF (hk:0<=k):pw (p+k)*pw (-p)=pw k*pw p*pw (-(p+k)):=by
 by_cases h1:0<=p
 ·rw [bu (p := -p) ⋯,bu (p := -(p+k)) ⋯,au h1 hk,Int.mul_one,Int.mul_one,Int.mul_comm]
 ·by_cases h2:0<=p+k
  ·rw [bu (p:=p) ⋯,bu (p := -(p+k)) ⋯,<-au h2 ⋯,show p+k + -p=k by omega];omega
  ·rw [bu (p:=p) ⋯,bu (p:=p+k) ⋯,Int.one_mul,Int.mul_one,<-au hk ⋯,show k + -(p+k) = -p by omega]
def Lt (t n p:Int):Prop:=t*pw (-p)<n*pw p
noncomputable instance:Decidable (Lt t n p):=inferInstanceAs (Decidable (_<_))
theorem ja (hk:0<=k):t*pw (-p)<pw k*(n*pw p)↔Lt t n (p+k):=by
 have z1:=af (-(p+k))
 have z2:=af (-p)
 unfold Lt
 rw [<- cS z1,<-cS (a:=t*pw (-(p+k))) z2]
 have e1:pw k*(n*pw p)*pw (-(p+k))=n*pw (p+k)*pw (-p):=by
  rw [Int.mul_assoc n,oF hk,<-Int.mul_assoc (pw k),Int.mul_comm (pw k) n]
  simp only [Int.mul_assoc]
 have e2:t*pw (-p)*pw (-(p+k))=t*pw (-(p+k))*pw (-p):=Int.mul_right_comm ..
 rw [e1,e2]
theorem Jb (h:0<t):pw ((nb t:Int) - 1)<=t:=by
 have h1:¬ nb t<=nb t - 1:=by
  have:nb t≠0:=fun z=>by
   have:=kD.mp (Nat.le_of_eq z)
   omega
  omega
 rw [kD] at h1
 have h2:((2^(nb t - 1):Nat):Int)<=t:=⋯
 unfold pw
 rw [show ((nb t:Int) - 1).toNat=nb t - 1 by omega]
 simpa using h2
theorem mX (h:0<t):1<=nb t:=by
 rcases Nat.eq_zero_or_pos (nb t) with z | z
 ·have:=kD.mp (Nat.le_of_eq z)
  omega
 ·exact z
def hgt (t n:Int):Int:=if Lt t n (nb t - nb n) then (nb t - nb n:Int) else nb t - nb n+1
theorem Lz (ht:0<t) (hn:0<n):Lt t n ((nb t:Int) - nb n+1):=by
 have l1:=jR (i:=t) ⋯
 have l2:=Jb hn
 have l3:=mX hn
 unfold Lt
 generalize hp:(nb t:Int) - nb n+1=p
 have e:=oF (p:=p) (k:=(nb n:Int) - 1) ⋯
 rw [show p+((nb n:Int) - 1)=nb t by omega,bu (p := -(nb t:Int)) ⋯,Int.mul_one] at e
 have k1:t*pw (-p)<pw (nb t)*pw (-p):=Int.mul_lt_mul_of_pos_right l1 (af _)
 have k2:pw ((nb n:Int) - 1)*pw p<=n*pw p:=Int.mul_le_mul_of_nonneg_right l2 (Int.le_of_lt (af _))
 omega
theorem Ft (ht:0<t) (hn:0<n):¬ Lt t n ((nb t:Int) - nb n - 1):=by
 have l1:=Jb ht
 have l2:=jR (i:=n) ⋯
 have l3:=mX ht
 unfold Lt
 generalize hp:(nb t:Int) - nb n - 1=p
 have e:=oF (p:=p) (k:=(nb n:Int)) ⋯
 rw [show p+(nb n:Int)=(nb t:Int) - 1 by omega,bu (p := -((nb t:Int) - 1)) ⋯,Int.mul_one] at e
 have k1:pw ((nb t:Int) - 1)*pw (-p)<=t*pw (-p):=Int.mul_le_mul_of_nonneg_right l1 (Int.le_of_lt (af _))
 have k2:n*pw p<pw (nb n)*pw p:=Int.mul_lt_mul_of_pos_right l2 (af _)
 omega
theorem yL (ht:0<t) (hn:0<n):Lt t n (hgt t n)/\¬ Lt t n (hgt t n - 1)/\hgt t n<=nb t /\ -(nb n:Int)<=hgt t n:=by
 have l1:=mX ht
 have l2:=mX hn
 unfold hgt
 by_cases g:Lt t n (nb t - nb n)
 ·rw [if_pos g]
  exact ⟨g,Ft ht hn,⋯,⋯⟩
 ·rw [if_neg g]
  refine ⟨Lz ht hn,?_,⋯,⋯⟩
  rw [show (nb t:Int) - nb n+1 - 1=nb t - nb n by omega]
  exact g
theorem sM (hn:0<n) (h:Lt t n p) (hq:p<=q):Lt t n q:=by
 have:=(ja (t:=t) (n:=n) (p:=p) (k:=q - p) ⋯).mp (by
  have z:1<=pw (q - p):=af _
  have y:0<n*pw p:=Int.mul_pos hn (af _)
  have:=Int.mul_le_mul_of_nonneg_right z (Int.le_of_lt y)
  unfold Lt at h
  omega)
 rw [show p+(q - p)=q by omega] at this
 exact this
def nu (E F t n:Int):Int:=max (lo E F) (hgt t n - F - 1)
def de (p t:Int):Int:=t*pw (-p)
def cM (p n:Int):Int:=n*pw p
def rst (l s:Int):Int:=if l=0 then 0 else if 2*l<s then 1 else if 2*l=s then 2 else 3
theorem ig (hn:0<n):0<cM p n:=Int.mul_pos hn (af _)
theorem pv (ht:0<=t):0<=de p t:=Int.mul_nonneg ht (Int.le_of_lt (af _))
variable {E F:Int}
theorem bX (h:Sz E F) : -20000<=lo E F/\lo E F <= -1:=by
 have:=oG h
 have:2<=pw (E - 1):=iu (by have:=h.1;omega)
 obtain ⟨h1,h2,h3,h4⟩:=h
 unfold lo
 omega
theorem pk (h:Sz E F) (ht:0<t) (hn:0<n) :
  lo E F<=nu E F t n/\nu E F t n<=nb t/\de ↥24 t<2*pw F*cM ↥24 n/\(lo E F<nu E F t n->pw F*cM ↥24 n<=de ↥24 t):=by
 obtain ⟨g1,g2,g3,g4⟩:=yL ht hn
 have l:=bX h
 obtain ⟨h1,h2,h3,h4⟩:=h
 have e:2*pw F=pw (F+1):=(aO ⋯).symm
 refine ⟨by unfold nu;omega,by unfold nu;omega,?_,fun q => ?_⟩
 ·rw [e]
  unfold de cM
  rw [ja ⋯]
  exact sM hn g1 (by unfold nu;omega)
 ·have hP:nu E F t n=hgt t n - F - 1:=by unfold nu at q ⊢;omega
  have:=fun z=>g2 (by
   have:=(ja (t:=t) (n:=n) (p:=nu E F t n) (k:=F) ⋯).mp z
   rw [hP,show hgt t n - F - 1+F=hgt t n - 1 by omega] at this
   exact this)
  have:=Int.not_lt.mp this
  unfold de cM
  omega
theorem Fo (hA:0<=A) (hB:0<B) (hK:nb K<=m) (hm:m<=4000) (hw:A<K*B):ir A B:=by
 refine ⟨hB,.inr ?_⟩
 have n2:=dP hK (Nat.le_refl (nb B))
 have n3:nb A<=nb (K*B):=fH ⋯
 omega
def bW (E F t n:Int):Int:=max (lo E F) ((hgt t n+1) / 2 - F - 1)
theorem lD (h:Sz E F) (ht:0<t) (hn:0<n) :
  lo E F<=bW E F t n/\bW E F t n<=nb t/\de ↥11 t<(2*pw F)*(2*pw F)*cM ↥11 n/\(lo E F<bW E F t n->pw F*pw F*cM ↥11 n<=de ↥11 t):=by
 obtain ⟨g1,g2,g3,g4⟩:=yL ht hn
 have l:=bX h
 have nt:=mX ht
 obtain ⟨h1,h2,h3,h4⟩:=h
 have e:(2*pw F)*(2*pw F)=pw (2*F+2):=by
  rw [show 2*pw F=pw (F+1) from (aO ⋯).symm,<-au ⋯ ⋯];congr 1;omega
 have e2:pw F*pw F=pw (2*F):=by rw [<- au ⋯ ⋯];congr 1;omega
 refine ⟨by unfold bW;omega,by unfold bW;omega,?_,fun q => ?_⟩
 ·rw [e]
  unfold de cM
  rw [ja ⋯]
  exact sM hn g1 (by unfold bW;omega)
 ·rw [e2]
  have:=fun z=>g2 (by
   have:=(ja (t:=t) (n:=n) (p:=2*bW E F t n) (k:=2*F) ⋯).mp z
   exact sM hn this (by unfold bW at q ⊢;omega))
  have:=Int.not_lt.mp this
  unfold de cM
  omega
def Gw (r A B:Int):Int:=if r*r*B=A then 0 else if 4*A<(2*r+1)*(2*r+1)*B then 1 else if 4*A=(2*r+1)*(2*r+1)*B then 2 else 3
theorem Hy {r s:Int} (hr:0<=r) (hs:0<=s) (h:r*r<s*s):r<s:=by
 refine Classical.byContradiction fun z => ?_
 have:=Int.mul_le_mul (show s<=r by omega) (show s<=r by omega) hs hr
 omega
theorem Jc (h:Sz E F) (hA:0<=A) (hB:0<B) (hw:A<2*pw F*B):ir A B:=by
 refine ⟨hB,.inr ?_⟩
 have n1:nb (2*pw F)<=2+113:=dP ↥1 (eV (c:=112) h.2.2.2)
 have n2:=dP n1 (Nat.le_refl (nb B))
 have n3:nb A<=nb (2*pw F*B):=fH ⋯
 omega
end
def zI (n r:Int):Prop:=0<=r/\r*r<=n/\n<(r+1)*(r+1)
end EV
namespace EV
section
variable {E F t n P w l A B K D:Int}
theorem Dy (h:Sz E F) (hP:lo E F<=P):t*pw ↥30*cM P n=de P t*(n*pw (P - lo E F)):=by
 have l:=bX h
 have e:=oF (p := -P) (k:=P - lo E F) ⋯
 rw [show -P+(P - lo E F) = -(lo E F) by omega,Int.neg_neg,Int.neg_neg,bu (p:=lo E F) ⋯,Int.mul_one] at e
 unfold de cM
 have e2:t*pw ↥30*(n*pw P)=t*n*(pw ↥30*pw P):=by
  rw [Int.mul_assoc,Int.mul_assoc,<-Int.mul_assoc (pw ↥30),Int.mul_comm (pw ↥30) n,Int.mul_assoc]
 have e3:t*pw (-P)*(n*pw (P - lo E F))=t*n*(pw (P - lo E F)*pw (-P)):=by
  rw [Int.mul_assoc,Int.mul_assoc,<-Int.mul_assoc (pw (-P)),Int.mul_comm (pw (-P)) n,Int.mul_assoc,Int.mul_comm (pw (-P))]
 rw [e2,e3,e]
def codeOf (E F P w:Int):Int:=(P - lo E F)*pw F+w
theorem jo (h:Sz E F) (hP:lo E F<=P) (w0:0<=w) (w1:w<2*pw F) (w2:lo E F<P->pw F<=w):0<=codeOf E F P w /\
  ((w<pw F/\P=lo E F/\codeOf E F P w=w)\/(pw F<=w/\codeOf E F P w / pw F=P - lo E F+1/\codeOf E F P w%pw F=w - pw F)):=by
 have hQ:=af F
 have z:0<=(P - lo E F)*pw F:=Int.mul_nonneg ⋯ ⋯
 refine ⟨by unfold codeOf;omega,?_⟩
 by_cases g:w<pw F
 ·have e:P=lo E F:=by
   refine Classical.byContradiction fun q => ?_
   have:=w2 ⋯
   omega
  refine .inl ⟨g,e,?_⟩
  unfold codeOf
  rw [e,Int.sub_self,Int.zero_mul,Int.zero_add]
 ·refine .inr ⟨⋯,?_,?_⟩
  ·have e:codeOf E F P w=(w - pw F)+pw F*(P - lo E F+1):=by
    unfold codeOf;rw [Int.mul_add,Int.mul_comm (pw F) (P - lo E F)];omega
   rw [e,Int.add_mul_ediv_left _ _ ⋯,Int.ediv_eq_zero_of_lt ⋯ ⋯];omega
  ·have e:codeOf E F P w=(w - pw F)+pw F*(P - lo E F+1):=by
    unfold codeOf;rw [Int.mul_add,Int.mul_comm (pw F) (P - lo E F)];omega
   rw [e,Int.add_mul_emod_self_left,Int.emod_eq_of_lt ⋯ ⋯]
theorem pz (h:Sz E F) (hP:lo E F<=P) (w0:0<=w) (w1:w<2*pw F) (w2:lo E F<P->pw F<=w) :
  vl F (codeOf E F P w)=w*pw (P - lo E F)/\vl F (codeOf E F P w+1)=(w+1)*pw (P - lo E F):=by
 have hQ:=af F
 obtain ⟨c0,c⟩:=jo h hP w0 w1 w2
 have s:=oa (F:=F) c0
 have e1:vl F (codeOf E F P w)=w*pw (P - lo E F):=by
  rcases c with ⟨c1,c2,c3⟩ | ⟨c1,c2,c3⟩
  ·unfold vl
   rw [c3,c2,if_pos (Int.ediv_eq_zero_of_lt w0 c1),Int.sub_self,show pw 0=1 from rfl,Int.mul_one]
  ·unfold vl
   rw [c2,c3,if_neg ⋯,show P - lo E F+1 - 1=P - lo E F by omega,show pw F+(w - pw F)=w by omega]
 refine ⟨e1,?_⟩
 have e2:max (codeOf E F P w / pw F - 1) 0=P - lo E F:=by
  rcases c with ⟨c1,c2,c3⟩ | ⟨c1,c2,c3⟩
  ·rw [c3,Int.ediv_eq_zero_of_lt w0 c1,c2];omega
  ·rw [c2];omega
 rw [e2] at s
 rw [Int.add_mul,Int.one_mul,<-e1]
 omega
theorem Hs (hB:0<B) (hK:0<K) (l0:0<=l) (l1:l<B) (e:D*B=l*K):0<=D/\D<K/\(D=0↔l=0)/\(2*D<K↔2*l<B)/\(2*D=K↔2*l=B):=by
 have k0:0<=l*K:=Int.mul_nonneg l0 (Int.le_of_lt hK)
 have d0:0<=D:=by
  refine Classical.byContradiction fun q => ?_
  have:=Int.mul_neg_of_neg_of_pos (show D<0 by omega) hB
  omega
 have d1:D<K:=by
  rw [<- cS hB,e,Int.mul_comm K]
  exact Int.mul_lt_mul_of_pos_right l1 hK
 have e2:2*D*B=2*l*K:=by rw [Int.mul_assoc,e,Int.mul_assoc]
 refine ⟨d0,d1,⟨fun q => ?_,fun q => ?_⟩,?_,?_⟩
 ·rw [q,Int.zero_mul] at e
  rcases Int.mul_eq_zero.mp e.symm with z | z
  ·exact z
  ·omega
 ·rw [q,Int.zero_mul] at e
  rcases Int.mul_eq_zero.mp e with z | z
  ·exact z
  ·omega
 ·rw [<- cS hB,e2,Int.mul_comm K,cS hK]
 ·constructor
  ·intro q
   rw [q,Int.mul_comm] at e2
   exact (Int.eq_of_mul_eq_mul_right ⋯ e2).symm
  ·intro q
   rw [q,Int.mul_comm B] at e2
   exact Int.eq_of_mul_eq_mul_right ⋯ e2
theorem between (h:Sz E F) (hn:0<n) (hP:lo E F<=P) (w0:0<=w) (w1:w<2*pw F) (w2:lo E F<P->pw F<=w) (l0:0<=l) (l1:l<cM P n) (e:de P t=w*cM P n+l) :
  vl F (codeOf E F P w)*n<=t*pw ↥30/\t*pw ↥30<vl F (codeOf E F P w+1)*n/\(t*pw ↥30=vl F (codeOf E F P w)*n↔l=0) /\
  (2*(t*pw ↥30) - vl F (codeOf E F P w)*n - vl F (codeOf E F P w+1)*n<0↔2*l<cM P n) /\
  (2*(t*pw ↥30) - vl F (codeOf E F P w)*n - vl F (codeOf E F P w+1)*n=0↔2*l=cM P n):=by
 obtain ⟨v1,v2⟩:=pz h hP w0 w1 w2
 have u:=Dy (t:=t) (n:=n) h hP
 have hB:=ig (p:=P) hn
 have hK:0<n*pw (P - lo E F):=Int.mul_pos hn (af _)
 rw [v1,v2]
 have x1:w*pw (P - lo E F)*n=w*(n*pw (P - lo E F)):=by rw [Int.mul_assoc,Int.mul_comm (pw _) n]
 have x2:(w+1)*pw (P - lo E F)*n=w*(n*pw (P - lo E F))+n*pw (P - lo E F):=by rw [Int.add_mul,Int.one_mul,Int.add_mul,x1,Int.mul_comm (pw _) n]
 rw [x1,x2]
 generalize n*pw (P - lo E F)=K at *
 generalize t*pw ↥30=T at *
 rw [e,Int.add_mul] at u
 have s:=Hs (D:=T - w*K) hB hK l0 l1 (by
  rw [Int.sub_mul,u,Int.mul_right_comm w K];omega)
 omega
end
theorem gO (hn:0<n) (x0:0<=x) (hxy:x<y):vl F x*n<vl F y*n:=Int.mul_lt_mul_of_pos_right (fq x0 hxy) hn
section
variable {E F T n c:Int}
def mv (F T n c r:Int):Prop:=(r=0/\T=vl F c*n)\/(vl F c*n<T/\((r=1/\2*T - vl F c*n - vl F (c+1)*n<0)\/(r=2/\2*T - vl F c*n - vl F (c+1)*n=0)\/(r=3/\0<2*T - vl F c*n - vl F (c+1)*n)))
theorem By (b:vl F c*n<=T/\T<vl F (c+1)*n/\(T=vl F c*n↔l=0)/\(2*T - vl F c*n - vl F (c+1)*n<0↔2*l<B)/\(2*T - vl F c*n - vl F (c+1)*n=0↔2*l=B)) (l0:0<=l):mv F T n c (rst l B):=by
 obtain ⟨b1,b2,b3,b4,b5⟩:=b
 unfold mv rst
 generalize vl F c*n=u at *
 generalize vl F (c+1)*n=v at *
 by_cases g0:l=0
 ·rw [if_pos g0];left;omega
 rw [if_neg g0]
 by_cases g1:2*l<B
 ·rw [if_pos g1];right;omega
 rw [if_neg g1]
 by_cases g2:2*l=B
 ·rw [if_pos g2];right;omega
 rw [if_neg g2];right;omega
end
section
variable {E F T n c c' r r' s t w p:Int}
theorem zc (hn:0<n) (c0:0<=c) (d0:0<=c') (h1:vl F c*n<=T) (h2:T<vl F (c+1)*n) (h3:vl F c'*n<=T) (h4:T<vl F (c'+1)*n):c=c':=by
 have up:∀ x y:Int,0<=x->x<=y->vl F x*n<=vl F y*n:=fun x y x0 q=>by
  rcases Int.lt_or_eq_of_le q with z | z
  ·exact Int.le_of_lt (gO hn x0 z)
  ·rw [z];exact Int.le_refl _
 rcases Int.lt_trichotomy c c' with q | q | q
 ·have:=up (c+1) c' ⋯ ⋯;omega
 ·exact q
 ·have:=up (c'+1) c ⋯ ⋯;omega
theorem vN (h1:mv F T n c r) (h2:mv F T n c r'):r=r':=by
 unfold mv at h1 h2
 omega
theorem aB (h:Sz E F) (hs:0<=s/\s<=1) (c0:0<=c) (c1:c<pw ↥4):In E F ↥16/\sgn E F ↥16=s/\fld E F ↥16=c / pw F/\fig F ↥16=c%pw F:=by
 obtain ⟨k1,k2,k3,k4⟩:=id h
 have e1:cd E F ↥16=c:=by
  unfold cd
  rw [Int.add_comm,Int.add_mul_emod_self_right,Int.emod_eq_of_lt c0 c1]
 have e2:pw (E+F+1)=2*pw ↥4:=aO ⋯
 have hb:In E F ↥16:=by
  unfold In
  rw [e2]
  rcases (by omega:s=0\/s=1) with e | e<;>subst e<;>omega
 refine ⟨hb,?_,?_,?_⟩
 ·rw [Cq h hb]
  rcases (by omega:s=0\/s=1) with e | e<;>subst e
  ·rw [if_neg ⋯]
  ·rw [if_pos ⋯]
 ·have:=CO (b:=s*pw ↥4+c) h
  rw [e1] at this
  exact this.symm
 ·have:=CN (b:=s*pw ↥4+c) h
  rw [e1] at this
  exact this.symm
theorem fo:wh F ↥15 (c%pw F)*pw (po E F ↥15 - lo E F)=vl F c:=by
 unfold wh po vl
 split
 ·rename_i g
  rw [Int.sub_self,show pw 0=1 from rfl,Int.mul_one]
  have e:=Int.ediv_mul_add_emod c (pw F)
  rw [g] at e
  omega
 ·rw [show lo E F+c / pw F - 1 - lo E F=c / pw F - 1 by omega]
theorem qe (c0:0<=c):lo E F<=po E F ↥15:=by
 have:=Int.ediv_nonneg c0 (Int.le_of_lt (af F))
 unfold po
 split<;>omega
theorem sX (h:Sz E F) (hp:lo E F<=p):frT w p*pw ↥30=w*pw (p - lo E F)*frB p:=by
 have l:=bX h
 unfold frT frB
 split
 ·rw [Int.mul_assoc,<-au ⋯ ⋯,Int.mul_one,show p + -lo E F=p - lo E F by omega]
 ·rw [Int.mul_assoc,<-au ⋯ ⋯,show p - lo E F + -p = -lo E F by omega]
end
end EV
namespace EV
inductive Wy where
 | even | away | nought | up | down
def Wy.s:Wy->PySem.Str
 | .even=>"even" | .away=>"away" | .nought=>"nought" | .up=>"up" | .down=>"down"
def Wy.out:Wy->Int->Bool
 | .up,s=>decide (s=0)
 | .down,s=>decide (s=1)
 | _,_=>false
def Wy.brs:Wy->Int->Bool
 | .even,_=>true
 | .away,_=>true
 | w,s=>w.out s
def Wy.grw:Wy->Int->Bool->Int->Bool
 | .even,_,odd,r=>decide (r=3)||(decide (r=2)&&odd)
 | .away,_,_,r=>decide (2<=r)
 | w,s,_,_=>w.out s
def vg (w:Wy):D:=.ins "Way" [("name",.str w.s)]
def Aa:List PySem.Str:=["even","away","nought","up","down"]
def stK (w:Wy) (E F s c r:Int):Int:=if pw ↥4 - pw F<=c then (if w.brs s then pw ↥4 - pw F else pw ↥4 - pw F - 1) else if r=0 then c else if w.grw s (decide (c%2=1)) r then c+1 else c
def stF (w:Wy) (E F s c r:Int):Int:=if pw ↥4 - pw F<=c then 5 else if r=0 then 0 else if stK w E F s c r=pw ↥4 - pw F then 5 else if c<pw F then 3 else 1
theorem qm (h:0<=i):qo (.int i) (.int 1)=.ok (.int (i%2)):=by
 unfold qo
 simp only
 rw [if_pos ⟨h,by decide⟩]
 congr 2
 rw [show (1:Int).toNat=1 from rfl,Nat.and_one_is_mod]
 omega
theorem sE {x:PySem.Str} {ys:List PySem.Str}:iv (.str x) (.tup (ys.map D.str))=.ok (.bl (decide (x∉ys))):=by
 have h1:∀ ys:List PySem.Str,(ys.map D.str).all D.sc=true:=fun ys=>by induction ys with
  | nil=>rfl
  | cons a l ih=>simp only [List.map_cons,List.all_cons,ih,D.sc,Bool.and_self]
 have h2:∀ ys:List PySem.Str,((ys.map D.str).any fun y=>D.beq y (.str x))=decide (x∈ys):=fun ys=>by induction ys with
  | nil=>rfl
  | cons a l ih =>
   simp only [List.map_cons,List.any_cons,ih,D.beq]
   by_cases h:a=x
   ·subst h;simp
   ·have:¬ x=a:=fun z=>h z.symm
    simp [h,this]
 unfold iv oIn isIn
 simp only [D.sc,h1,Bool.and_self,if_true,h2,R.bind]
 by_cases h:x∈ys<;>simp [h]
theorem bU {E F s c:Int} (h:c<pw ↥4 - pw F):stK w E F s c 0=c/\stF w E F s c 0=0:=by
 unfold stF stK
 rw [if_neg ⋯,if_pos rfl,if_neg ⋯,if_pos rfl]
 exact ⟨rfl,rfl⟩
section
variable {E F s T T' n k c c' r r':Int} {w:Wy}
theorem Hu (h:Sz E F) (c0:0<=c):0<=stK w E F s c r/\stK w E F s c r<=pw ↥4 - pw F:=by
 have h5:=aW h
 have hQ:=af F
 unfold stK
 repeat' split
 all_goals omega
theorem Cf (hk:0<k) (h1:vl F c*n<=T) (h2:T<vl F (c+1)*n) (h3:mv F T n c r):vl F c*(n*k)<=T*k/\T*k<vl F (c+1)*(n*k)/\mv F (T*k) (n*k) c r:=by
 unfold mv at h3 ⊢
 rw [<- Int.mul_assoc,<-Int.mul_assoc]
 generalize vl F c*n=A at *
 generalize vl F (c+1)*n=B at *
 have e1:∀ x:Int,x<0->x*k<0:=fun x hx=>Int.mul_neg_of_neg_of_pos hx hk
 have e2:∀ x:Int,0<x->0<x*k:=fun x hx=>Int.mul_pos hx hk
 have e3:2*(T*k) - A*k - B*k=(2*T - A - B)*k:=by rw [Int.sub_mul,Int.sub_mul,Int.mul_assoc]
 have e4:∀ x y:Int,x<y->x*k<y*k:=fun x y q=>Int.mul_lt_mul_of_pos_right q hk
 refine ⟨Int.mul_le_mul_of_nonneg_right h1 (Int.le_of_lt hk),e4 _ _ h2,?_⟩
 rw [e3]
 rcases h3 with ⟨a,b⟩ | ⟨a,⟨b,d⟩ | ⟨b,d⟩ | ⟨b,d⟩⟩
 ·exact .inl ⟨a,by rw [b]⟩
 ·exact .inr ⟨e4 _ _ a,.inl ⟨b,e1 _ d⟩⟩
 ·exact .inr ⟨e4 _ _ a,.inr (.inl ⟨b,by rw [d,Int.zero_mul]⟩)⟩
 ·exact .inr ⟨e4 _ _ a,.inr (.inr ⟨b,e2 _ d⟩)⟩
theorem Ht (g:c<pw ↥4 - pw F):stK w E F s c r=if r=0 then c else if w.grw s (decide (c%2=1)) r then c+1 else c:=by
 unfold stK
 rw [if_neg ⋯]
theorem pZ (g:pw ↥4 - pw F<=c):stK w E F s c r=if w.brs s then pw ↥4 - pw F else pw ↥4 - pw F - 1:=by
 unfold stK
 rw [if_pos g]
end
def At (F T n c r:Int):Prop:=0<=c/\vl F c*n<=T/\T<vl F (c+1)*n/\mv F T n c r
section
variable {E F s T T' n n' k c c' r r' b W P:Int} {w:Wy}
theorem JS (hk:0<k) (h:At F T n c r):At F (T*k) (n*k) c r:=⟨h.1,Cf hk h.2.1 h.2.2.1 h.2.2.2⟩
theorem CT (hk:0<k) (h:At F (T*k) (n*k) c r):At F T n c r:=by
 obtain ⟨h0,h1,h2,h3⟩:=h
 unfold mv at h3
 have q1:vl F c*(n*k)=vl F c*n*k:=(Int.mul_assoc _ _ _).symm
 have q2:vl F (c+1)*(n*k)=vl F (c+1)*n*k:=(Int.mul_assoc _ _ _).symm
 rw [q1] at h1
 rw [q2] at h2
 rw [q1,q2] at h3
 have e4:∀ x y:Int,x*k<y*k->x<y:=fun x y q=>Int.lt_of_mul_lt_mul_right q (Int.le_of_lt hk)
 have e3:2*(T*k) - vl F c*n*k - vl F (c+1)*n*k=(2*T - vl F c*n - vl F (c+1)*n)*k:=by rw [Int.sub_mul,Int.sub_mul,Int.mul_assoc 2]
 rw [e3] at h3
 have e1:∀ x:Int,x*k<0->x<0:=fun x hx=>e4 x 0 (by rw [Int.zero_mul];exact hx)
 have e2:∀ x:Int,0<x*k->0<x:=fun x hx=>e4 0 x (by rw [Int.zero_mul];exact hx)
 have e5:∀ x y:Int,x*k=y*k->x=y:=fun x y q=>Int.eq_of_mul_eq_mul_right ⋯ q
 refine ⟨h0,Int.le_of_mul_le_mul_right h1 hk,e4 _ _ h2,?_⟩
 rcases h3 with ⟨a,b⟩ | ⟨a,⟨b,d⟩ | ⟨b,d⟩ | ⟨b,d⟩⟩
 ·exact .inl ⟨a,e5 _ _ b⟩
 ·exact .inr ⟨e4 _ _ a,.inl ⟨b,e1 _ d⟩⟩
 ·exact .inr ⟨e4 _ _ a,.inr (.inl ⟨b,e5 _ 0 (by rw [d,Int.zero_mul])⟩)⟩
 ·exact .inr ⟨e4 _ _ a,.inr (.inr ⟨b,e2 _ d⟩)⟩
theorem mf (hn:0<n) (hn':0<n') (e:T'*n=T*n') (h:At F T n c r):At F T' n' c r:=by
 have:=JS hn' h
 rw [<- e,Int.mul_comm n n'] at this
 exact CT hn this
theorem fO (hn:0<n) (h:At F T n c r) (h':At F T n c' r'):c=c'/\r=r':=by
 have e:=zc hn h.1 h'.1 h.2.1 h.2.2.1 h'.2.1 h'.2.2.1
 subst e
 exact ⟨rfl,vN h.2.2.2 h'.2.2.2⟩
theorem ij (hn:0<n) (c0:0<=c) (e:T=vl F c*n):At F T n c 0:=⟨c0,Int.le_of_eq e.symm,by rw [e];exact gO hn c0 ⋯,.inl ⟨rfl,e⟩⟩
theorem t9 (h:Sz E F) (hb:In E F b):∃ s c,(0<=s/\s<=1)/\0<=c/\c<pw ↥4/\b=s*pw ↥4+c:=by
 have hw:=gf h
 have hH:=af ↥4
 obtain ⟨b0,b1⟩:=hb
 by_cases g:b<pw ↥4
 ·exact ⟨0,b,by decide,b0,g,⋯⟩
 ·exact ⟨1,b - pw ↥4,by decide,⋯,⋯,⋯⟩
theorem kQ (h:Sz E F) (c0:0<=c) (c1:c<pw ↥4):c / pw F=pw E - 1↔pw ↥4 - pw F<=c:=by
 have hQ:=af F
 have eM:=end_is h
 constructor
 ·intro z
  have:=Int.ediv_mul_le c (show pw F≠0 by omega)
  rw [z,eM] at this
  exact this
 ·intro z
  have a:=Int.le_ediv_of_mul_le (a:=pw E - 1) (b:=c) hQ (by rw [eM];exact z)
  have b:=(Ac h c0 c1).1
  omega
theorem cY (h:Sz E F) (c0:0<=c) (c1:c<pw ↥4) :
  (pw ↥4 - pw F<c->kindS E ↥15 (c%pw F)=PySem.Str.ofString "none")/\(c=pw ↥4 - pw F->kindS E ↥15 (c%pw F)=PySem.Str.ofString "endless")/\(c=0->kindS E ↥15 (c%pw F)=PySem.Str.ofString "nought") /\
  (0<c->c<pw ↥4 - pw F->kindS E ↥15 (c%pw F)=PySem.Str.ofString "faint"\/kindS E ↥15 (c%pw F)=PySem.Str.ofString "plain"):=by
 have hQ:=af F
 have h5:=aW h
 have eM:=end_is h
 have hE:=lG h.1
 have l:=kQ h c0 c1
 have e:=Int.ediv_mul_add_emod c (pw F)
 have r0:=Int.emod_nonneg c (show pw F≠0 by omega)
 unfold kindS
 refine ⟨fun q => ?_,fun q => ?_,fun q => ?_,fun q q2 => ?_⟩
 ·have f:=l.mpr ⋯
  rw [f,eM] at e
  rw [f,if_neg ⋯,if_pos rfl,if_neg ⋯]
 ·have f:=l.mpr ⋯
  rw [f,eM] at e
  rw [f,if_neg ⋯,if_pos rfl,if_pos ⋯]
 ·rw [q,Int.zero_ediv,Int.zero_emod,if_pos rfl,if_pos rfl]
 ·have f:¬ c / pw F=pw E - 1:=fun z=>by have:=l.mp z;omega
  by_cases g:c / pw F=0
  ·rw [g] at e
   rw [if_pos g,if_neg ⋯]
   exact .inl rfl
  ·rw [if_neg g,if_neg f]
   exact .inr rfl
theorem Bq (h:Sz E F) (c0:0<=c):vl F c*pw (-lo2)*frB (po E F ↥15)=frT (wh F ↥15 (c%pw F)) (po E F ↥15)*pw (-lo2)*pw ↥30:=by
 have e:=sX (w:=wh F ↥15 (c%pw F)) h (qe (E:=E) (F:=F) c0)
 rw [fo] at e
 rw [Int.mul_right_comm,<-e,Int.mul_right_comm]
theorem lY (h:Sz E F) (c0:0<=c) (c1:c<pw ↥4 - pw F) :
  0<=frT (wh F ↥15 (c%pw F)) (po E F ↥15)/\0<frB (po E F ↥15)/\nb (frT (wh F ↥15 (c%pw F)) (po E F ↥15))<=200000/\nb (frB (po E F ↥15))<=200000:=by
 have hQ:=af F
 have hb:=(aB (s:=0) (c:=c) h ↥1 c0 ⋯)
 have nw:=wK h hb.1
 have np:=EC h hb.1
 rw [hb.2.2.1,hb.2.2.2] at nw
 rw [hb.2.2.1] at np
 have w0:0<=wh F ↥15 (c%pw F):=by
  have:=Int.emod_nonneg c (show pw F≠0 by omega)
  unfold wh
  split<;>omega
 generalize wh F ↥15 (c%pw F)=W at *
 generalize po E F ↥15=P at *
 refine ⟨?_,?_,?_,?_⟩
 ·unfold frT;split
  ·exact Int.mul_nonneg w0 (Int.le_of_lt (af _))
  ·exact w0
 ·unfold frB;split
  ·decide
  ·exact af _
 ·unfold frT;split
  ·have:=dP nw (eV (k:=P) (c:=100000) ⋯);omega
  ·omega
 ·unfold frB;split
  ·decide
  ·exact Nat.le_trans (eV (c:=100000) ⋯) ↥1
end
section
variable {E F E2 F2 c:Int}
theorem rep (h:Sz E F):∀ (p:Nat) (W:Int),0<=W->W<2*pw F->∃ c,0<=c/\vl F c=W*pw p
 | 0,W,w0,w1=>by
  have:=pz (P:=lo E F) h (Int.le_refl _) w0 w1 (fun q=>⋯)
  rw [Int.sub_self] at this
  exact ⟨_,(jo h (Int.le_refl _) w0 w1 (fun q=>⋯)).1,this.1⟩
 | p+1,W,w0,w1=>by
  by_cases g:pw F<=W
  ·have:=pz (P:=lo E F+(p+1:Nat)) h ⋯ w0 w1 (fun q=>g)
   rw [show lo E F+(p+1:Nat) - lo E F=(p+1:Nat) by omega] at this
   exact ⟨_,(jo (P:=lo E F+(p+1:Nat)) h ⋯ w0 w1 (fun q=>g)).1,this.1⟩
  ·obtain ⟨c,c0,e⟩:=rep h p (2*W) ⋯ ⋯
   refine ⟨c,c0,?_⟩
   rw [e,show ((p+1:Nat):Int)=(p:Int)+1 by omega,aO ⋯,Int.mul_assoc,Int.mul_left_comm]
theorem lj (h:Sz E F):vl F (pw ↥4 - pw F)=pw (pw (E - 1) + -(lo E F)):=by
 obtain ⟨h1,h2,h3,h4⟩:=id h
 have hQ:=af F
 have hE:=lG h1
 have e2:pw E=2*pw (E - 1):=by
  have:=aO (a:=E - 1) ⋯
  rw [show E - 1+1=E by omega] at this
  exact this
 unfold vl
 rw [<- end_is h,Int.mul_ediv_cancel _ ⋯,Int.mul_emod_left,if_neg ⋯,Int.add_zero,<-au ⋯ ⋯]
 congr 1
 unfold lo
 omega
theorem lo_le (hE:E<=E2) (hF:F<=F2):lo E2 F2<=lo E F:=by
 have:=ay (a:=E - 1) (b:=E2 - 1) ⋯
 unfold lo
 omega
theorem mT (h:Sz E F) (h2:Sz E2 F2) (hE:E<=E2) (hF:F<=F2) (c0:0<=c) (c1:c<pw ↥4 - pw F):∃ d,0<=d/\d<pw (E2+F2) - pw F2/\vl F2 d=vl F c*pw (lo E F - lo E2 F2):=by
 have hQ:=af F
 have l1:=bX h
 have l2:=bX h2
 have ll:=lo_le hE hF
 have hp:=qe (E:=E) (F:=F) c0
 have r0:=Int.emod_nonneg c (show pw F≠0 by omega)
 have r1:=Int.emod_lt_of_pos c hQ
 have w0:0<=wh F ↥15 (c%pw F)/\wh F ↥15 (c%pw F)<2*pw F:=by
  unfold wh
  split<;>omega
 have qF:=ay hF
 obtain ⟨d,d0,e⟩:=rep h2 (po E F ↥15 - lo E F+(lo E F - lo E2 F2)).toNat (wh F ↥15 (c%pw F)) w0.1 ⋯
 rw [show (((po E F ↥15 - lo E F+(lo E F - lo E2 F2)).toNat:Nat):Int)=po E F ↥15 - lo E F+(lo E F - lo E2 F2) by omega,au ⋯ ⋯,<-Int.mul_assoc,fo] at e
 refine ⟨d,d0,?_,e⟩
 refine Classical.byContradiction fun q => ?_
 have a1:vl F2 (pw (E2+F2) - pw F2)<=vl F2 d:=by
  have h5:=aW h2
  have hQ2:=af F2
  rcases Int.lt_or_eq_of_le (show pw (E2+F2) - pw F2<=d by omega) with z | z
  ·exact Int.le_of_lt (fq ⋯ z)
  ·rw [z];exact Int.le_refl _
 have a2:=fq (F:=F) c0 c1
 have a3:=Int.mul_lt_mul_of_pos_right a2 (af (lo E F - lo E2 F2))
 have hp1:=af (E - 1)
 rw [lj h,<-au ⋯ ⋯] at a3
 rw [lj h2,e] at a1
 have:=ay (a:=E - 1) (b:=E2 - 1) ⋯
 have:=ay (a:=pw (E - 1) + -lo E F+(lo E F - lo E2 F2)) (b:=pw (E2 - 1) + -lo E2 F2) ⋯
 omega
end
section
variable {E F s t n c T Z:Int} {w:Wy}
end
theorem CP {a b:Int} (ha:0<=a) (hb:0<=b):∃ x,Bm (.int a) (.int b)=.ok (.int x):=by
 unfold Bm
 simp only
 rw [if_pos ⟨ha,hb⟩]
 exact ⟨_,rfl⟩
section
variable {E F P S A B G X t n r c:Int}
theorem xy (h:Sz E F) (hP:lo E F<=P):pw ↥30*pw ↥30*pw (2*P)=pw (-(2*P))*(pw (P - lo E F)*pw (P - lo E F)):=by
 have l:=bX h
 by_cases g:0<=P
 ·rw [bu (p := -(2*P)) ⋯,Int.one_mul,show P - lo E F=P + -(lo E F) by omega,au (a:=P) ⋯ ⋯,show 2*P=P+P by omega,au (a:=P) ⋯ ⋯]
  generalize pw P=x
  generalize pw ↥30=z
  rw [Int.mul_assoc z z,Int.mul_left_comm z x,Int.mul_left_comm z x,Int.mul_assoc x z,Int.mul_comm z x]
 ·have e:pw ↥30=pw (-P)*pw (P - lo E F):=by rw [<- au ⋯ ⋯];congr 1;omega
  rw [bu (p:=2*P) ⋯,Int.mul_one,show -(2*P) = -P + -P by omega,au (a := -P) ⋯ ⋯,e]
  generalize pw (-P)=x
  generalize pw (P - lo E F)=z
  rw [Int.mul_assoc,Int.mul_assoc,Int.mul_left_comm z x]
theorem xA (h:Sz E F) (hP:lo E F<=P) (e:S*n=t*(pw ↥30*pw ↥30)):S*cM (2*P) n=de (2*P) t*(pw (P - lo E F)*pw (P - lo E F)):=by
 unfold de cM
 rw [<- Int.mul_assoc,e,Int.mul_assoc t,xy h hP,Int.mul_assoc t]
theorem pA (hB:0<B) (hG:0<G) (e:S*B=A*G):(X*G<=S↔X*B<=A)/\(X*G<S↔X*B<A)/\(X*G=S↔X*B=A):=by
 have q:X*G*B=X*B*G:=Int.mul_right_comm _ _ _
 have a1:X*G<S↔X*B<A:=by rw [<- cS hB,q,e,cS hG]
 have a2:X*G=S↔X*B=A:=by
  constructor
  ·intro z
   rw [z,e] at q
   exact (Int.eq_of_mul_eq_mul_right ⋯ q).symm
  ·intro z
   rw [z,<-e] at q
   exact Int.eq_of_mul_eq_mul_right ⋯ q
 omega
def RAt (F S c r:Int):Prop:=0<=c/\vl F c*vl F c<=S/\S<vl F (c+1)*vl F (c+1)/\((r=0/\vl F c*vl F c=S)\/(vl F c*vl F c<S/\((r=1/\4*S - (vl F c+vl F (c+1))*(vl F c+vl F (c+1))<0)\/(r=2/\4*S - (vl F c+vl F (c+1))*(vl F c+vl F (c+1))=0)\/(r=3/\0<4*S - (vl F c+vl F (c+1))*(vl F c+vl F (c+1))))))
theorem Ep (h:Sz E F) (ht:0<t) (hn:0<n) (e:S*n=t*(pw ↥30*pw ↥30)) (hr:zI (de ↥11 t / cM ↥11 n) r) :
  RAt F S (codeOf E F (bW E F t n) r) (Gw r (de ↥11 t) (cM ↥11 n)):=by
 obtain ⟨s1,s2,s3,s4⟩:=lD h ht hn
 have hB:=ig (p:=2*bW E F t n) hn
 have es:=xA h s1 e
 obtain ⟨r0,r1,r2⟩:=hr
 have qF:=af F
 have w1:r<2*pw F:=Hy r0 ⋯ (by
  have:de ↥11 t / cM ↥11 n<2*pw F*(2*pw F):=Int.ediv_lt_of_lt_mul hB s3
  omega)
 have w2:lo E F<bW E F t n->pw F<=r:=fun q=>by
  have y1:pw F*pw F<=de ↥11 t / cM ↥11 n:=Int.le_ediv_of_mul_le hB (s4 q)
  have:=Hy (r:=pw F) (s:=r+1) ⋯ ⋯ ⋯
  omega
 have f1:r*r*cM ↥11 n<=de ↥11 t:=by
  have:=Int.mul_le_mul_of_nonneg_right r1 (Int.le_of_lt hB)
  have:=Int.ediv_mul_le (de ↥11 t) (show cM ↥11 n≠0 by omega)
  omega
 have f2:de ↥11 t<(r+1)*(r+1)*cM ↥11 n:=by
  have:=Int.lt_ediv_add_one_mul_self (de ↥11 t) hB
  have:=Int.mul_le_mul_of_nonneg_right (show de ↥11 t / cM ↥11 n+1<=(r+1)*(r+1) by omega) (Int.le_of_lt hB)
  omega
 obtain ⟨v1,v2⟩:=pz h s1 r0 w1 w2
 have hG:=af (bW E F t n - lo E F)
 have hGG:0<pw (bW E F t n - lo E F)*pw (bW E F t n - lo E F):=Int.mul_pos hG hG
 have q1:∀ x,x*pw (bW E F t n - lo E F)*(x*pw (bW E F t n - lo E F))=x*x*(pw (bW E F t n - lo E F)*pw (bW E F t n - lo E F)):=fun x=>by
  generalize pw (bW E F t n - lo E F)=g
  rw [Int.mul_assoc,Int.mul_left_comm g x,Int.mul_assoc]
 have q2:r*pw (bW E F t n - lo E F)+(r+1)*pw (bW E F t n - lo E F)=(2*r+1)*pw (bW E F t n - lo E F):=by
  rw [<- Int.add_mul];congr 1;omega
 unfold RAt
 rw [v1,v2,q2,q1,q1,q1]
 have c1:=pA (X:=r*r) hB hGG es
 have c2:=pA (X:=(r+1)*(r+1)) hB hGG es
 have c3:=pA (S:=4*S) (A:=4*de ↥11 t) (X:=(2*r+1)*(2*r+1)) hB hGG (by rw [Int.mul_assoc,es,Int.mul_assoc])
 refine ⟨(jo h s1 r0 w1 w2).1,⋯,⋯,?_⟩
 unfold Gw
 by_cases g0:r*r*cM ↥11 n=de ↥11 t
 ·rw [if_pos g0];left;omega
 rw [if_neg g0]
 right
 refine ⟨⋯,?_⟩
 by_cases g1:4*de ↥11 t<(2*r+1)*(2*r+1)*cM ↥11 n
 ·rw [if_pos g1];omega
 rw [if_neg g1]
 by_cases g2:4*de ↥11 t=(2*r+1)*(2*r+1)*cM ↥11 n
 ·rw [if_pos g2];omega
 rw [if_neg g2];omega
end
section
variable {E F s c r:Int}
theorem p5 (g:c<pw ↥4 - pw F):stF w E F s c r=if r=0 then 0 else if stK w E F s c r=pw ↥4 - pw F then 5 else if c<pw F then 3 else 1:=by
 unfold stF
 rw [if_neg ⋯]
theorem mU (g:pw ↥4 - pw F<=c):stF w E F s c r=5:=by
 unfold stF
 rw [if_pos g]
end
end EV
namespace EV
open PySem
variable {E F s s' c c':Int}
def sx (s s':Int):Int:=if s=s' then 0 else 1
theorem rL:0<=sx s s'/\sx s s'<=1:=by unfold sx;split<;>decide
theorem DW (hs:0<=s/\s<=1) (hs':0<=s'/\s'<=1):f9 (.int s) (.int s')=.ok (.int (sx s s')):=by
 rcases (by omega:s=0\/s=1) with e | e<;>rcases (by omega:s'=0\/s'=1) with e' | e'<;>subst e e'<;>rfl
theorem d5 (h:Sz E F) (c0:0<=c) (c1:c<pw ↥4):(kindS E ↥15 (c%pw F)=Str.ofString "none"↔pw ↥4 - pw F<c)/\(kindS E ↥15 (c%pw F)=Str.ofString "endless"↔c=pw ↥4 - pw F)/\(kindS E ↥15 (c%pw F)=Str.ofString "nought"↔c=0):=by
 have h5:=aW h
 have hQ:=af F
 obtain ⟨a,b,d,f⟩:=cY h c0 c1
 have n1:Str.ofString "none"≠Str.ofString "endless":=by decide
 have n2:Str.ofString "none"≠Str.ofString "nought":=by decide
 have n3:Str.ofString "endless"≠Str.ofString "nought":=by decide
 have n4:Str.ofString "faint"≠Str.ofString "none"/\Str.ofString "faint"≠Str.ofString "endless"/\Str.ofString "faint"≠Str.ofString "nought":=by decide
 have n5:Str.ofString "plain"≠Str.ofString "none"/\Str.ofString "plain"≠Str.ofString "endless"/\Str.ofString "plain"≠Str.ofString "nought":=by decide
 by_cases g1:pw ↥4 - pw F<c
 ·rw [a g1];exact ⟨⟨fun _=>g1,fun _=>rfl⟩,⟨fun z=>absurd z n1,fun z=>⋯⟩,⟨fun z=>absurd z n2,fun z=>⋯⟩⟩
 by_cases g2:c=pw ↥4 - pw F
 ·rw [b g2];exact ⟨⟨fun z=>absurd z.symm n1,fun z=>⋯⟩,⟨fun _=>g2,fun _=>rfl⟩,⟨fun z=>absurd z n3,fun z=>⋯⟩⟩
 by_cases g3:c=0
 ·rw [d g3];exact ⟨⟨fun z=>absurd z.symm n2,fun z=>⋯⟩,⟨fun z=>absurd z.symm n3,fun z=>⋯⟩,⟨fun _=>g3,fun _=>rfl⟩⟩
 ·rcases f ⋯ ⋯ with e | e<;>rw [e]
  ·exact ⟨⟨fun z=>absurd z n4.1,fun z=>⋯⟩,⟨fun z=>absurd z n4.2.1,fun z=>⋯⟩,⟨fun z=>absurd z n4.2.2,fun z=>⋯⟩⟩
  ·exact ⟨⟨fun z=>absurd z n5.1,fun z=>⋯⟩,⟨fun z=>absurd z n5.2.1,fun z=>⋯⟩,⟨fun z=>absurd z n5.2.2,fun z=>⋯⟩⟩
theorem nX (a0:0<=a) (a1:a<pw n) (b0:0<=b) (b1:b<pw n):∃ x,f9 (.int a) (.int b)=.ok (.int x)/\0<=x/\x<pw n:=by
 refine ⟨_,oM a0 b0,⋯,?_⟩
 have e:pw n=((2^n.toNat:Nat):Int):=by unfold pw;simp
 rw [e] at a1 b1 ⊢
 have:=Nat.xor_lt_two_pow (x:=a.toNat) (y:=b.toNat) (n:=n.toNat) ⋯ ⋯
 omega
theorem AU {t n t' n' U V W:Int} (h1:t*U=V*n) (h2:t'*U=W*n'):V*U*(n*t')=t*n'*U*W:=by
 have e1:V*U*(n*t')=V*n*(t'*U):=by ac_rfl
 have e2:t*n'*U*W=t*U*(W*n'):=by ac_rfl
 rw [e1,e2,h1,h2]
theorem lX (h:Sz E F) (c0:0<=c):frT (wh F ↥15 (c%pw F)) (po E F ↥15)*pw ↥30=vl F c*frB (po E F ↥15):=by
 have fu:=sX (w:=wh F ↥15 (c%pw F)) h (qe (E:=E) (F:=F) c0)
 rw [fo] at fu
 exact fu
theorem BK (h:Sz E F) (c0:0<c) (c1:c<pw ↥4 - pw F):0<frT (wh F ↥15 (c%pw F)) (po E F ↥15):=by
 obtain ⟨f1,f2,f3,f4⟩:=lY h (Int.le_of_lt c0) c1
 have fu:=lX h (Int.le_of_lt c0)
 have vc:=bh (F:=F) (Int.le_of_lt c0)
 refine Classical.byContradiction fun q => ?_
 have z:frT (wh F ↥15 (c%pw F)) (po E F ↥15)=0:=⋯
 rw [z,Int.zero_mul] at fu
 have:=Int.mul_pos (show 0<vl F c by omega) f2
 omega
end EV
namespace EV
theorem nj:∀ bs:List Int,D.flats (bs.map D.int)=true
 | []=>rfl
 | b::bs=>by
  rw [List.map_cons]
  unfold D.flats
  rw [nj bs]
  rfl
theorem bR {bs:List Int}:eI (bs.map D.int)=.ok (.lst (bs.map D.int)):=by
 unfold eI
 rw [if_pos (nj bs)]
theorem xq:∀ bs:List Int,(bs.map D.int).all D.sc=true
 | []=>rfl
 | b::bs=>by rw [List.map_cons,List.all_cons,xq bs];rfl
theorem any_ints (x:Int):∀ bs:List Int,((bs.map D.int).any fun y=>D.beq y (.int x))=decide (x∈bs)
 | []=>rfl
 | b::bs=>by
  rw [List.map_cons,List.any_cons,any_ints x bs]
  unfold D.beq
  by_cases h:b=x
  ·subst h;simp
  ·have:¬ x=b:=fun z=>h z.symm
   simp [h,this]
theorem d4 {x:Int} {bs:List Int}:oIn (.int x) (.lst (bs.map D.int))=.ok (.bl (decide (x∈bs))):=by
 unfold oIn isIn
 simp only [D.sc,xq,Bool.and_self,if_true,any_ints]
theorem Bb {bs:List Int} {k:Int} (h0:0<=k) (h1:k<bs.length):oIx (.lst (bs.map D.int)) (.int k)=.ok (.int (bs.getD k.toNat 0)):=by
 obtain ⟨j,rfl⟩:=Int.eq_ofNat_of_zero_le h0
 have hj:j<bs.length:=⋯
 refine qr ?_
 simp [List.getElem?_map,List.getElem?_eq_getElem hj,List.getD_eq_getElem?_getD]
theorem lB:∀ {ds:List D},(∀ d∈ds,st d=.ok (o d))->runC st ds=.ok (ds.filterMap o)
 | [],_=>rfl
 | d::ds,h=>by
  unfold runC
  rw [h d (.head _),lB fun d hd=>h d (.tail _ hd),List.filterMap_cons]
  cases o d<;>rfl
end EV
namespace EV
open PySem
abbrev Tm:=Int×Int×Int
def tD (t:Tm):D:=.tup [.int t.1,.int t.2.1,.int t.2.2]
def tv (q:Int) (t:Tm):Int:=if t.1=1 then -(t.2.1*pw (t.2.2 - q)) else t.2.1*pw (t.2.2 - q)
def fw (q:Int):List Tm->Int
 | []=>0
 | t::r=>tv q t+fw q r
def lP:List Tm->Int
 | []=>0
 | t::r=>(r.map (·.2.2)).foldl min t.2.2
def CV (t:Tm):Prop:=0<=t.2.1/\nb t.2.1<=1000 /\ -200000<=t.2.2/\t.2.2<=200000
theorem fold_min:∀ (l:List Int) (a:Int),l.foldl min a<=a/\(∀ x∈l,l.foldl min a<=x)/\(l.foldl min a=a\/l.foldl min a∈l)
 | [],a=>⟨Int.le_refl _,fun x hx=>(nomatch hx),.inl rfl⟩
 | b::l,a=>by
  obtain ⟨h1,h2,h3⟩:=fold_min l (min a b)
  rw [List.foldl_cons]
  refine ⟨⋯,fun x hx => ?_,?_⟩
  ·rcases List.mem_cons.mp hx with e | hx
   ·subst e;omega
   ·exact h2 x hx
  ·rcases h3 with e | e
   ·rw [e]
    by_cases g:a<=b
    ·exact .inl ⋯
    ·exact .inr (List.mem_cons.mpr (.inl ⋯))
   ·exact .inr (.tail _ e)
theorem sJ (h:t∈ts):lP ts<=t.2.2:=by
 cases ts with
 | nil=>cases h
 | cons a r =>
  obtain ⟨h1,h2,_⟩:=fold_min (r.map (·.2.2)) a.2.2
  rcases List.mem_cons.mp h with e | h
  ·subst e;exact h1
  ·exact h2 _ (List.mem_map.mpr ⟨t,h,rfl⟩)
theorem uq (hn:ts≠[]):∃ t∈ts,lP ts=t.2.2:=by
 cases ts with
 | nil=>exact absurd rfl hn
 | cons x r =>
  obtain ⟨_,_,h3⟩:=fold_min (r.map (·.2.2)) x.2.2
  rcases h3 with e | e
  ·exact ⟨x,.head _,e⟩
  ·obtain ⟨t,ht,e'⟩:=List.mem_map.mp e
   exact ⟨t,.tail _ ht,e'.symm⟩
theorem sL (h0:a<=0/\0<=b) (h:∀ t∈ts,a<=t.2.2/\t.2.2<=b):a<=lP ts/\lP ts<=b:=by
 by_cases g:ts=[]
 ·subst g;exact h0
 ·obtain ⟨t,ht,e⟩:=uq g
  rw [e]
  exact h t ht
theorem yw (hn:ts≠[]) (h:∀ t∈ts,a<=t.2.2):a<=lP ts:=by
 obtain ⟨t,ht,e⟩:=uq hn
 rw [e]
 exact h t ht
theorem tZ (hq:q<=p) (hp:p<=t.2.2):tv q t=tv p t*pw (p - q):=by
 have e:pw (t.2.2 - q)=pw (t.2.2 - p)*pw (p - q):=by rw [<- au ⋯ ⋯];congr 1;omega
 unfold tv
 split
 ·rw [e,Int.neg_mul,Int.mul_assoc]
 ·rw [e,Int.mul_assoc]
theorem pY (hq:q<=p):∀ {ts:List Tm},(∀ t∈ts,p<=t.2.2)->fw q ts=fw p ts*pw (p - q)
 | [],_=>by unfold fw;rw [Int.zero_mul]
 | t::r,h=>by
  unfold fw
  rw [tZ hq (h t (.head _)),pY hq fun t ht=>h t (.tail _ ht),Int.add_mul]
theorem wY (h:∀ t∈ts,q<=t.2.2):fw q ts=fw (lP ts) ts*pw (lP ts - q):=by
 cases ts with
 | nil=>unfold fw;rw [Int.zero_mul]
 | cons t r=>exact pY (yw (by simp) h) fun t ht=>sJ ht
theorem ints_of:∀ ns:List Int,intsOf (ns.map D.int)=some ns
 | []=>rfl
 | n::r=>by
  rw [List.map_cons]
  show (intsOf (r.map D.int)).map (n::·)=_
  rw [ints_of r]
  rfl
theorem yx:pQ 0 [.lst ((ts.map (·.2.2)).map D.int)]=.ok (.int (lP ts)):=by
 unfold pQ
 simp only [ints_of]
 cases ts with
 | nil=>rfl
 | cons t r=>rfl
theorem oA {st:D->R (Option D)} {f:Tm->Int} {ts:List Tm} (h:∀ t∈ts,st (tD t)=.ok (some (.int (f t)))):runC st (ts.map tD)=.ok ((ts.map f).map D.int):=by
 induction ts with
 | nil=>rfl
 | cons t r ih =>
  rw [List.map_cons]
  unfold runC
  rw [h t (.head _),ih fun t ht=>h t (.tail _ ht)]
  rfl
theorem BL (hq:q<=0) (hp:q<=p):frT w p*pw (-q)=w*pw (p - q)*frB p:=by
 unfold frT frB
 split
 ·rw [Int.mul_one,Int.mul_assoc,<-au ⋯ ⋯]
  congr 2
 ·rw [Int.mul_assoc,<-au ⋯ ⋯]
  congr 2
  omega
theorem Cp:∀ {ts:List Tm},(∀ t∈ts,CV t/\p<=t.2.2/\t.2.2 - p<=450000)->nb (fw p ts)<=451001+ts.length
 | [],_=>by unfold fw;decide
 | t::r,h=>by
  obtain ⟨⟨a1,a2,a3,a4⟩,a5,a6⟩:=h t (.head _)
  have ih:=Cp (p:=p) (ts:=r) fun t ht=>h t (.tail _ ht)
  have b1:nb (t.2.1*pw (t.2.2 - p))<=451001:=by
   have:=dP a2 (eV (k:=t.2.2 - p) (c:=450000) ⋯)
   omega
  have b2:nb (tv p t)<=451001:=by
   unfold tv
   split
   ·rw [uo];exact b1
   ·exact b1
  unfold fw
  rw [List.length_cons]
  exact Nat.le_trans (yq b2 ih) ⋯
def wt (E F s c:Int):Tm:=(s,wh F ↥15 (c%pw F),po E F ↥15)
theorem wI {E F s c:Int} (h:Sz E F) (c0:0<=c) (c1:c<pw ↥4 - pw F):CV (wt E F s c)/\lo E F<=(wt E F s c).2.2/\(wt E F s c).2.2<=20000:=by
 have hQ:=af F
 obtain ⟨b1,b2,b3,b4⟩:=aB (s:=0) (c:=c) h ↥1 c0 ⋯
 have n:=wK h b1
 have i:=EC h b1
 rw [b3] at n i
 rw [b4] at n
 have g:=qe (E:=E) (F:=F) c0
 have r0:=Int.emod_nonneg c (show pw F≠0 by omega)
 have d1:=(Ac h c0 ⋯).1
 have hE:=iV h
 have l:=bX h
 obtain ⟨k1,k2,k3,k4⟩:=id h
 have hp1:=af (E - 1)
 have x1 : -200000<=po E F ↥15:=⋯
 have x2:po E F ↥15<=200000:=⋯
 refine ⟨⟨?_,Nat.le_trans n ↥1,x1,x2⟩,g,?_⟩
 ·show 0<=wh F ↥15 (c%pw F)
  unfold wh
  split<;>omega
 ·show po E F ↥15<=20000
  have:=(Ac h c0 (show c<pw ↥4 by omega)).2
  unfold po lo
  have hE1:=lF (F:=E) (by have:=h.1;omega)
  have hE2:=oG h
  split<;>omega
theorem Kh {E F s c:Int} (c0:0<=c):tv (lo E F) (wt E F s c)=if s=1 then -(vl F c) else vl F c:=by
 unfold tv wt
 simp only
 rw [fo]
def xD:Tm ⊕ Int->D
 | .inl t=>tD t
 | .inr s=>.tup [.int s,.non,.int 0]
def mD (xs:List (Tm ⊕ Int)):List Int:=xs.filterMap fun x=>match x with | .inl _=>none | .inr s=>some s
def nI (E F:Int) (x:Int×Int):Int:=x.1*pw ↥4+x.2
def rF (E F:Int) (x:Int×Int):Prop:=(0<=x.1/\x.1<=1)/\0<=x.2/\x.2<pw ↥4
def xt (E F:Int) (x:Int×Int):Tm ⊕ Int:=if x.2=pw ↥4 - pw F then .inr x.1 else .inl (wt E F x.1 x.2)
theorem tQ {xs:List (Tm ⊕ Int)}:D.flats (xs.map xD)=true:=by
 induction xs with
 | nil=>rfl
 | cons x r ih =>
  rw [List.map_cons]
  show (D.flat (xD x)&&D.flats (r.map xD))=true
  rw [ih]
  cases x<;>rfl
def pm (E F:Int) (x y:Int×Int):Tm:=(sx x.1 y.1,wh F (x.2 / pw F) (x.2%pw F)*wh F (y.2 / pw F) (y.2%pw F),po E F (x.2 / pw F)+po E F (y.2 / pw F))
def pt (E F:Int) (x y:Int×Int):Tm ⊕ Int:=if x.2=pw ↥4 - pw F\/y.2=pw ↥4 - pw F then .inr (sx x.1 y.1) else .inl (pm E F x y)
theorem K7 {E F:Int} (h:Sz E F) (c0:0<=x.2) (c1:x.2<pw ↥4 - pw F) (d0:0<=y.2) (d1:y.2<pw ↥4 - pw F):CV (pm E F x y)/\2*lo E F<=(pm E F x y).2.2/\(pm E F x y).2.2<=40000:=by
 obtain ⟨⟨a1,a2,a3,a4⟩,a5,a6⟩:=wI (s:=0) h c0 c1
 obtain ⟨⟨b1,b2,b3,b4⟩,b5,b6⟩:=wI (s:=0) h d0 d1
 have hQ:=af F
 obtain ⟨x1,x2,x3,x4⟩:=aB (s:=0) (c:=x.2) h ↥1 c0 ⋯
 have n:=wK h x1
 rw [x3,x4] at n
 obtain ⟨y1,y2,y3,y4⟩:=aB (s:=0) (c:=y.2) h ↥1 d0 ⋯
 have n':=wK h y1
 rw [y3,y4] at n'
 have l:=bX h
 unfold wt at *
 simp only at *
 unfold pm
 refine ⟨⟨Int.mul_nonneg a1 b1,Nat.le_trans (dP n n') ↥1,?_,?_⟩,?_,?_⟩<;>simp only<;>omega
theorem K6 {E F:Int} (c0:0<=x.2) (d0:0<=y.2):tv (2*lo E F) (pm E F x y)=if sx x.1 y.1=1 then -(vl F x.2*vl F y.2) else vl F x.2*vl F y.2:=by
 have a:=fo (E:=E) (F:=F) (c:=x.2)
 have b:=fo (E:=E) (F:=F) (c:=y.2)
 have g1:=qe (E:=E) (F:=F) c0
 have g2:=qe (E:=E) (F:=F) d0
 have e:pw (po E F (x.2 / pw F)+po E F (y.2 / pw F) - 2*lo E F)=pw (po E F (x.2 / pw F) - lo E F)*pw (po E F (y.2 / pw F) - lo E F):=by
  rw [<- au ⋯ ⋯]
  congr 1
  omega
 have e2:wh F (x.2 / pw F) (x.2%pw F)*wh F (y.2 / pw F) (y.2%pw F)*pw (po E F (x.2 / pw F)+po E F (y.2 / pw F) - 2*lo E F)=vl F x.2*vl F y.2:=by
  rw [e,<-a,<-b]
  ac_rfl
 unfold tv pm
 simp only
 rw [e2]
def pD (E F:Int) (p:↥28×↥28):D:=.tup [.int (nI E F p.1),.int (nI E F p.2)]
def J6 (w:Wy) (E F X U sg x y:Int):Prop:=(X=0->x=sg*pw ↥4/\y=0)/\(X≠0->∃ k r,x=(if X<0 then 1 else 0)*pw ↥4+stK w E F (if X<0 then 1 else 0) k r/\y=stF w E F (if X<0 then 1 else 0) k r/\At F (if X<0 then -X else X) U k r)
theorem iG {X V:Int} (hV:0<V):(X*V<0↔X<0):=by
 constructor
 ·intro g
  refine Classical.byContradiction fun g' => ?_
  have:=Int.mul_nonneg (show 0<=X by omega) (Int.le_of_lt hV)
  omega
 ·exact fun g=>Int.mul_neg_of_neg_of_pos g hV
def fl (ps:List (↥28×↥28)):List ↥28:=ps.flatMap fun p=>[p.1,p.2]
theorem nk:z∈fl ps↔∃ p∈ps,z=p.1\/z=p.2:=by
 unfold fl
 rw [List.mem_flatMap]
 constructor
 ·rintro ⟨p,m,hz⟩
  refine ⟨p,m,?_⟩
  simpa using hz
 ·rintro ⟨p,m,hz⟩
  exact ⟨p,m,by simpa using hz⟩
theorem uE:∀ ps:List (↥28×↥28),(fl ps).length=2*ps.length
 | []=>rfl
 | p::r=>by
  show ([p.1,p.2]++fl r).length=_
  rw [List.length_append,uE r,List.length_cons]
  simp
  omega
def ptp (E F:Int) (p:↥28×↥28):Tm ⊕ Int:=pt E F p.1 p.2
def fts (E F:Int) (ps:List (↥28×↥28)) (xs:List ↥28):List Tm:=ps.map (fun p=>pm E F p.1 p.2)++xs.map (fun x=>wt E F x.1 x.2)
section
variable {E F:Int} {ps:List (↥28×↥28)} {xs:List ↥28}
theorem Kc (m:p∈ps):p.1∈xs++fl ps:=List.mem_append.mpr (.inr (nk.mpr ⟨p,m,.inl rfl⟩))
theorem Kb (m:p∈ps):p.2∈xs++fl ps:=List.mem_append.mpr (.inr (nk.mpr ⟨p,m,.inr rfl⟩))
theorem Jw (h:Sz E F) (hx:∀ x∈xs++fl ps,rF E F x) (hf:∀ x∈xs++fl ps,x.2<pw ↥4 - pw F):∀ t∈fts E F ps xs,CV t/\2*lo E F<=t.2.2:=fun t ht=>by
 have l:=bX h
 rcases List.mem_append.mp ht with m | m
 ·obtain ⟨p,m',rfl⟩:=List.mem_map.mp m
  clear m
  rename p∈ps=>m
  obtain ⟨a,b,c⟩:=K7 (x:=p.1) (y:=p.2) h (hx _ (Kc m)).2.1 (hf _ (Kc m)) (hx _ (Kb m)).2.1 (hf _ (Kb m))
  exact ⟨a,b⟩
 ·obtain ⟨x,m',rfl⟩:=List.mem_map.mp m
  clear m
  rename x∈xs=>m
  have mm:x∈xs++fl ps:=List.mem_append.mpr (.inl m)
  obtain ⟨a,b,c⟩:=wI (s:=x.1) h (hx _ mm).2.1 (hf _ mm)
  exact ⟨a,⋯⟩
theorem Jv (hf:∀ x∈xs++fl ps,x.2<pw ↥4 - pw F):(ps.map (ptp E F)++xs.map (xt E F)).map xD=(fts E F ps xs).map tD:=by
 unfold fts
 rw [List.map_append,List.map_append,List.map_map,List.map_map,List.map_map,List.map_map]
 congr 1
 ·refine List.map_congr_left fun p m => ?_
  have a:=hf _ (Kc m)
  have b:=hf _ (Kb m)
  show xD (ptp E F p)=tD (pm E F p.1 p.2)
  unfold ptp pt
  rw [if_neg ⋯]
  rfl
 ·refine List.map_congr_left fun x m => ?_
  have a:=hf _ (List.mem_append.mpr (.inl m))
  show xD (xt E F x)=tD (wt E F x.1 x.2)
  unfold xt
  rw [if_neg ⋯]
  rfl
theorem yP:(fts E F ps xs).length=ps.length+xs.length:=by
 unfold fts
 rw [List.length_append,List.length_map,List.length_map]
theorem Ck (h:Sz E F) (c0:0<=c):tv (2*lo E F) (wt E F s c)=(if s=1 then -(vl F c) else vl F c)*pw ↥30:=by
 have l:=bX h
 have g:lo E F<=(wt E F s c).2.2:=qe (E:=E) (F:=F) c0
 rw [tZ (p:=lo E F) (q:=2*lo E F) ⋯ g,Kh c0]
 congr 2
 omega
theorem Cu (h:Sz E F):pw (-(2*lo E F))=pw ↥30*pw ↥30:=by
 have l:=bX h
 rw [<- au ⋯ ⋯]
 congr 1
 omega
end
def nsg (w:Wy) (bs:List Int):Int:=if 0∈bs/\1∈bs then (if w.s=PySem.Str.ofString "down" then 1 else 0) else if 1∈bs then 1 else 0
theorem IS (w:Wy) (bs:List Int):0<=nsg w bs/\nsg w bs<=1:=by
 unfold nsg
 split
 ·split<;>decide
 ·split<;>decide
theorem Fh (hs:0<=s/\s<=1) (hs':0<=s'/\s'<=1):nsg w [s,s']=if s'=s then s else if w.s=PySem.Str.ofString "down" then 1 else 0:=by
 unfold nsg
 rcases (by omega:s=0\/s=1) with g | g<;>rcases (by omega:s'=0\/s'=1) with g' | g'<;>subst g g'<;>simp
theorem Fi (hs:0<=s/\s<=1):nsg w [s]=s:=by
 unfold nsg
 rcases (by omega:s=0\/s=1) with g | g<;>subst g<;>simp
def J7 (w:Wy) (E F s c s' c' x y:Int):Prop :=
 if pw ↥4 - pw F<c\/pw ↥4 - pw F<c' then x=pw ↥4 - pw F+pw (F - 1)/\y=0
 else if c=pw ↥4 - pw F then (if c'=pw ↥4 - pw F/\¬ s=s' then x=pw ↥4 - pw F+pw (F - 1)/\y=16 else x=s*pw ↥4+(pw ↥4 - pw F)/\y=0)
 else if c'=pw ↥4 - pw F then x=s'*pw ↥4+(pw ↥4 - pw F)/\y=0
 else J6 w E F ((if s=1 then -(vl F c) else vl F c)+(if s'=1 then -(vl F c') else vl F c')) 1 (if s'=s then s else if w.s=PySem.Str.ofString "down" then 1 else 0) x y
def J1 (w:Wy) (E F s c s' c' x y:Int):Prop :=
 if pw ↥4 - pw F<c\/pw ↥4 - pw F<c' then x=pw ↥4 - pw F+pw (F - 1)/\y=0
 else if (c=0\/c'=0)/\(c=pw ↥4 - pw F\/c'=pw ↥4 - pw F) then x=pw ↥4 - pw F+pw (F - 1)/\y=16
 else if c=pw ↥4 - pw F\/c'=pw ↥4 - pw F then x=sx s s'*pw ↥4+(pw ↥4 - pw F)/\y=0
 else J6 w E F (if sx s s'=1 then -(vl F c*vl F c') else vl F c*vl F c') (pw ↥30) (sx s s') x y
theorem Bt {E F s c:Int} (hs:0<=s/\s<=1) (c0:0<=c) (c1:c<pw ↥4):ng E F ↥16=(1 - s)*pw ↥4+c:=by
 unfold ng
 rcases (by omega:s=0\/s=1) with e | e<;>subst e
 ·rw [Int.zero_mul,Int.zero_add,if_neg ⋯,Int.sub_zero,Int.one_mul,Int.add_comm]
 ·rw [Int.one_mul,if_pos ⋯,Int.sub_self,Int.zero_mul]
  omega
end EV
namespace EV
open PySem
theorem L6 {F T n k r c:Int} (hn:0<n) (a:At F T n k r) (c0:0<=c):c<=k↔vl F c*n<=T:=by
 constructor
 ·intro q
  rcases Int.lt_or_eq_of_le q with q | q
  ·exact Int.le_trans (Int.le_of_lt (gO hn c0 q)) a.2.1
  ·rw [q];exact a.2.1
 ·intro q
  refine Classical.byContradiction fun z => ?_
  have:=a.2.2.1
  rcases Int.lt_or_eq_of_le (show k+1<=c by omega) with y | y
  ·have:=gO (F:=F) hn (by have:=a.1;omega) y;omega
  ·rw [<- y] at q;omega
theorem t8 {w:Wy} {E F s c r:Int}:stF w E F s c r=0\/stF w E F s c r=1\/stF w E F s c r=3\/stF w E F s c r=5:=by
 unfold stF
 repeat' split
 all_goals simp
section
variable {w:Wy} {E F Eg Fg Em Fm s c:Int}
theorem emb (h:Sz Eg Fg) (h':Sz Em Fm) (hE:Eg<=Em) (hF:Fg<=Fm) (c0:0<=c) (c1:c<=pw ↥23 - pw Fg):∃ d,0<=d/\d<=pw (Em+Fm) - pw Fm/\vl Fm d=vl Fg c*pw ↥0/\(c<pw ↥23 - pw Fg->d<pw (Em+Fm) - pw Fm):=by
 by_cases g:c<pw ↥23 - pw Fg
 ·obtain ⟨d,d0,d1,e⟩:=mT h h' hE hF c0 g
  exact ⟨d,d0,Int.le_of_lt d1,e,fun _=>d1⟩
 ·have ec:c=pw ↥23 - pw Fg:=⋯
  have l1:=bX h
  have l2:=bX h'
  have ll:=lo_le hE hF
  have hh:=aW h'
  have hQ:=af Fm
  have p1:=af (Eg - 1)
  have pm:=ay (a:=Eg - 1) (b:=Em - 1) ⋯
  have e1:vl Fg c*pw ↥0=pw (pw (Eg - 1) + -(lo Em Fm)):=by
   rw [ec,lj h,<-au ⋯ ⋯]
   congr 1
   omega
  obtain ⟨d,d0,e⟩:=rep h' (pw (Eg - 1) + -(lo Em Fm)).toNat 1 ↥1 (by have:=iu h'.2.2.1;omega)
  have e2:vl Fm d=pw (pw (Eg - 1) + -(lo Em Fm)):=by
   rw [e,Int.one_mul]
   congr 1
   omega
  refine ⟨d,d0,?_,by rw [e1,e2],fun z=>absurd z g⟩
  refine Classical.byContradiction fun z => ?_
  have y:=fq (F:=Fm) (c:=pw (Em+Fm) - pw Fm) (c':=d) ⋯ ⋯
  rw [lj h',e2] at y
  have:=ay (a:=pw (Eg - 1) + -(lo Em Fm)) (b:=pw (Em - 1) + -(lo Em Fm)) ⋯
  omega
theorem fQ {F a b:Int} (a0:0<=a) (b0:0<=b):(vl F a<=vl F b↔a<=b)/\(vl F a=vl F b↔a=b):=by
 rcases (by omega:a<b\/a=b\/b<a) with q | q | q
 ·have:=fq (F:=F) a0 q
  omega
 ·subst q;omega
 ·have:=fq (F:=F) b0 q
  omega
end
end EV
namespace EV
open PySem
structure Ct where
 le:Int->Prop
 eq:Int->Prop
 mono:∀ x y,x<=y->le y->le x
 el:∀ x,eq x->le x
 et:∀ x y,eq x->x<y->¬ le y
def AtC (C:Ct) (F sc k r:Int):Prop:=0<=k/\C.le (2*(vl F k*sc))/\¬ C.le (2*(vl F (k+1)*sc))/\((r=0/\C.eq (2*(vl F k*sc)))\/(¬ C.eq (2*(vl F k*sc))/\((r=1/\¬ C.le (↥19*sc))\/(r=2/\C.eq (↥19*sc))\/(r=3/\C.le (↥19*sc)/\¬ C.eq (↥19*sc)))))
section
variable {C:Ct} {F sc k r c x y:Int}
theorem Ct.lt (h:C.le x) (n:¬ C.le y):x<y:=by
 refine Classical.byContradiction fun q=>n (C.mono y x ⋯ h)
theorem AtC.le_iff (hs:0<sc) (a:AtC C F sc k r) (c0:0<=c):c<=k↔C.le (2*(vl F c*sc)):=by
 constructor
 ·intro q
  refine C.mono _ _ ?_ a.2.1
  have:=Int.mul_le_mul_of_nonneg_right ((fQ (F:=F) c0 a.1).1.mpr q) (Int.le_of_lt hs)
  omega
 ·intro q
  refine Classical.byContradiction fun z=>a.2.2.1 (C.mono _ _ ?_ q)
  have:=Int.mul_le_mul_of_nonneg_right ((fQ (F:=F) (show 0<=k+1 by have:=a.1;omega) c0).1.mpr ⋯) (Int.le_of_lt hs)
  omega
theorem AtC.eq_iff (hs:0<sc) (a:AtC C F sc k r) (c0:0<=c):(c=k/\r=0)↔C.eq (2*(vl F c*sc)):=by
 constructor
 ·rintro ⟨rfl,rfl⟩
  rcases a.2.2.2 with ⟨_,e⟩ | ⟨_,e⟩
  ·exact e
  ·rcases e with e | e | e<;>omega
 ·intro e
  have ck:c<=k:=(a.le_iff hs c0).mpr (C.el _ e)
  have kc:k<=c:=by
   refine Classical.byContradiction fun z => ?_
   have v:=fq (F:=F) c0 (show c<k by omega)
   have:=Int.mul_lt_mul_of_pos_right v hs
   exact C.et _ _ e (show 2*(vl F c*sc)<2*(vl F k*sc) by omega) a.2.1
  obtain rfl:c=k:=⋯
  refine ⟨rfl,?_⟩
  rcases a.2.2.2 with ⟨q,_⟩ | ⟨n,_⟩
  ·exact q
  ·exact absurd e n
end
def ctQ (T n:Int) (hn:0<n):Ct where
 le x:=x*n<=2*T
 eq x:=x*n=2*T
 mono x y h l:=Int.le_trans (Int.mul_le_mul_of_nonneg_right h (Int.le_of_lt hn)) l
 el x e:=Int.le_of_eq e
 et x y e h l:=by
  have:=Int.mul_lt_mul_of_pos_right h hn
  omega
theorem CU {F T n k r sc:Int} (hn:0<n) (hs:0<sc) (a:At F T n k r):AtC (ctQ (T*sc) n hn) F sc k r:=by
 obtain ⟨a0,a1,a2,a3⟩:=a
 have le:∀ v:Int,(2*(v*sc)*n<=2*(T*sc)↔v*n<=T):=fun v=>by
  rw [show 2*(v*sc)*n=2*(v*n*sc) by ac_rfl]
  constructor
  ·intro q
   exact Int.le_of_mul_le_mul_right (show v*n*sc<=T*sc by omega) hs
  ·intro q
   have:=Int.mul_le_mul_of_nonneg_right q (Int.le_of_lt hs)
   omega
 have eq:∀ v:Int,(2*(v*sc)*n=2*(T*sc)↔v*n=T):=fun v=>by
  rw [show 2*(v*sc)*n=2*(v*n*sc) by ac_rfl]
  constructor
  ·intro q
   exact Int.eq_of_mul_eq_mul_right ⋯ (show v*n*sc=T*sc by omega)
  ·intro q
   rw [q]
 have md:↥19*sc*n=(vl F k*n+vl F (k+1)*n)*sc:=by
  rw [<- Int.add_mul]
  ac_rfl
 have le2:(↥19*sc*n<=2*(T*sc)↔vl F k*n+vl F (k+1)*n<=2*T):=by
  rw [md,show 2*(T*sc)=2*T*sc by ac_rfl]
  exact ⟨fun q=>Int.le_of_mul_le_mul_right q hs,fun q=>Int.mul_le_mul_of_nonneg_right q (Int.le_of_lt hs)⟩
 have eq2:(↥19*sc*n=2*(T*sc)↔vl F k*n+vl F (k+1)*n=2*T):=by
  rw [md,show 2*(T*sc)=2*T*sc by ac_rfl]
  exact ⟨fun q=>Int.eq_of_mul_eq_mul_right ⋯ q,fun q=>by rw [q]⟩
 refine ⟨a0,(le _).mpr a1,fun q => ?_,?_⟩
 ·have:=(le _).mp q
  omega
 ·rcases a3 with ⟨q,e⟩ | ⟨q,e⟩
  ·exact .inl ⟨q,(eq _).mpr e.symm⟩
  ·refine .inr ⟨fun z => ?_,?_⟩
   ·have:=(eq _).mp z
    omega
   ·rcases e with ⟨e,f⟩ | ⟨e,f⟩ | ⟨e,f⟩
    ·exact .inl ⟨e,fun z=>by have:=le2.mp z;omega⟩
    ·exact .inr (.inl ⟨e,eq2.mpr ⋯⟩)
    ·exact .inr (.inr ⟨e,le2.mpr ⋯,fun z=>by have:=eq2.mp z;omega⟩)
section
variable {C:Ct} {Eg Fg Em Fm s kg rg km rm c:Int}
theorem FP (h:Sz Eg Fg) (h':Sz Em Fm) (hE:Eg<=Em) (hF:Fg+1<=Fm) (c0:0<=c):∃ d,0<=d/\2*vl Fm d=(vl Fg c+vl Fg (c+1))*pw ↥0:=by
 have ll:lo Em Fm+1<=lo Eg Fg:=by
  have pm:=ay (a:=Eg - 1) (b:=Em - 1) ⋯
  unfold lo
  omega
 have su:=oa (F:=Fg) c0
 have hQ:=af Fg
 obtain ⟨w,w0,w1,ew⟩:∃ w,0<=w/\w<2*pw Fg/\vl Fg c=w*pw (max (c / pw Fg - 1) 0):=by
  have r0:=Int.emod_nonneg c (show pw Fg≠0 by omega)
  have r1:=Int.emod_lt_of_pos c hQ
  unfold vl
  by_cases g:c / pw Fg=0
  ·rw [if_pos g,g,show max ((0:Int) - 1) 0=0 by omega,show pw 0=1 from rfl]
   have:=Int.mul_ediv_add_emod c (pw Fg)
   rw [g,Int.mul_zero,Int.zero_add] at this
   exact ⟨c,c0,⋯,⋯⟩
  ·have q0:=Int.ediv_nonneg c0 (Int.le_of_lt hQ)
   rw [if_neg g,show max (c / pw Fg - 1) 0=c / pw Fg - 1 by omega]
   exact ⟨_,⋯,⋯,rfl⟩
 have q0:0<=max (c / pw Fg - 1) 0:=⋯
 generalize max (c / pw Fg - 1) 0=q at *
 have pF:=ay (a:=Fg+1) (b:=Fm) hF
 have pS:pw (Fg+1)=2*pw Fg:=aO (by have:=h.2.2.1;omega)
 obtain ⟨d,d0,e⟩:=rep h' (q+(lo Eg Fg - lo Em Fm - 1)).toNat (2*w+1) ⋯ ⋯
 refine ⟨d,d0,?_⟩
 have e2:pw (((q+(lo Eg Fg - lo Em Fm - 1)).toNat:Nat):Int)=pw q*pw (lo Eg Fg - lo Em Fm - 1):=by
  rw [<- au q0 ⋯]
  congr 1
  omega
 have e3:pw ↥0=2*pw (lo Eg Fg - lo Em Fm - 1):=by
  rw [show (2:Int)=pw 1 from rfl,<-au ↥1 ⋯]
  congr 1
  omega
 have es:vl Fg c+vl Fg (c+1)=(2*w+1)*pw q:=by
  rw [Int.add_mul,Int.one_mul,Int.mul_assoc,<-ew]
  omega
 rw [e,e2,es,e3]
 ac_rfl
theorem fi {E F k r:Int} (kl:k<pw ↥4 - pw F):(stK .even E F s k r=k\/stK .even E F s k r=k+1)/\(r=0\/r=1->stK .even E F s k r=k)/\(r=3->stK .even E F s k r=k+1):=by
 have e:=Ht (w:=.even) (s:=s) (r:=r) kl
 refine ⟨?_,?_,?_⟩
 ·rw [e]
  split
  ·exact .inl rfl
  ·split
   ·exact .inr rfl
   ·exact .inl rfl
 ·rintro (q | q)
  ·rw [e,if_pos q]
  ·rw [e,q,if_neg ↥1]
   rfl
 ·intro q
  rw [e,q,if_neg ↥1]
  rfl
def Fl (t b f:Int):Prop:=(t=0/\b=f)\/((t=1\/t=3)/\((f=5/\b=5)\/(f=1/\t=1/\(b=0\/b=1))\/(f=3/\b=3)))
theorem BO (h:Sz Eg Fg) (h':Sz Em Fm) (hE:Eg+1<=Em) (hF:Fg+1<=Fm) (ag:AtC C Fg (pw ↥0) kg rg) (am:AtC C Fm 1 km rm)
  (sep:kg<pw ↥23 - pw Fg->∀ d,0<=d->2*vl Fm d=(vl Fg kg+vl Fg (kg+1))*pw ↥0->¬ C.eq (2*vl Fm d)->stK .even Em Fm s km rm≠d)
  (sep2:kg<pw Fg->rg≠0->∀ d,0<=d->(vl Fm d=vl Fg kg*pw ↥0\/vl Fm d=vl Fg (kg+1)*pw ↥0)->stK .even Em Fm s km rm≠d) :
  (pw (Em+Fm) - pw Fm<=stK .even Em Fm s km rm->pw ↥23 - pw Fg<=kg/\stF .even Em Fm s km rm=5) /\
  (stK .even Em Fm s km rm<pw (Em+Fm) - pw Fm->∀ k2 r2,At Fg (vl Fm (stK .even Em Fm s km rm)) (pw ↥0) k2 r2->stK .even Eg Fg s k2 r2=stK .even Eg Fg s kg rg/\Fl (stF .even Em Fm s km rm) (stF .even Eg Fg s k2 r2) (stF .even Eg Fg s kg rg)):=by
 have l1:=bX h
 have l2:=bX h'
 have ll:=lo_le (E:=Eg) (E2:=Em) (F:=Fg) (F2:=Fm) ⋯ ⋯
 have hh:=aW h
 have hh':=aW h'
 have hQ:=af Fg
 have hQ':=af Fm
 have pD:=af ↥0
 have g0:=ag.1
 have m0:=am.1
 have leM:∀ d,0<=d->(d<=km↔C.le (2*vl Fm d)):=fun d d0=>by
  have:=am.le_iff ↥1 d0
  rw [Int.mul_one] at this
  exact this
 have eqM:∀ d,0<=d->((d=km/\rm=0)↔C.eq (2*vl Fm d)):=fun d d0=>by
  have:=am.eq_iff ↥1 d0
  rw [Int.mul_one] at this
  exact this
 have leG:∀ c,0<=c->(c<=kg↔C.le (2*(vl Fg c*pw ↥0))):=fun c c0=>ag.le_iff pD c0
 have em:=fun (c:Int) (c0:0<=c) (c1:c<=pw ↥23 - pw Fg)=>emb (Eg:=Eg) (Em:=Em) h h' ⋯ ⋯ c0 c1
 have top:∀ d,0<=d->vl Fm d=vl Fg (pw ↥23 - pw Fg)*pw ↥0->d<pw (Em+Fm) - pw Fm:=fun d d0 e=>by
  refine Classical.byContradiction fun z => ?_
  have y:=(fQ (F:=Fm) (a:=pw (Em+Fm) - pw Fm) (b:=d) ⋯ d0).1.mpr ⋯
  have p1:=af (Eg - 1)
  rw [lj h',e,lj h,<-au ⋯ ⋯] at y
  have pm:2*pw (Eg - 1)<=pw (Em - 1):=by
   have a:=ay (a:=Eg) (b:=Em - 1) ⋯
   have b:pw (Eg - 1+1)=2*pw (Eg - 1):=aO (by have:=h.1;omega)
   rw [show Eg - 1+1=Eg by omega] at b
   omega
  have s1:pw (pw (Eg - 1) + -(lo Eg Fg)+↥0+1)=2*pw (pw (Eg - 1) + -(lo Eg Fg)+↥0):=aO ⋯
  have s2:=ay (a:=pw (Eg - 1) + -(lo Eg Fg)+↥0+1) (b:=pw (Em - 1) + -(lo Em Fm)) ⋯
  have s3:=af (pw (Eg - 1) + -(lo Eg Fg)+↥0)
  omega
 obtain ⟨dL,dL0,dL1,eL,_⟩:=em (pw ↥23 - pw Fg) ⋯ ⋯
 have dLt:=top dL dL0 eL
 have Lk:dL<=km->pw ↥23 - pw Fg<=kg:=fun q=>(leG _ ⋯).mpr (by rw [<- eL];exact (leM dL dL0).mp q)
 refine ⟨fun big => ?_,fun Kl k2 r2 a2 => ?_⟩
 ·by_cases g:pw (Em+Fm) - pw Fm<=km
  ·exact ⟨Lk ⋯,mU g⟩
  ·have ev:=fi (s:=s) (r:=rm) (show km<pw (Em+Fm) - pw Fm by omega)
   have r0:¬ rm=0:=fun q=>by
    have:=ev.2.1 (.inl q)
    omega
   have eK:stK .even Em Fm s km rm=pw (Em+Fm) - pw Fm:=by
    have:=ev.1
    omega
   refine ⟨Lk (by have:=ev.1;omega),?_⟩
   rw [p5 ⋯,if_neg r0,if_pos eK]
 ·have kl:km<pw (Em+Fm) - pw Fm:=by
   refine Classical.byContradiction fun g => ?_
   rw [pZ ⋯] at Kl
   have:(Wy.even.brs s)=true:=rfl
   rw [this,if_pos rfl] at Kl
   omega
  have ev:=fi (s:=s) (r:=rm) kl
  have fm:=p5 (w:=.even) (s:=s) (r:=rm) kl
  rw [if_neg (show ¬ stK .even Em Fm s km rm=pw (Em+Fm) - pw Fm by omega)] at fm
  generalize hK:stK .even Em Fm s km rm=K at *
  have K0:0<=K:=by have:=ev.1;omega
  have up:∀ d,0<=d->C.le (2*vl Fm d)->d<=K:=fun d d0 q=>by
   have:=(leM d d0).mpr q
   have:=ev.1
   omega
  have dn:∀ d,0<=d->¬ C.le (2*vl Fm d)->K<=d:=fun d d0 q=>by
   have:¬ d<=km:=fun z=>q ((leM d d0).mp z)
   have:=ev.1
   omega
  have tv:(rm=0/\stF .even Em Fm s km rm=0)\/(¬ rm=0/\(stF .even Em Fm s km rm=1\/stF .even Em Fm s km rm=3)):=by
   by_cases q:rm=0
   ·exact .inl ⟨q,by rw [fm,if_pos q]⟩
   ·refine .inr ⟨q,?_⟩
    rw [fm,if_neg q]
    split
    ·exact .inr rfl
    ·exact .inl rfl
  by_cases gL:pw ↥23 - pw Fg<=kg
  ·have le:=up dL dL0 (by rw [eL];exact (leG _ ⋯).mp gL)
   have k2L:pw ↥23 - pw Fg<=k2:=(L6 pD a2 ⋯).mpr (by rw [<- eL];exact (fQ (F:=Fm) dL0 K0).1.mpr le)
   rw [pZ k2L,pZ gL,mU k2L,mU gL]
   refine ⟨rfl,?_⟩
   rcases tv with ⟨_,q⟩ | ⟨_,q⟩
   ·exact .inl ⟨q,rfl⟩
   ·exact .inr ⟨q,.inl ⟨rfl,rfl⟩⟩
  ·have gl:kg<pw ↥23 - pw Fg:=⋯
   obtain ⟨d0,d00,_,ed0,_⟩:=em kg g0 ⋯
   obtain ⟨d1,d10,_,ed1,_⟩:=em (kg+1) ⋯ ⋯
   obtain ⟨m,mm0,emm⟩:=FP (c:=kg) h h' (show Eg<=Em by omega) hF g0
   have vv:=fq (F:=Fg) g0 (show kg<kg+1 by omega)
   have vD:=Int.mul_lt_mul_of_pos_right vv pD
   have emm':2*vl Fm m=vl Fm d0+vl Fm d1:=by rw [emm,Int.add_mul,ed0,ed1]
   have m_gt:d0<m:=by
    refine Classical.byContradiction fun z => ?_
    have:=(fQ (F:=Fm) mm0 d00).1.mpr ⋯
    omega
   have m_lt:m<d1:=by
    refine Classical.byContradiction fun z => ?_
    have:=(fQ (F:=Fm) d10 mm0).1.mpr ⋯
    omega
   have lo0:=up d0 d00 (by rw [ed0];exact ag.2.1)
   have hi0:=dn d1 d10 (by rw [ed1];exact ag.2.2.1)
   have fg:=fun (k r:Int) (q:k<pw ↥23 - pw Fg)=>p5 (w:=.even) (s:=s) (r:=r) q
   have evg:=fi (s:=s) (r:=rg) gl
   have big:¬ kg<pw Fg->¬ km<pw Fm:=fun q z=>by
    obtain ⟨dF,dF0,_,eF,_⟩:=em (pw Fg) (Int.le_of_lt hQ) ⋯
    have:dF<=km:=(leM dF dF0).mpr (by rw [eF];exact (leG _ (Int.le_of_lt hQ)).mp ⋯)
    have v1:vl Fg (pw Fg)=pw Fg:=by unfold vl;rw [Int.ediv_self ⋯,if_neg ↥1,Int.emod_self,Int.add_zero,show (1:Int) - 1=0 from rfl,show pw 0=1 from rfl,Int.mul_one]
    have v2:vl Fm (pw Fm)=pw Fm:=by unfold vl;rw [Int.ediv_self ⋯,if_neg ↥1,Int.emod_self,Int.add_zero,show (1:Int) - 1=0 from rfl,show pw 0=1 from rfl,Int.mul_one]
    have p1:pw Fm<=pw Fg*pw ↥0:=by
     rw [<- au (by have:=h.2.2.1;omega) ⋯]
     refine ay ?_
     have pm:=ay (a:=Eg - 1) (b:=Em - 1) ⋯
     unfold lo
     omega
    rw [v1] at eF
    have:=(fQ (F:=Fm) (a:=pw Fm) (b:=dF) (Int.le_of_lt hQ') dF0).1.mp (by rw [v2,eF];exact p1)
    omega
   have same:k2=kg->r2=rg->stK .even Eg Fg s k2 r2=stK .even Eg Fg s kg rg/\Fl (stF .even Em Fm s km rm) (stF .even Eg Fg s k2 r2) (stF .even Eg Fg s kg rg):=fun q1 q2=>by
    subst q1 q2
    refine ⟨rfl,?_⟩
    rcases tv with ⟨_,q⟩ | ⟨nr,q⟩
    ·exact .inl ⟨q,rfl⟩
    ·have fv:=t8 (w:=.even) (E:=Eg) (F:=Fg) (s:=s) (c:=k2) (r:=r2)
     have n0:¬ stF .even Eg Fg s k2 r2=0:=fun z=>by
      rw [fg _ _ gl] at z
      split at z
      ·rename_i r0
       have e:=(ag.eq_iff pD g0).mp ⟨rfl,r0⟩
       rw [<- ed0] at e
       exact nr ((eqM d0 d00).mpr e).2
      ·split at z
       ·cases z
       ·split at z<;>cases z
     refine .inr ⟨q,?_⟩
     rcases fv with z | z | z | z
     ·exact absurd z n0
     ·refine .inr (.inl ⟨z,?_,.inr z⟩)
      have:¬ k2<pw Fg:=fun y=>by
       rw [fg _ _ gl] at z
       split at z
       ·cases z
       ·split at z
        ·cases z
        ·cases z
      rw [fm,if_neg nr,if_neg (big this)]
     ·exact .inr (.inr ⟨z,z⟩)
     ·exact .inl ⟨z,z⟩
   rcases ag.2.2.2 with ⟨r0,e⟩ | ⟨ne,e⟩
   ·-- a narrow number
    rw [<- ed0] at e
    obtain ⟨q1,q2⟩:=(eqM d0 d00).mpr e
    have eK:K=km:=ev.2.1 (.inl q2)
    obtain ⟨z1,z2⟩:=fO pD a2 (ij pD g0 (by rw [eK,<-q1,ed0]))
    exact same z1 (z2.trans r0.symm)
   ·rw [<- ed0] at ne
    have r0:¬ rg=0:=by rcases e with e | e | e<;>omega
    have land:∀ d,d=d0\/d=d1->K=d->¬ kg<pw Fg:=fun d q eK y=>by
     rcases q with q | q
     ·exact sep2 y r0 d0 d00 (.inl ed0) (eK.trans q)
     ·exact sep2 y r0 d1 d10 (.inr ed1) (eK.trans q)
    have nr:K=d0\/K=d1->¬ rm=0:=fun q z=>by
     have eK:K=km:=ev.2.1 (.inl z)
     have ee:=(eqM km m0).mp ⟨rfl,z⟩
     rw [<- eK] at ee
     rcases q with q | q
     ·rw [q] at ee;exact ne ee
     ·rw [q,ed1] at ee;exact ag.2.2.1 (C.el _ ee)
    have one:K=d0\/K=d1->stF .even Em Fm s km rm=1:=fun q=>by
     rw [fm,if_neg (nr q),if_neg (big (q.elim (land d0 (.inl rfl)) (land d1 (.inr rfl))))]
    have v0:=fQ (F:=Fm) K0 d00
    have v1:=fQ (F:=Fm) K0 d10
    have v2:=fQ (F:=Fm) K0 mm0
    rcases e with ⟨rr,e⟩ | ⟨rr,e⟩ | ⟨rr,e,ne2⟩
    ·rw [<- emm] at e
     have Km:K<m:=by
      have a:=dn m mm0 e
      have b:=sep gl m mm0 emm (fun z=>e (C.el _ z))
      omega
     by_cases q:K=d0
     ·obtain ⟨z1,z2⟩:=fO pD a2 (ij pD g0 (by rw [q,ed0]))
      have f1:stF .even Eg Fg s kg rg=1:=by rw [fg _ _ gl,if_neg r0,if_neg (by rw [evg.2.1 (.inr rr)];omega),if_neg (land d0 (.inl rfl) q)]
      rw [z1,z2,(bU gl).1,(bU gl).2,evg.2.1 (.inr rr),f1,one (.inl q)]
      exact ⟨rfl,.inr ⟨.inl rfl,.inr (.inl ⟨rfl,rfl,.inl rfl⟩)⟩⟩
     ·have lt:vl Fm d0<vl Fm K:=by
       have:=fq (F:=Fm) d00 (show d0<K by omega)
       exact this
      have lt2:vl Fm K<vl Fm m:=fq (F:=Fm) K0 Km
      obtain ⟨z1,z2⟩:=fO pD a2 (show At Fg (vl Fm K) (pw ↥0) kg 1 from ⟨g0,⋯,⋯,.inr ⟨⋯,.inl ⟨rfl,⋯⟩⟩⟩)
      exact same z1 (z2.trans rr.symm)
    ·rw [<- emm] at e
     obtain ⟨q1,q2⟩:=(eqM m mm0).mpr e
     have eK:K=m:=(ev.2.1 (.inl q2)).trans q1.symm
     have lt:vl Fm d0<vl Fm m:=fq (F:=Fm) d00 m_gt
     have lt2:vl Fm m<vl Fm d1:=fq (F:=Fm) mm0 m_lt
     obtain ⟨z1,z2⟩:=fO pD a2 (show At Fg (vl Fm K) (pw ↥0) kg 2 from ⟨g0,by rw [eK];omega,by rw [eK];omega,.inr ⟨by rw [eK];omega,.inr (.inl ⟨rfl,by rw [eK];omega⟩)⟩⟩)
     exact same z1 (z2.trans rr.symm)
    ·rw [<- emm] at e ne2
     have Km:m<K:=by
      have a:=up m mm0 e
      have b:=sep gl m mm0 emm ne2
      omega
     by_cases q:K=d1
     ·obtain ⟨z1,z2⟩:=fO pD a2 (ij pD (show 0<=kg+1 by omega) (by rw [q,ed1]))
      have sk:=evg.2.2 rr
      by_cases g:kg+1=pw ↥23 - pw Fg
      ·have f5:stF .even Eg Fg s kg rg=5:=by rw [fg _ _ gl,if_neg r0,if_pos (by rw [sk];exact g)]
       have hi:pw ↥23 - pw Fg<=k2:=⋯
       rw [pZ hi,mU hi,sk,f5,one (.inr q)]
       exact ⟨g.symm,.inr ⟨.inl rfl,.inl ⟨rfl,rfl⟩⟩⟩
      ·have f1:stF .even Eg Fg s kg rg=1:=by rw [fg _ _ gl,if_neg r0,if_neg (by rw [sk];exact g),if_neg (land d1 (.inr rfl) q)]
       have k2l:kg+1<pw ↥23 - pw Fg:=⋯
       rw [z1,z2,(bU k2l).1,(bU k2l).2,sk,f1,one (.inr q)]
       exact ⟨rfl,.inr ⟨.inl rfl,.inr (.inl ⟨rfl,rfl,.inl rfl⟩)⟩⟩
     ·have lt:vl Fm m<vl Fm K:=fq (F:=Fm) mm0 Km
      have lt2:vl Fm K<vl Fm d1:=fq (F:=Fm) K0 (show K<d1 by omega)
      obtain ⟨z1,z2⟩:=fO pD a2 (show At Fg (vl Fm K) (pw ↥0) kg 3 from ⟨g0,⋯,⋯,.inr ⟨⋯,.inr (.inr ⟨rfl,⋯⟩)⟩⟩)
      exact same z1 (z2.trans rr.symm)
theorem fP {F c:Int} (hQ:0<pw F) (c0:0<=c):∃ w,0<=w/\w+1<=2*pw F/\vl F c=w*pw (max (c / pw F - 1) 0)/\vl F (c+1)=(w+1)*pw (max (c / pw F - 1) 0)/\(pw F<=c->pw F<=w)/\(max (c / pw F - 1) 0>0->pw F<=c)/\(c<pw F->w=c/\max (c / pw F - 1) 0=0):=by
 have r0:=Int.emod_nonneg c (show pw F≠0 by omega)
 have r1:=Int.emod_lt_of_pos c hQ
 have su:=oa (F:=F) c0
 have em:=Int.mul_ediv_add_emod c (pw F)
 have q0:=Int.ediv_nonneg c0 (Int.le_of_lt hQ)
 by_cases g:c / pw F=0
 ·have e0:vl F c=c:=by unfold vl;rw [if_pos g]
  rw [g,show max ((0:Int) - 1) 0=0 by omega,show pw 0=1 from rfl] at su ⊢
  rw [g,Int.mul_zero,Int.zero_add] at em
  exact ⟨c,c0,⋯,⋯,⋯,fun z=>z,fun z=>absurd z ↥1,fun _=>⟨rfl,rfl⟩⟩
 ·have e0:vl F c=(pw F+c%pw F)*pw (c / pw F - 1):=by unfold vl;rw [if_neg g]
  rw [show max (c / pw F - 1) 0=c / pw F - 1 by omega] at su ⊢
  have cl:pw F<=c:=by
   have:=Int.mul_le_mul_of_nonneg_left (show 1<=c / pw F by omega) (Int.le_of_lt hQ)
   omega
  exact ⟨pw F+c%pw F,⋯,⋯,e0,by rw [Int.add_mul (pw F+c%pw F),Int.one_mul,<-e0];omega,fun _=>⋯,fun _=>cl,fun z=>absurd z ⋯⟩
theorem Ec (h:Sz Eg Fg) (h':Sz Em Fm) (hE:Eg+1<=Em) (hF:2*Fg+4<=Fm) (ag:AtC C Fg (pw ↥0) kg rg) (am:AtC C Fm 1 km rm):16*pw Fg*pw (max (km / pw Fm - 1) 0)<=pw (max ↥17 0)*pw ↥0:=by
 have hQ:=af Fg
 have hQ':=af Fm
 obtain ⟨k1,k2,k3,k4⟩:=id h
 have pm:=ay (a:=Eg - 1) (b:=Em - 1) ⋯
 have dl:Fm - Fg<=lo Eg Fg - lo Em Fm:=by unfold lo;omega
 have p4:pw (Fg+4)=16*pw Fg:=by
  rw [au ⋯ ↥1,Int.mul_comm]
  rfl
 have q0:0<=max ↥17 0:=⋯
 rw [<- p4,<-au ⋯ ⋯,<-au q0 ⋯]
 refine ay ?_
 by_cases g:km / pw Fm<=1
 ·rw [show max (km / pw Fm - 1) 0=0 by omega]
  omega
 ·rw [show max (km / pw Fm - 1) 0=km / pw Fm - 1 by omega]
  have r0:=Int.emod_nonneg km (show pw Fm≠0 by omega)
  have e0:vl Fm km=(pw Fm+km%pw Fm)*pw (km / pw Fm - 1):=by unfold vl;rw [if_neg ⋯]
  obtain ⟨w,w0,w1,_,ew,_⟩:=fP (c:=kg) hQ ag.1
  have lt:=Ct.lt am.2.1 ag.2.2.1
  rw [Int.mul_one,e0,ew] at lt
  have pe:=af (km / pw Fm - 1)
  have pq:=af (max ↥17 0)
  have pd:=af ↥0
  have x1:pw (Fm+(km / pw Fm - 1))<=(pw Fm+km%pw Fm)*pw (km / pw Fm - 1):=by
   rw [au ⋯ ⋯]
   exact Int.mul_le_mul_of_nonneg_right ⋯ (Int.le_of_lt pe)
  have x2:(w+1)*pw (max ↥17 0)*pw ↥0<=pw (Fg+1+max ↥17 0+↥0):=by
   rw [au ⋯ ⋯,au ⋯ q0,show pw (Fg+1)=2*pw Fg from aO ⋯]
   exact Int.mul_le_mul_of_nonneg_right (Int.mul_le_mul_of_nonneg_right w1 (Int.le_of_lt pq)) (Int.le_of_lt pd)
  refine Classical.byContradiction fun z => ?_
  have:=ay (a:=Fg+1+max ↥17 0+↥0) (b:=Fm+(km / pw Fm - 1)) ⋯
  omega
theorem yn {E d st:Int} (kl:km<pw (E+Fm) - pw Fm) (am:AtC C Fm 1 km rm) (hst:st=pw (max (km / pw Fm - 1) 0)) (eK:stK .even E Fm s km rm=d) (ne:¬ C.eq (2*vl Fm d)):(C.le (2*vl Fm d)/\(¬ C.le (2*vl Fm d+st)\/C.eq (2*vl Fm d+st)))\/(¬ C.le (2*vl Fm d)/\C.le (2*vl Fm d - st)):=by
 have su:=oa (F:=Fm) am.1
 rw [<- hst] at su
 have ev:=fi (s:=s) (r:=rm) kl
 have a1:=am.2.1
 have a2:=am.2.2.1
 have a3:=am.2.2.2
 rw [Int.mul_one] at a1 a2
 rw [Int.mul_one,Int.mul_one] at a3
 have em:vl Fm km+vl Fm (km+1)=2*vl Fm km+st:=⋯
 rw [em] at a3
 rcases a3 with ⟨r0,e⟩ | ⟨n,e⟩
 ·have:d=km:=by rw [<- eK];exact ev.2.1 (.inl r0)
  rw [this] at ne
  exact absurd e ne
 ·rcases e with ⟨r1,e⟩ | ⟨r2,e⟩ | ⟨r3,e,_⟩
  ·have:d=km:=by rw [<- eK];exact ev.2.1 (.inr r1)
   rw [this]
   exact .inl ⟨a1,.inl e⟩
  ·rcases ev.1 with q | q
   ·rw [show d=km by omega]
    exact .inl ⟨a1,.inr e⟩
   ·rw [show d=km+1 by omega]
    refine .inr ⟨a2,?_⟩
    rw [show 2*vl Fm (km+1) - st=2*vl Fm km+st by omega]
    exact C.el _ e
  ·rw [show d=km+1 by rw [<- eK];exact ev.2.2 r3]
   refine .inr ⟨a2,?_⟩
   rw [show 2*vl Fm (km+1) - st=2*vl Fm km+st by omega]
   exact e
theorem CG {T n E d st:Int} (hn:0<n) (kl:km<pw (E+Fm) - pw Fm) (am:AtC (ctQ T n hn) Fm 1 km rm) (hst:st=pw (max (km / pw Fm - 1) 0)) (eK:stK .even E Fm s km rm=d) (ne:¬ 2*vl Fm d*n=2*T) : -(st*n)<=2*T - 2*vl Fm d*n/\2*T - 2*vl Fm d*n<=st*n:=by
 have s0:0<st*n:=Int.mul_pos (by rw [hst];exact af _) hn
 rcases yn kl am hst eK ne with ⟨a,b⟩ | ⟨a,b⟩
 ·have a':2*vl Fm d*n<=2*T:=a
  have b':2*T<=(2*vl Fm d+st)*n:=by
   rcases b with b | b
   ·have:¬ (2*vl Fm d+st)*n<=2*T:=b
    omega
   ·have:(2*vl Fm d+st)*n=2*T:=b
    omega
  rw [Int.add_mul] at b'
  omega
 ·have a':¬ 2*vl Fm d*n<=2*T:=a
  have b':(2*vl Fm d - st)*n<=2*T:=b
  rw [Int.sub_mul] at b'
  omega
end
theorem jS {a m:Int} (ha:0<a) (n:¬ a*m=0):a<=a*m\/a*m <= -a:=by
 have m0:¬ m=0:=fun q=>n (by rw [q,Int.mul_zero])
 rcases (by omega:1<=m\/m <= -1) with q | q
 ·exact .inl (by have:=Int.mul_le_mul_of_nonneg_left q (Int.le_of_lt ha);omega)
 ·exact .inr (by have:=Int.mul_le_mul_of_nonneg_left q (Int.le_of_lt ha);omega)
theorem DX {F A B i j w q X u:Int} (hF:1<=F) (hA : -(2*pw F)<A/\A<2*pw F) (hB : -(2*pw F)<B/\B<2*pw F) (j0:0<=j) (ji:j<=i) (eX:X=A*pw i+B*pw j) (w0:pw F<=w) (q1:1<=q) (lo:w*pw q<=X) (eu:u=2*X - (2*w+1)*pw q) (ne:¬ u=0) :
  pw q<8*pw F*u\/8*pw F*u < -(pw q):=by
 have hP:=iu hF
 have pq:=af q
 have pj:=af j
 have pi:=af i
 have sc:∀ a:Int,0<a->pw q<8*pw F*a->a<=u\/u <= -a->pw q<8*pw F*u\/8*pw F*u < -(pw q):=fun a a0 ha hu=>by
  rcases hu with z | z
  ·have:=Int.mul_le_mul_of_nonneg_left z (show 0<=8*pw F by omega)
   omega
  ·have:=Int.mul_le_mul_of_nonneg_left z (show 0<=8*pw F by omega)
   rw [Int.mul_neg] at this
   omega
 have tw:∀ k:Int,0<=k->pw (k+1)=2*pw k:=fun k k0=>aO k0
 have tX:2*X=A*pw (i+1)+B*pw (j+1):=by
  rw [eX,tw i ⋯,tw j j0,Int.mul_add]
  congr 1<;>ac_rfl
 by_cases c1:q<=j+1
 ·have e1:pw (i+1)=pw q*pw (i+1 - q):=by rw [<- au ⋯ ⋯];congr 1;omega
  have e2:pw (j+1)=pw q*pw (j+1 - q):=by rw [<- au ⋯ ⋯];congr 1;omega
  have e:u=pw q*(A*pw (i+1 - q)+B*pw (j+1 - q) - (2*w+1)):=by
   rw [eu,tX,Int.mul_sub,Int.mul_add,e1,e2]
   have x1:A*(pw q*pw (i+1 - q))=pw q*(A*pw (i+1 - q)):=by ac_rfl
   have x2:B*(pw q*pw (j+1 - q))=pw q*(B*pw (j+1 - q)):=by ac_rfl
   rw [x1,x2,Int.mul_comm (2*w+1)]
  refine sc (pw q) pq ?_ (by rw [e] at ne ⊢;exact jS pq ne)
  have:=Int.mul_le_mul_of_nonneg_right (show 16<=8*pw F by omega) (Int.le_of_lt pq)
  omega
 by_cases c2:q<=j+F+3
 ·have pj1:=af (j+1)
  have e1:pw (i+1)=pw (j+1)*pw (i - j):=by rw [<- au ⋯ ⋯];congr 1;omega
  have e2:pw q=pw (j+1)*pw (q - (j+1)):=by rw [<- au ⋯ ⋯];congr 1;omega
  have e:u=pw (j+1)*(A*pw (i - j)+B - (2*w+1)*pw (q - (j+1))):=by
   rw [eu,tX,Int.mul_sub,Int.mul_add,e1]
   have x0:(2*w+1)*pw q=(2*w+1)*(pw (j+1)*pw (q - (j+1))):=congrArg _ e2
   rw [x0]
   have x1:A*(pw (j+1)*pw (i - j))=pw (j+1)*(A*pw (i - j)):=by ac_rfl
   have x2:(2*w+1)*(pw (j+1)*pw (q - (j+1)))=pw (j+1)*((2*w+1)*pw (q - (j+1))):=by ac_rfl
   rw [x1,x2,Int.mul_comm B]
  refine sc (pw (j+1)) pj1 ?_ (by rw [e] at ne ⊢;exact jS pj1 ne)
  have e8:8*pw F*pw (j+1)=pw (F+4+j):=by
   rw [show F+4+j=3+F+(j+1) by omega,au (show 0<=3+F by omega) (show 0<=j+1 by omega),au (show (0:Int)<=3 by decide) (show 0<=F by omega)]
   rfl
  have s1:=ay (a:=q+1) (b:=F+4+j) ⋯
  rw [tw q ⋯] at s1
  rw [e8]
  omega
 ·have b1:B*pw j<pw (q - 3) /\ -(pw (q - 3))<B*pw j:=by
   have m1:=Int.mul_lt_mul_of_pos_right hB.2 pj
   have m2:=Int.mul_lt_mul_of_pos_right hB.1 pj
   have e:2*pw F*pw j=pw (F+1+j):=by rw [<- tw F ⋯,<-au ⋯ j0]
   have s1:=ay (a:=F+1+j) (b:=q - 3) ⋯
   rw [Int.neg_mul] at m2
   omega
  have t1:=tw (q - 1) ⋯
  have t2:=tw (q - 2) ⋯
  have t3:=tw (q - 3) ⋯
  rw [show q - 1+1=q by omega] at t1
  rw [show q - 2+1=q - 1 by omega] at t2
  rw [show q - 3+1=q - 2 by omega] at t3
  have p3:=af (q - 3)
  have wl:=Int.mul_le_mul_of_nonneg_right w0 (Int.le_of_lt pq)
  have iq:q<=i:=by
   refine Classical.byContradiction fun z => ?_
   have pm:=ay (a:=i) (b:=q - 1) ⋯
   have:A*pw i<=(2*pw F - 1)*pw (q - 1):=by
    by_cases a0:0<=A
    ·have y1:=Int.mul_le_mul_of_nonneg_left pm a0
     have y2:=Int.mul_le_mul_of_nonneg_right (show A<=2*pw F - 1 by omega) (show 0<=pw (q - 1) by omega)
     omega
    ·have y1:=Int.mul_le_mul_of_nonneg_right (show A<=0 by omega) (Int.le_of_lt pi)
     have y2:=Int.mul_nonneg (show 0<=2*pw F - 1 by omega) (show 0<=pw (q - 1) by omega)
     omega
   have e:(2*pw F - 1)*pw (q - 1)=pw F*(2*pw (q - 1)) - pw (q - 1):=by
    rw [Int.sub_mul,Int.one_mul]
    congr 1
    ac_rfl
   rw [e,<-t1] at this
   omega
  have e1:pw i=pw q*pw (i - q):=by rw [<- au ⋯ ⋯];congr 1;omega
  have e:u=pw q*(2*(A*pw (i - q)) - (2*w+1))+2*(B*pw j):=by
   rw [eu,eX,e1,Int.mul_sub,Int.mul_add]
   have x1:2*(A*(pw q*pw (i - q)))=pw q*(2*(A*pw (i - q))):=by ac_rfl
   rw [x1,Int.mul_comm (2*w+1)]
   omega
  have od:¬ pw q*(2*(A*pw (i - q)) - (2*w+1))=0:=fun z=>by
   rcases Int.mul_eq_zero.mp z with z | z<;>omega
  refine sc (pw (q - 1)) ⋯ ?_ ?_
  ·have:=Int.mul_le_mul_of_nonneg_right (show 16<=8*pw F by omega) (show 0<=pw (q - 1) by omega)
   omega
  ·rcases jS pq od with z | z<;>omega
theorem Ez {F A B a j z q T n D d st:Int} (hF:1<=F) (hA:0<A/\A<2*pw F) (hB:0<B/\B<2*pw F) (a0:0<=a) (j0:0<=j) (q0:0<=q) (eT:T=A*pw a) (en:n=B*pw j) (eD:D=2*T - z*pw q*n) (ne:¬ D=0) (s0:0<st) (d0:0<d) (hs:16*pw F*st<=pw q*d) (hV:pw F*(st*n)<=T*d) :
  st*n<D*d\/D*d < -(st*n):=by
 have hP:=iu hF
 have pj:=af j
 have pq:=af q
 have pa:=af a
 have n0:0<n:=by rw [en];exact Int.mul_pos hB.1 pj
 have sn:0<st*n:=Int.mul_pos s0 n0
 by_cases c:j+q<=a+1
 ·have pjq:=af (j+q)
  have e1:2*pw a=pw (j+q)*pw (a+1 - (j+q)):=by rw [<- au ⋯ ⋯,<-(aO a0:pw (a+1)=2*pw a)];congr 1;omega
  have e:D=pw (j+q)*(A*pw (a+1 - (j+q)) - z*B):=by
   rw [eD,eT,en,Int.mul_sub,show 2*(A*pw a)=A*(2*pw a) by ac_rfl,e1,au j0 q0]
   congr 1<;>ac_rfl
  have far:pw (j+q)<=D\/D <= -(pw (j+q)):=by rw [e] at ne ⊢;exact jS pjq ne
  have k1:st*n<pw (j+q)*d:=by
   have m1:=Int.mul_le_mul_of_nonneg_right hs (Int.le_of_lt pj)
   have m2:=Int.mul_lt_mul_of_pos_left hB.2 (Int.mul_pos s0 pj)
   have x1:pw (j+q)*d=pw q*d*pw j:=by rw [au j0 q0];ac_rfl
   have x2:st*n=st*pw j*B:=by rw [en];ac_rfl
   have x3:16*pw F*st*pw j=8*(st*pw j*(2*pw F)):=by
    rw [show (16:Int)=8*2 from rfl];ac_rfl
   have m3:=Int.mul_pos (Int.mul_pos s0 pj) hB.1
   rw [x1,x2]
   omega
  rcases far with y | y
  ·have:=Int.mul_le_mul_of_nonneg_right y (Int.le_of_lt d0)
   omega
  ·have:=Int.mul_le_mul_of_nonneg_right y (Int.le_of_lt d0)
   rw [Int.neg_mul] at this
   omega
 ·have e1:pw (j+q)=2*pw a*pw (j+q - (a+1)):=by rw [<- (aO a0:pw (a+1)=2*pw a),<-au ⋯ ⋯];congr 1;omega
  have e:D=2*pw a*(A - z*B*pw (j+q - (a+1))):=by
   rw [eD,eT,en,Int.mul_sub]
   congr 1
   ·ac_rfl
   ·have:z*pw q*(B*pw j)=z*B*pw (j+q):=by rw [au j0 q0];ac_rfl
    rw [this,e1]
    ac_rfl
  have far:2*pw a<=D\/D <= -(2*pw a):=by rw [e] at ne ⊢;exact jS ⋯ ne
  have k1:pw F*(st*n)<pw F*(2*pw a*d):=by
   have m1:=Int.mul_lt_mul_of_pos_right hA.2 (Int.mul_pos pa d0)
   have x1:T*d=A*(pw a*d):=by rw [eT];ac_rfl
   have x2:pw F*(2*pw a*d)=2*pw F*(pw a*d):=by ac_rfl
   rw [x2]
   omega
  have k2:=Int.lt_of_mul_lt_mul_left k1 (show 0<=pw F by omega)
  rcases far with y | y
  ·have:=Int.mul_le_mul_of_nonneg_right y (Int.le_of_lt d0)
   omega
  ·have:=Int.mul_le_mul_of_nonneg_right y (Int.le_of_lt d0)
   rw [Int.neg_mul] at this
   omega
theorem Hz {x y:Int} (x0:0<=x) (h:x<=y):x*x<=y*y:=Int.mul_le_mul h h x0 ⋯
theorem Hw {x y:Int} (x0:0<=x) (h:x<y):x*x<y*y:=by
 have a:=Int.mul_le_mul_of_nonneg_left (Int.le_of_lt h) x0
 have b:=Int.mul_lt_mul_of_pos_right h (show 0<y by omega)
 omega
def ctR (S:Int):Ct where
 le x:=x<=0\/x*x<=4*S
 eq x:=0<=x/\x*x=4*S
 mono x y h l:=by
  by_cases x0:x<=0
  ·exact .inl x0
  ·rcases l with l | l
   ·omega
   ·exact .inr (Int.le_trans (Hz ⋯ h) l)
 el x e:=.inr (Int.le_of_eq e.2)
 et x y e h l:=by
  rcases l with l | l
  ·have:=e.1;omega
  ·have:=Hw e.1 h
   have:=e.2
   omega
theorem uN {F S k r sc:Int} (hs:0<sc) (a:RAt F S k r):AtC (ctR (S*(sc*sc))) F sc k r:=by
 obtain ⟨a0,a1,a2,a3⟩:=a
 have ss:0<sc*sc:=Int.mul_pos hs hs
 have v0:=(bh (F:=F) a0).1
 have v1:=(bh (F:=F) (c:=k+1) ⋯).1
 have v2:=fq (F:=F) a0 (show k<k+1 by omega)
 have sq:∀ v:Int,2*(v*sc)*(2*(v*sc))=4*(v*v*(sc*sc)):=fun v=>by
  rw [show (4:Int)=2*2 from rfl];ac_rfl
 have le:∀ v:Int,0<v->((2*(v*sc)<=0\/2*(v*sc)*(2*(v*sc))<=4*(S*(sc*sc)))↔v*v<=S):=fun v hv=>by
  have p:=Int.mul_pos hv hs
  rw [sq]
  constructor
  ·rintro (q | q)
   ·omega
   ·exact Int.le_of_mul_le_mul_right (show v*v*(sc*sc)<=S*(sc*sc) by omega) ss
  ·intro q
   have:=Int.mul_le_mul_of_nonneg_right q (Int.le_of_lt ss)
   exact .inr ⋯
 have eq:∀ v:Int,0<=v->((0<=2*(v*sc)/\2*(v*sc)*(2*(v*sc))=4*(S*(sc*sc)))↔v*v=S):=fun v hv=>by
  have p:=Int.mul_nonneg hv (Int.le_of_lt hs)
  rw [sq]
  constructor
  ·rintro ⟨_,q⟩
   exact Int.eq_of_mul_eq_mul_right (show sc*sc≠0 by omega) (show v*v*(sc*sc)=S*(sc*sc) by omega)
  ·intro q
   rw [q]
   exact ⟨⋯,rfl⟩
 have m:0<↥19*sc:=Int.mul_pos ⋯ hs
 have me:↥19*sc*(↥19*sc)=↥19*↥19*(sc*sc):=by ac_rfl
 have e4:4*(S*(sc*sc))=4*S*(sc*sc):=by ac_rfl
 have le2:((↥19*sc<=0\/↥19*sc*(↥19*sc)<=4*(S*(sc*sc)))↔↥19*↥19<=4*S):=by
  rw [me,e4]
  constructor
  ·rintro (q | q)
   ·omega
   ·exact Int.le_of_mul_le_mul_right q ss
  ·intro q
   exact .inr (Int.mul_le_mul_of_nonneg_right q (Int.le_of_lt ss))
 have eq2:((0<=↥19*sc/\↥19*sc*(↥19*sc)=4*(S*(sc*sc)))↔↥19*↥19=4*S):=by
  rw [me,e4]
  constructor
  ·rintro ⟨_,q⟩
   exact Int.eq_of_mul_eq_mul_right ⋯ q
  ·intro q
   rw [q]
   exact ⟨⋯,rfl⟩
 refine ⟨a0,?_,fun q => ?_,?_⟩
 ·by_cases z:0<vl F k
  ·exact (le _ z).mpr a1
  ·exact .inl (by rw [show vl F k=0 by omega,Int.zero_mul];decide)
 ·have:=(le _ ⋯).mp q
  omega
 ·rcases a3 with ⟨q,e⟩ | ⟨q,e⟩
  ·exact .inl ⟨q,(eq _ v0).mpr e⟩
  ·refine .inr ⟨fun z => ?_,?_⟩
   ·have:=(eq _ v0).mp z
    omega
   ·rcases e with ⟨e,f⟩ | ⟨e,f⟩ | ⟨e,f⟩
    ·exact .inl ⟨e,fun z=>by have:=le2.mp z;omega⟩
    ·exact .inr (.inl ⟨e,eq2.mpr ⋯⟩)
    ·exact .inr (.inr ⟨e,le2.mpr ⋯,fun z=>by have:=eq2.mp z;omega⟩)
theorem AQ {F A a z q S D st Z d:Int} (hF:1<=F) (q0:0<=q) (aq:2*q<=a+2) (a0:0<=a) (eS:S=A*pw a) (z0:0<=z) (z1:z<=4*pw F) (eZ:Z=z*pw q*d) (d0:0<d) (s0:0<st) (hs:16*pw F*st<=pw q*d) (ne:¬ Z*Z=4*(S*(d*d))):st*(2*Z+st)<4*(S*(d*d)) - Z*Z\/4*(S*(d*d)) - Z*Z < -(st*(2*Z+st)):=by
 have hP:=iu hF
 have pq:=af q
 have dd:0<d*d:=Int.mul_pos d0 d0
 have p2:=af (2*q)
 have e4:4*pw a=pw (2*q)*pw (a+2 - 2*q):=by
  rw [<- au ⋯ ⋯,show 2*q+(a+2 - 2*q)=2+a by omega,au ↥1 a0]
  rfl
 have e2:pw (2*q)=pw q*pw q:=by rw [<- au q0 q0];congr 1;omega
 have eD:4*(S*(d*d)) - Z*Z=pw (2*q)*(d*d)*(A*pw (a+2 - 2*q) - z*z):=by
  rw [Int.mul_sub,eS,eZ]
  congr 1
  ·have:4*(A*pw a*(d*d))=A*(4*pw a)*(d*d):=by ac_rfl
   rw [this,e4]
   ac_rfl
  ·rw [e2]
   ac_rfl
 have far:=jS (Int.mul_pos p2 dd) (show ¬ pw (2*q)*(d*d)*(A*pw (a+2 - 2*q) - z*z)=0 from fun y=>ne (by rw [<- eD] at y;omega))
 rw [<- eD] at far
 have key:st*(2*Z+st)<pw (2*q)*(d*d):=by
  have u0:0<pw q*d:=Int.mul_pos pq d0
  have x1:pw (2*q)*(d*d)=pw q*d*(pw q*d):=by rw [e2];ac_rfl
  have x2:Z=z*(pw q*d):=by rw [eZ];ac_rfl
  rw [x1,x2]
  generalize pw q*d=u at *
  have m1:st*(z*u)<=st*(4*pw F*u):=Int.mul_le_mul_of_nonneg_left (Int.mul_le_mul_of_nonneg_right z1 (Int.le_of_lt u0)) (Int.le_of_lt s0)
  have m2:=Int.mul_le_mul_of_nonneg_right hs (Int.le_of_lt u0)
  have x3:16*pw F*st*u=4*(st*(4*pw F*u)):=by rw [show (16:Int)=4*4 from rfl];ac_rfl
  have m3:st*st<=st*u:=Int.mul_le_mul_of_nonneg_left (by
   have:=Int.mul_le_mul_of_nonneg_right (show 1<=16*pw F by omega) (Int.le_of_lt s0)
   omega) (Int.le_of_lt s0)
  have m4:32*(st*u)<=16*pw F*st*u:=by
   have:=Int.mul_le_mul_of_nonneg_right (show 32<=16*pw F by omega) (Int.le_of_lt (Int.mul_pos s0 u0))
   have x5:16*pw F*(st*u)=16*pw F*st*u:=by ac_rfl
   omega
  have m5:=Int.mul_pos s0 u0
  have x4:st*(2*(z*u)+st)=2*(st*(z*u))+st*st:=by
   rw [Int.mul_add]
   congr 1
   ac_rfl
  rw [x4]
  omega
 omega
theorem IV {Fm E km rm s S d st:Int} (kl:km<pw (E+Fm) - pw Fm) (am:AtC (ctR S) Fm 1 km rm) (hst:st=pw (max (km / pw Fm - 1) 0)) (d0:0<=vl Fm d) (S0:0<=S) (eK:stK .even E Fm s km rm=d) (ne:¬ 2*vl Fm d*(2*vl Fm d)=4*S) : -(st*(2*(2*vl Fm d)+st))<=4*S - 2*vl Fm d*(2*vl Fm d)/\4*S - 2*vl Fm d*(2*vl Fm d)<=st*(2*(2*vl Fm d)+st):=by
 have s0:0<st:=by rw [hst];exact af _
 have z0:0<=2*vl Fm d:=⋯
 have nn:=yn kl am hst eK (fun q=>ne q.2)
 generalize 2*vl Fm d=Z at *
 have e1:(Z+st)*(Z+st)=Z*Z+st*(2*Z+st):=by
  rw [Int.add_mul,Int.mul_add,Int.mul_add,Int.mul_add]
  have:Z*st=st*Z:=Int.mul_comm _ _
  have:st*(2*Z)=2*(st*Z):=by ac_rfl
  omega
 have e2:(Z - st)*(Z - st)+st*(2*Z)=Z*Z+st*st:=by
  rw [Int.sub_mul,Int.mul_sub,Int.mul_sub]
  have:Z*st=st*Z:=Int.mul_comm _ _
  have:st*(2*Z)=2*(st*Z):=by ac_rfl
  omega
 have e3:st*(2*Z+st)=st*(2*Z)+st*st:=Int.mul_add ..
 have p1:=Int.mul_pos s0 s0
 have p2:=Int.mul_nonneg (Int.le_of_lt s0) (show 0<=2*Z by omega)
 have p3:=Int.mul_nonneg z0 z0
 rcases nn with ⟨a,b⟩ | ⟨a,b⟩
 ·have a':Z*Z<=4*S:=by
   rcases a with a | a
   ·rw [show Z=0 by omega];omega
   ·exact a
  have b':4*S<=(Z+st)*(Z+st):=by
   rcases b with b | b
   ·have b:¬ (Z+st<=0\/(Z+st)*(Z+st)<=4*S):=b
    omega
   ·have b:0<=Z+st/\(Z+st)*(Z+st)=4*S:=b
    omega
  omega
 ·have a:¬ (Z<=0\/Z*Z<=4*S):=a
  have b:Z - st<=0\/(Z - st)*(Z - st)<=4*S:=b
  rcases b with b | b
  ·have:=Int.mul_le_mul_of_nonneg_right (show Z<=st by omega) z0
   have:st*(2*Z)=2*(st*Z):=by ac_rfl
   omega
  ·omega
end EV
namespace EV
open PySem
section
variable {C:Ct} {Eg Fg Em Fm s kg rg km rm:Int}
theorem BB (h:Sz Eg Fg) (h':Sz Em Fm) (hE:Eg<=Em) (hF:Fg<=Fm) (ag:AtC C Fg (pw ↥0) kg rg) (am:AtC C Fm 1 km rm) (kl:kg<pw ↥23 - pw Fg):km<pw (Em+Fm) - pw Fm:=by
 refine Classical.byContradiction fun g => ?_
 have hQ:=aW h
 obtain ⟨d,d0,d1,e,_⟩:=emb (c:=pw ↥23 - pw Fg) h h' hE hF (by have:=ag.1;omega) ⋯
 have a:=(am.le_iff ↥1 d0).mp ⋯
 rw [Int.mul_one,e] at a
 have:=(ag.le_iff (af _) (show 0<=pw ↥23 - pw Fg by have:=ag.1;omega)).mpr a
 omega
theorem xB {A B a j z d T n:Int} (h:Sz Eg Fg) (h':Sz Em Fm) (hE:Eg+1<=Em) (hF:2*Fg+4<=Fm) (hn:0<n) (ag:AtC (ctQ (T*pw ↥0) n hn) Fg (pw ↥0) kg rg) (am:AtC (ctQ (T*pw ↥0) n hn) Fm 1 km rm) (kl:kg<pw ↥23 - pw Fg)
  (hA:0<A/\A<2*pw Fg) (hB:0<B/\B<2*pw Fg) (a0:0<=a) (j0:0<=j) (eT:T=A*pw a) (en:n=B*pw j) (hV:pw Fg*n<=T*pw ↥0) (e:2*vl Fm d=z*pw (max ↥17 0)*pw ↥0) (ne:¬ 2*vl Fm d*n=2*(T*pw ↥0)):stK .even Em Fm s km rm≠d:=by
 intro eK
 have S:=Ec h h' hE hF ag am
 have N:=CG hn (BB h h' ⋯ (by have:=h.2.2.1;omega) ag am kl) am rfl eK ne
 have hQ:=af Fg
 have hQm:=af Fm
 have k0:=am.1
 have aL:2*(vl Fm km*1)*n<=2*(T*pw ↥0):=am.2.1
 generalize pw ↥0=DD at *
 have p0:=af (max (km / pw Fm - 1) 0)
 have hV2:pw Fg*(pw (max (km / pw Fm - 1) 0)*n)<=T*DD:=by
  obtain ⟨w,w0,w1,ew,_,wn,wp,_⟩:=fP (F:=Fm) (c:=km) hQm k0
  by_cases g:pw Fm<=km
  ·have w2:=wn g
   have pm:=ay (a:=Fg) (b:=Fm) (by have:=h.2.2.1;omega)
   have x1:pw Fg*pw (max (km / pw Fm - 1) 0)<=vl Fm km:=by rw [ew];exact Int.mul_le_mul_of_nonneg_right ⋯ (Int.le_of_lt p0)
   have x2:=Int.mul_le_mul_of_nonneg_right x1 (Int.le_of_lt hn)
   rw [Int.mul_assoc] at x2
   rw [Int.mul_one,Int.mul_assoc] at aL
   omega
  ·have:max (km / pw Fm - 1) 0=0:=by
    refine Classical.byContradiction fun q=>g (wp ⋯)
   rw [this,show pw 0=1 from rfl,Int.one_mul]
   exact hV
 have Q:=Ez (D:=2*T - z*pw (max ↥17 0)*n) h.2.2.1 hA hB a0 j0 ⋯ eT en rfl (fun q=>ne (by rw [e];grind)) p0 (Int.lt_of_mul_lt_mul_left (a:=pw (max ↥17 0)) (by have:=Int.mul_pos (Int.mul_pos (show (0:Int)<16 by decide) hQ) p0;omega) (Int.le_of_lt (af _))) S hV2
 have eD:(2*T - z*pw (max ↥17 0)*n)*DD=2*(T*DD) - 2*vl Fm d*n:=by rw [e];grind
 rw [eD] at Q
 omega
def Two (Eg Fg Em Fm s km rm kg rg:Int):Prop :=
 (pw (Em+Fm) - pw Fm<=stK .even Em Fm s km rm->pw ↥23 - pw Fg<=kg/\stF .even Em Fm s km rm=5) /\
 (stK .even Em Fm s km rm<pw (Em+Fm) - pw Fm->∀ k2 r2,At Fg (vl Fm (stK .even Em Fm s km rm)) (pw ↥0) k2 r2->stK .even Eg Fg s k2 r2=stK .even Eg Fg s kg rg/\Fl (stF .even Em Fm s km rm) (stF .even Eg Fg s k2 r2) (stF .even Eg Fg s kg rg))
theorem zi {x:Int} (hs:0<x) (ag:AtC C Fg x kg rg) (r0:rg≠0) {y:Int} (e:y=vl Fg kg*x\/y=vl Fg (kg+1)*x):¬ C.eq (2*y):=by
 intro q
 rcases e with e | e<;>subst e
 ·exact r0 ((ag.eq_iff hs ag.1).mpr q).2
 ·exact ag.2.2.1 (C.el _ q)
theorem Ey {A B a j T n:Int} (h:Sz Eg Fg) (h':Sz Em Fm) (hE:Eg+1<=Em) (hF:2*Fg+4<=Fm) (hn:0<n) (ag:AtC (ctQ (T*pw ↥0) n hn) Fg (pw ↥0) kg rg) (am:AtC (ctQ (T*pw ↥0) n hn) Fm 1 km rm)
  (hA:0<A/\A<2*pw Fg) (hB:0<B/\B<2*pw Fg) (a0:0<=a) (j0:0<=j) (eT:T=A*pw a) (en:n=B*pw j) (hV:pw Fg*n<=T*pw ↥0):Two Eg Fg Em Fm s km rm kg rg:=by
 have hQ:=af Fg
 obtain ⟨w,w0,w1,ew,ew',_,_,_⟩:=fP (F:=Fg) (c:=kg) hQ ag.1
 refine BO h h' hE (by have:=h.2.2.1;omega) ag am (fun kl d d0 e ne=>xB (z:=2*w+1) h h' hE hF hn ag am kl hA hB a0 j0 eT en hV (by rw [e,ew,ew'];grind) ne) (fun kl r0 d d0 e => ?_)
 have kl2:kg<pw ↥23 - pw Fg:=by
  have:=aW h
  have:=h.1
  have a:=ay (a:=1+Fg) (b:=Eg+Fg) ⋯
  rw [Int.add_comm 1 Fg,aO (by have:=h.2.2.1;omega)] at a
  omega
 have ne:=zi (af _) ag r0 e
 rcases e with e | e
 ·exact xB (z:=2*w) h h' hE hF hn ag am kl2 hA hB a0 j0 eT en hV (by rw [e,ew];grind) ne
 ·exact xB (z:=2*w+2) h h' hE hF hn ag am kl2 hA hB a0 j0 eT en hV (by rw [e,ew'];grind) ne
theorem yU (h:Sz Eg Fg) (h':Sz Em Fm) (hE:Eg+1<=Em) (hF:Fg+1<=Fm) (ag:AtC C Fg (pw ↥0) kg rg) (am:AtC C Fm 1 km 0):Two Eg Fg Em Fm s km 0 kg rg:=by
 have hQ:=af Fg
 have eq:C.eq (2*vl Fm km):=by
  have:=(am.eq_iff ↥1 am.1).mp ⟨rfl,rfl⟩
  rwa [Int.mul_one] at this
 have st:kg<pw ↥23 - pw Fg->stK .even Em Fm s km 0=km:=fun kl=>(fi (BB h h' ⋯ ⋯ ag am kl)).2.1 (.inl rfl)
 refine BO h h' hE hF ag am (fun kl d d0 e ne eK => ?_) (fun kl r0 d d0 e eK => ?_)
 ·rw [st kl] at eK
  exact ne (eK▸eq)
 ·rw [st (by
   have:=h.1
   have a:=ay (a:=1+Fg) (b:=Eg+Fg) ⋯
   rw [Int.add_comm 1 Fg,aO (by have:=h.2.2.1;omega)] at a
   omega)] at eK
  exact zi (af _) ag r0 e (eK▸eq)
theorem wX {A B i j X:Int} (h:Sz Eg Fg) (h':Sz Em Fm) (hE:Eg+1<=Em) (hF:2*Fg+4<=Fm) (ag:AtC (ctQ (X*pw ↥0) 1 ↥1) Fg (pw ↥0) kg rg) (am:AtC (ctQ (X*pw ↥0) 1 ↥1) Fm 1 km rm)
  (hA : -(2*pw Fg)<A/\A<2*pw Fg) (hB : -(2*pw Fg)<B/\B<2*pw Fg) (j0:0<=j) (ji:j<=i) (eX:X=A*pw i+B*pw j):Two Eg Fg Em Fm s km rm kg rg:=by
 have hQ:=af Fg
 obtain ⟨w,w0,w1,ew,ew',wn,wp,ws⟩:=fP (F:=Fg) (c:=kg) hQ ag.1
 have aL:2*(vl Fg kg*pw ↥0)*1<=2*(X*pw ↥0):=ag.2.1
 have aH:¬ 2*(vl Fg (kg+1)*pw ↥0)*1<=2*(X*pw ↥0):=ag.2.2.1
 have pD:=af ↥0
 have L:vl Fg kg<=X:=Int.le_of_mul_le_mul_right ⋯ pD
 have H:X<vl Fg (kg+1):=Int.lt_of_mul_lt_mul_right (a:=pw ↥0) ⋯ (Int.le_of_lt pD)
 refine BO h h' hE (by have:=h.2.2.1;omega) ag am (fun kl d d0 e ne eK => ?_) (fun kl r0 d d0 e eK => ?_)
 ·have S:=Ec h h' hE hF ag am
  have N:=CG ↥1 (BB h h' ⋯ (by have:=h.2.2.1;omega) ag am kl) am rfl eK ne
  have p0:=af (max (km / pw Fm - 1) 0)
  have hq:=af (max ↥17 0)
  rw [ew,ew'] at e
  generalize pw ↥0=DD at *
  generalize pw (max (km / pw Fm - 1) 0)=st at *
  have far:pw (max ↥17 0)<8*pw Fg*(2*X - (2*w+1)*pw (max ↥17 0))\/8*pw Fg*(2*X - (2*w+1)*pw (max ↥17 0)) < -(pw (max ↥17 0)):=by
   by_cases q1:1<=max ↥17 0
   ·refine DX h.2.2.1 hA hB j0 ji eX (wn (wp ⋯)) q1 (by rw [<- ew];exact L) rfl fun q=>ne ?_
    show 2*vl Fm d*1=2*(X*DD)
    rw [e]
    grind
   ·rw [show max ↥17 0=0 by omega,show pw 0=1 from rfl]
    rcases (by omega:1<=2*X - (2*w+1)*1\/2*X - (2*w+1)*1 <= -1) with g | g
    ·have:=Int.mul_le_mul_of_nonneg_left g (show 0<=8*pw Fg by omega)
     omega
    ·have:=Int.mul_le_mul_of_nonneg_left g (show 0<=8*pw Fg by omega)
     omega
  generalize pw (max ↥17 0)=Q at *
  have eD:(2*X - (2*w+1)*Q)*DD=2*(X*DD) - 2*vl Fm d*1:=by rw [e];grind
  rw [<- eD] at N
  generalize 2*X - (2*w+1)*Q=u at *
  have x8:0<=8*pw Fg:=⋯
  rcases far with g | g
  ·have a:=Int.mul_lt_mul_of_pos_right g pD
   have b:=Int.mul_le_mul_of_nonneg_left N.2 x8
   rw [Int.mul_assoc (8*pw Fg)] at a
   have c:8*pw Fg*(st*1)<=16*pw Fg*st:=by
    have:=Int.mul_nonneg (Int.le_of_lt hQ) (Int.le_of_lt p0)
    rw [Int.mul_one,Int.mul_assoc,Int.mul_assoc]
    omega
   omega
  ·have a:=Int.mul_lt_mul_of_pos_right g pD
   have b:=Int.mul_le_mul_of_nonneg_left N.1 x8
   rw [Int.mul_assoc (8*pw Fg),Int.neg_mul] at a
   have c:8*pw Fg * -(st*1) >= -(16*pw Fg*st):=by
    have:=Int.mul_nonneg (Int.le_of_lt hQ) (Int.le_of_lt p0)
    rw [Int.mul_one,Int.mul_neg,Int.mul_assoc,Int.mul_assoc]
    omega
   omega
 ·obtain ⟨wk,q0⟩:=ws kl
  rw [q0,show pw 0=1 from rfl,Int.mul_one] at ew ew'
  have ek:X=vl Fg kg:=⋯
  refine r0 ((ag.eq_iff pD ag.1).mpr ?_).2
  show 2*(vl Fg kg*pw ↥0)*1=2*(X*pw ↥0)
  rw [ek,Int.mul_one]
theorem r9 {A a z d S:Int} (h:Sz Eg Fg) (h':Sz Em Fm) (hE:Eg+1<=Em) (hF:2*Fg+4<=Fm) (ag:AtC (ctR (S*(pw ↥0*pw ↥0))) Fg (pw ↥0) kg rg) (am:AtC (ctR (S*(pw ↥0*pw ↥0))) Fm 1 km rm) (kl:kg<pw ↥23 - pw Fg)
  (S0:0<=S) (a0:0<=a) (eS:S=A*pw a) (aq:2*max ↥17 0<=a+2) (z0:0<=z) (z1:z<=4*pw Fg) (d0:0<=d) (e:2*vl Fm d=z*pw (max ↥17 0)*pw ↥0) (ne:¬ (ctR (S*(pw ↥0*pw ↥0))).eq (2*vl Fm d)):stK .even Em Fm s km rm≠d:=by
 intro eK
 have St:=Ec h h' hE hF ag am
 have v0:=(bh (F:=Fm) d0).1
 have pD:=af ↥0
 have ne2:¬ 2*vl Fm d*(2*vl Fm d)=4*(S*(pw ↥0*pw ↥0)):=fun q=>ne ⟨⋯,q⟩
 have N:=IV (BB h h' ⋯ (by have:=h.2.2.1;omega) ag am kl) am rfl v0 (Int.mul_nonneg S0 (Int.le_of_lt (Int.mul_pos pD pD))) eK ne2
 have Q:=AQ (D:=0) (F:=Fg) h.2.2.1 ⋯ aq a0 eS z0 z1 e pD (af (max (km / pw Fm - 1) 0)) St ne2
 omega
theorem AO {A a S:Int} (h:Sz Eg Fg) (h':Sz Em Fm) (hE:Eg+1<=Em) (hF:2*Fg+4<=Fm) (ag:AtC (ctR (S*(pw ↥0*pw ↥0))) Fg (pw ↥0) kg rg) (am:AtC (ctR (S*(pw ↥0*pw ↥0))) Fm 1 km rm)
  (hA:0<A/\A<2*pw Fg) (a0:0<=a) (eS:S=A*pw a):Two Eg Fg Em Fm s km rm kg rg:=by
 have hQ:=af Fg
 have pD:=af ↥0
 have pa:=af a
 have S0:0<=S:=by rw [eS];exact Int.le_of_lt (Int.mul_pos hA.1 pa)
 obtain ⟨w,w0,w1,ew,ew',wn,wp,_⟩:=fP (F:=Fg) (c:=kg) hQ ag.1
 have v0:=(bh (F:=Fg) ag.1).1
 have sq:vl Fg kg*vl Fg kg<=S:=by
  have a1:2*(vl Fg kg*pw ↥0)<=0\/2*(vl Fg kg*pw ↥0)*(2*(vl Fg kg*pw ↥0))<=4*(S*(pw ↥0*pw ↥0)):=ag.2.1
  rcases a1 with a1 | a1
  ·have:vl Fg kg=0:=by
    refine Classical.byContradiction fun q => ?_
    have:=Int.mul_pos (show 0<vl Fg kg by omega) pD
    omega
   rw [this]
   exact S0
  ·refine Int.le_of_mul_le_mul_right (a:=pw ↥0*pw ↥0) ?_ (Int.mul_pos pD pD)
   have:2*(vl Fg kg*pw ↥0)*(2*(vl Fg kg*pw ↥0))=4*(vl Fg kg*vl Fg kg*(pw ↥0*pw ↥0)):=by grind
   omega
 have aq:2*max ↥17 0<=a+2:=by
  refine Classical.byContradiction fun g => ?_
  have q1:max ↥17 0>0:=⋯
  have w2:=wn (wp q1)
  have hq:=af (max ↥17 0)
  have x1:pw Fg*pw (max ↥17 0)<=vl Fg kg:=by rw [ew];exact Int.mul_le_mul_of_nonneg_right w2 (Int.le_of_lt hq)
  have x2:=Hz (Int.le_of_lt (Int.mul_pos hQ hq)) x1
  have x3:S<2*pw Fg*pw a:=by rw [eS];exact Int.mul_lt_mul_of_pos_right hA.2 pa
  have x4:pw Fg*pw (max ↥17 0)*(pw Fg*pw (max ↥17 0))=pw Fg*(pw Fg*pw (max ↥17 0+max ↥17 0)):=by
   rw [au ⋯ ⋯]
   grind
  have x5:pw (a+1)=2*pw a:=aO a0
  have x6:=ay (a:=a+1) (b:=max ↥17 0+max ↥17 0) ⋯
  have x7:=Int.mul_le_mul_of_nonneg_left x6 (Int.le_of_lt hQ)
  have x8:pw Fg*pw (max ↥17 0+max ↥17 0)<=pw Fg*(pw Fg*pw (max ↥17 0+max ↥17 0)):=by
   have:=Int.mul_le_mul_of_nonneg_right (show 1<=pw Fg by omega) (Int.le_of_lt (Int.mul_pos hQ (af (max ↥17 0+max ↥17 0))))
   omega
  rw [x5] at x7
  have x9:pw Fg*(2*pw a)=2*pw Fg*pw a:=by grind
  omega
 refine BO h h' hE (by have:=h.2.2.1;omega) ag am (fun kl d d0 e ne=>r9 (z:=2*w+1) h h' hE hF ag am kl S0 a0 eS aq ⋯ ⋯ d0 (by rw [e,ew,ew'];grind) ne) (fun kl r0 d d0 e => ?_)
 have kl2:kg<pw ↥23 - pw Fg:=by
  have:=h.1
  have a:=ay (a:=1+Fg) (b:=Eg+Fg) ⋯
  rw [Int.add_comm 1 Fg,aO (by have:=h.2.2.1;omega)] at a
  omega
 have ne:=zi (af _) ag r0 e
 rcases e with e | e
 ·exact r9 (z:=2*w) h h' hE hF ag am kl2 S0 a0 eS aq ⋯ ⋯ d0 (by rw [e,ew];grind) ne
 ·exact r9 (z:=2*w+2) h h' hE hF ag am kl2 S0 a0 eS aq ⋯ ⋯ d0 (by rw [e,ew'];grind) ne
end
end EV
namespace EV
open PySem
def Wy.m:Wy->Wy
 | .up=>.down
 | .down=>.up
 | w=>w
noncomputable instance wyDec:DecidableEq Wy:=fun a b=>by cases a<;>cases b<;>first | exact isTrue rfl | exact isFalse (by intro h;cases h)
section
variable {w:Wy} {E F s c r:Int}
end
section
variable {w:Wy} {E F X U sg sg' x y x' y':Int} {u:Prop}
end
def L9 (w:Wy) (E F s c s' c' x y:Int):Prop :=
 if pw ↥4 - pw F<c\/pw ↥4 - pw F<c' then x=pw ↥4 - pw F+pw (F - 1)/\y=0
 else if c=c'/\(c=0\/c=pw ↥4 - pw F) then x=pw ↥4 - pw F+pw (F - 1)/\y=16
 else if c=pw ↥4 - pw F then x=sx s s'*pw ↥4+(pw ↥4 - pw F)/\y=0
 else if c'=0 then x=sx s s'*pw ↥4+(pw ↥4 - pw F)/\y=8
 else if c=0\/c'=pw ↥4 - pw F then x=sx s s'*pw ↥4/\y=0
 else ∃ k r,x=sx s s'*pw ↥4+stK w E F (sx s s') k r/\y=stF w E F (sx s s') k r/\At F (vl F c*pw ↥30) (vl F c') k r
end EV
namespace EV
open PySem
def Chg (Em Fm Eg Fg s c x y:Int):Prop :=
 if pw (Em+Fm) - pw Fm<c then x=pw ↥23 - pw Fg+pw (Fg - 1)/\y=0
 else if c=pw (Em+Fm) - pw Fm then x=s*pw ↥23+(pw ↥23 - pw Fg)/\y=0
 else ∃ k r,x=s*pw ↥23+stK .even Eg Fg s k r/\y=stF .even Eg Fg s k r/\At Fg (vl Fm c) (pw ↥0) k r
def Bor (t b f:Int):Prop:=(t=0/\b=f\/b=0/\t=f\/t=1/\b=1/\f=1\/t=1/\b=5/\f=5\/(t=1\/t=3)/\b=3/\f=3)/\(f=0\/f=1\/f=3\/f=5\/f=8\/f=16)
def aC (Eg Fg Em Fm x y X Y:Int):Prop:=∃ S K,X=S*pw (Em+Fm)+K/\(0<=S/\S<=1)/\0<=K/\K<pw (Em+Fm)/\∀ x2 y2,Chg Em Fm Eg Fg S K x2 y2->x2=x/\Bor Y y2 y
section
variable {C:Ct} {Eg Fg Em Fm s s' c c' d d' x y X Y kg rg km rm:Int}
theorem cu (h:Sz Eg Fg):3*pw Fg<=pw ↥23 - pw Fg:=by
 have a:=ay (a:=Fg+1+1) (b:=Eg+Fg) (by have:=h.1;omega)
 rw [aO (by have:=h.2.2.1;omega),aO (by have:=h.2.2.1;omega)] at a
 omega
theorem QQ (h:Sz Eg Fg) (h':Sz Em Fm) (hE:Eg+1<=Em) (hF:Fg+1<=Fm) (ag:AtC C Fg (pw ↥0) kg rg) (am:AtC C Fm 1 km rm) (t:stF .even Em Fm s km rm=3):stF .even Eg Fg s kg rg≠5:=by
 intro f
 have hQ:=af Fg
 have hM:=af Fm
 have tb:=cu h
 have tm:=cu h'
 have l1:=bX h
 have l2:=bX h'
 have ll:=lo_le (E:=Eg) (E2:=Em) (F:=Fg) (F2:=Fm) ⋯ ⋯
 have pD:=af ↥0
 have k0:=ag.1
 have m0:=am.1
 have km1:km<pw Fm:=by
  refine Classical.byContradiction fun q => ?_
  by_cases g:km<pw (Em+Fm) - pw Fm
  ·rw [p5 g] at t
   split at t
   ·omega
   ·split at t
    ·omega
    ·omega
  ·rw [mU ⋯] at t
   omega
 have kg1:pw ↥23 - pw Fg<=kg+1:=by
  refine Classical.byContradiction fun q => ?_
  rw [p5 ⋯] at f
  have:=(fi (E:=Eg) (F:=Fg) (s:=s) (k:=kg) (r:=rg) ⋯).1
  split at f
  ·omega
  ·split at f
   ·omega
   ·split at f<;>omega
 have a1:(2*(vl Fg kg*pw ↥0))<2*(vl Fm (km+1)*1):=Ct.lt ag.2.1 am.2.2.1
 have a2:=(fQ (F:=Fm) (a:=km+1) (b:=pw Fm) ⋯ ⋯).1.mpr ⋯
 have a3:=(fQ (F:=Fg) (a:=pw Fg) (b:=kg) ⋯ ⋯).1.mpr ⋯
 have e1:∀ F:Int,vl F (pw F)=pw F:=fun F=>by
  have:=af F
  unfold vl
  rw [Int.ediv_self ⋯,if_neg ↥1,Int.emod_self,show pw (1 - 1)=1 from rfl]
  omega
 rw [e1] at a2 a3
 have a4:=Int.mul_le_mul_of_nonneg_right a3 (Int.le_of_lt pD)
 have a5:pw Fm<=pw Fg*pw ↥0:=by
  rw [<- au (by have:=h.2.2.1;omega) ⋯]
  refine ay ?_
  have pm:=ay (a:=Eg - 1) (b:=Em - 1) ⋯
  unfold lo
  omega
 omega
theorem tY (h:Sz Eg Fg) (h':Sz Em Fm) (hE:Eg+1<=Em) (hF:Fg+1<=Fm) (hs:0<=s/\s<=1) (ag:AtC C Fg (pw ↥0) kg rg) (am:AtC C Fm 1 km rm) (T:Two Eg Fg Em Fm s km rm kg rg) (ex:x=s*pw ↥23+stK .even Eg Fg s kg rg) (ey:y=stF .even Eg Fg s kg rg) (eX:X=s*pw (Em+Fm)+stK .even Em Fm s km rm) (eY:Y=stF .even Em Fm s km rm):aC Eg Fg Em Fm x y X Y:=by
 have hQ:=af Fm
 have hQg:=af Fg
 have si:=Hu (w:=.even) (s:=s) (r:=rm) h' am.1
 have fv:=t8 (w:=.even) (E:=Eg) (F:=Fg) (s:=s) (c:=kg) (r:=rg)
 refine ⟨s,_,eX,hs,si.1,⋯,fun x2 y2 b => ?_⟩
 unfold Chg at b
 rw [if_neg ⋯] at b
 by_cases g:stK .even Em Fm s km rm=pw (Em+Fm) - pw Fm
 ·rw [if_pos g] at b
  obtain ⟨t1,t2⟩:=T.1 ⋯
  have e1:stK .even Eg Fg s kg rg=pw ↥23 - pw Fg:=by rw [pZ t1];rfl
  have e2:stF .even Eg Fg s kg rg=5:=mU t1
  refine ⟨by rw [ex,e1];exact b.1,.inr (.inl ⟨b.2,by rw [eY,ey,t2,e2]⟩),⋯⟩
 ·rw [if_neg g] at b
  obtain ⟨k2,r2,b1,b2,b3⟩:=b
  obtain ⟨t1,t2⟩:=T.2 ⋯ k2 r2 b3
  refine ⟨by rw [ex,b1,t1],?_,⋯⟩
  have n35:=QQ (s:=s) h h' hE hF ag am
  rw [eY,ey,b2]
  rcases t2 with ⟨p,q⟩ | ⟨p,q⟩
  ·exact .inl ⟨p,q⟩
  ·rcases q with ⟨q1,q2⟩ | ⟨q1,q2,q3⟩ | ⟨q1,q2⟩
   ·rcases p with p | p
    ·exact .inr (.inr (.inr (.inl ⟨p,q2,q1⟩)))
    ·exact absurd q1 (n35 p)
   ·rcases q3 with q3 | q3
    ·exact .inr (.inl ⟨q3,q2.trans q1.symm⟩)
    ·exact .inr (.inr (.inl ⟨q2,q3,q1⟩))
   ·exact .inr (.inr (.inr (.inr ⟨p,q2,q1⟩)))
theorem same_none (h:Sz Eg Fg) (h':Sz Em Fm) (hf:y=0\/y=8\/y=16) (ex:x=pw ↥23 - pw Fg+pw (Fg - 1)) (eX:X=pw (Em+Fm) - pw Fm+pw (Fm - 1)) (ey:Y=y):aC Eg Fg Em Fm x y X Y:=by
 have hQ:=af Fm
 have h5:=aW h'
 have a:=af (Fm - 1)
 have b:pw (Fm - 1+1)=2*pw (Fm - 1):=aO (by have:=h'.2.2.1;omega)
 rw [show Fm - 1+1=Fm by omega] at b
 have tm:=cu h'
 refine ⟨0,X,⋯,by decide,⋯,⋯,fun x2 y2 z => ?_⟩
 unfold Chg at z
 rw [if_pos ⋯] at z
 exact ⟨z.1.trans ex.symm,.inr (.inl ⟨z.2,ey⟩),⋯⟩
theorem gP (h':Sz Em Fm) (hs:0<=s/\s<=1) (hf:y=0\/y=8\/y=16) (ex:x=s*pw ↥23+(pw ↥23 - pw Fg)) (eX:X=s*pw (Em+Fm)+(pw (Em+Fm) - pw Fm)) (ey:Y=y):aC Eg Fg Em Fm x y X Y:=by
 have hQ:=af Fm
 have tm:=cu h'
 refine ⟨s,_,eX,hs,⋯,⋯,fun x2 y2 z => ?_⟩
 unfold Chg at z
 rw [if_neg ⋯,if_pos rfl] at z
 exact ⟨z.1.trans ex.symm,.inr (.inl ⟨z.2,ey⟩),⋯⟩
theorem lz (h:Sz Eg Fg) (h':Sz Em Fm) (hs:0<=s/\s<=1) (ex:x=s*pw ↥23) (ey:y=0) (eX:X=s*pw (Em+Fm)) (eY:Y=0):aC Eg Fg Em Fm x y X Y:=by
 have hQ:=af Fm
 have hQg:=af Fg
 have tm:=cu h'
 have tg:=cu h
 refine ⟨s,0,⋯,hs,⋯,⋯,fun x2 y2 z => ?_⟩
 unfold Chg at z
 rw [if_neg ⋯,if_neg ⋯] at z
 obtain ⟨k,r,z1,z2,z3⟩:=z
 obtain ⟨e1,e2⟩:=fO (af _) z3 (ij (af _) (Int.le_refl 0) (by rw [jJ,jJ,Int.zero_mul]))
 subst e1 e2
 rw [(bU ⋯).1] at z1
 rw [(bU ⋯).2] at z2
 exact ⟨⋯,.inl ⟨eY,⋯⟩,⋯⟩
theorem pR {T U T' U':Int} (h:Sz Eg Fg) (h':Sz Em Fm) (hE:Eg+1<=Em) (hF:Fg+1<=Fm) (hs:0<=s/\s<=1) (hU:0<U) (hU':0<U') (rel:T*pw ↥0*U'=T'*U)
  (two:∀ kg rg km rm,AtC (ctQ (T*pw ↥0) U hU) Fg (pw ↥0) kg rg->AtC (ctQ (T*pw ↥0) U hU) Fm 1 km rm->Two Eg Fg Em Fm s km rm kg rg)
  (a:∃ k r,x=s*pw ↥23+stK .even Eg Fg s k r/\y=stF .even Eg Fg s k r/\At Fg T U k r) (b:∃ k r,X=s*pw (Em+Fm)+stK .even Em Fm s k r/\Y=stF .even Em Fm s k r/\At Fm T' U' k r):aC Eg Fg Em Fm x y X Y:=by
 obtain ⟨kg,rg,e1,e2,a1⟩:=a
 obtain ⟨km,rm,e3,e4,a2⟩:=b
 have ag:=CU hU (af ↥0) a1
 have am:=CU hU (sc:=1) ↥1 (mf hU' hU rel a2)
 rw [Int.mul_one] at am
 exact tY h h' hE hF hs ag am (two _ _ _ _ ag am) e1 e2 e3 e4
theorem fin_same {Z U Z' U' sg:Int} (h:Sz Eg Fg) (h':Sz Em Fm) (hE:Eg+1<=Em) (hF:Fg+1<=Fm) (hg:0<=sg/\sg<=1) (hU:0<U) (hU':0<U') (rel:Z*pw ↥0*U'=Z'*U)
  (two:∀ s kg rg km rm,0<(if Z<0 then -Z else Z)->AtC (ctQ ((if Z<0 then -Z else Z)*pw ↥0) U hU) Fg (pw ↥0) kg rg->AtC (ctQ ((if Z<0 then -Z else Z)*pw ↥0) U hU) Fm 1 km rm->Two Eg Fg Em Fm s km rm kg rg)
  (a:J6 .even Eg Fg Z U sg x y) (b:J6 .even Em Fm Z' U' sg X Y):aC Eg Fg Em Fm x y X Y:=by
 have pD:=af ↥0
 have p1:=Int.mul_pos pD hU'
 rw [Int.mul_assoc] at rel
 by_cases z:Z=0
 ·have z':Z'=0:=by
   rw [z,Int.zero_mul] at rel
   rcases Int.mul_eq_zero.mp rel.symm with q | q
   ·exact q
   ·omega
  obtain ⟨a1,a2⟩:=a.1 z
  obtain ⟨b1,b2⟩:=b.1 z'
  exact lz h h' hg a1 a2 b1 b2
 ·have n1:Z<0↔Z'<0:=by
   rw [<- iG (X:=Z) p1,<-iG (X:=Z') hU,rel]
  have z':Z'≠0:=fun q=>by
   rw [q,Int.zero_mul] at rel
   rcases Int.mul_eq_zero.mp rel with y | y<;>omega
  have a1:=a.2 z
  have b1:=b.2 z'
  have two:=fun s kg rg km rm=>two s kg rg km rm (by split<;>omega)
  by_cases g:Z<0
  ·rw [if_pos g] at a1 two
   rw [if_pos (n1.mp g)] at b1
   simp only [if_pos g,if_pos (n1.mp g)] at a1 b1
   refine pR h h' hE hF ↥1 hU hU' ?_ (two 1) a1 b1
   rw [Int.mul_assoc,Int.neg_mul,rel,Int.neg_mul]
  ·rw [if_neg g] at a1 two
   rw [if_neg fun q=>g (n1.mpr q)] at b1
   simp only [if_neg g,if_neg fun q=>g (n1.mpr q)] at a1 b1
   refine pR h h' hE hF ↥1 hU hU' ?_ (two 0) a1 b1
   rw [Int.mul_assoc,rel]
def Wd (Eg Fg Em Fm s c S d:Int):Prop:=(pw ↥23 - pw Fg<c/\(0<=S/\S<=1)/\d=pw (Em+Fm) - pw Fm+pw (Fm - 1))\/(c=pw ↥23 - pw Fg/\S=s/\d=pw (Em+Fm) - pw Fm)\/(c<pw ↥23 - pw Fg/\S=s/\0<=d/\d<pw (Em+Fm) - pw Fm/\vl Fm d=vl Fg c*pw ↥0)
theorem Wd.facts {S:Int} (w:Wd Eg Fg Em Fm s c S d) (c0:0<=c):(pw ↥23 - pw Fg<c↔pw (Em+Fm) - pw Fm<d)/\(c=pw ↥23 - pw Fg↔d=pw (Em+Fm) - pw Fm)/\(c<pw ↥23 - pw Fg->S=s/\0<=d/\d<pw (Em+Fm) - pw Fm/\vl Fm d=vl Fg c*pw ↥0/\(c=0↔d=0))/\(¬ pw ↥23 - pw Fg<c->S=s):=by
 have:=af (Fm - 1)
 rcases w with w | w | w
 ·refine ⟨⋯,⋯,fun q=>⋯,fun q=>⋯⟩
 ·refine ⟨⋯,⋯,fun q=>⋯,fun q=>⋯⟩
 ·refine ⟨⋯,⋯,fun q=>⟨w.2.1,w.2.2.1,w.2.2.2.1,w.2.2.2.2,?_⟩,fun q=>w.2.1⟩
  have a:=(bh (F:=Fg) c0).2
  have b:=(bh (F:=Fm) w.2.2.1).2
  rw [w.2.2.2.2] at b
  have pD:=af ↥0
  constructor
  ·intro z
   rw [a.mpr z,Int.zero_mul] at b
   exact b.mp rfl
  ·intro z
   rcases Int.mul_eq_zero.mp (b.mpr z) with y | y
   ·exact a.mp y
   ·omega
theorem AB {α β Z:Int} (h:Sz Eg Fg) (h':Sz Em Fm) (hE:Eg+1<=Em) (hF:2*Fg+4<=Fm) (c0:0<=c) (d0:0<=c') (ha:α=1\/α = -1) (hb:β=1\/β = -1) (eZ:Z=α*vl Fg c+β*vl Fg c') (ag:AtC (ctQ (Z*pw ↥0) 1 ↥1) Fg (pw ↥0) kg rg) (am:AtC (ctQ (Z*pw ↥0) 1 ↥1) Fm 1 km rm):Two Eg Fg Em Fm s km rm kg rg:=by
 have hQ:=af Fg
 obtain ⟨u,u0,u1,eu,_⟩:=fP (F:=Fg) (c:=c) hQ c0
 obtain ⟨v,v0,v1,ev,_⟩:=fP (F:=Fg) (c:=c') hQ d0
 rw [eu,ev,<-Int.mul_assoc,<-Int.mul_assoc] at eZ
 have hA : -(2*pw Fg)<α*u/\α*u<2*pw Fg:=by rcases ha with g | g<;>subst g<;>omega
 have hB : -(2*pw Fg)<β*v/\β*v<2*pw Fg:=by rcases hb with g | g<;>subst g<;>omega
 by_cases g:max (c' / pw Fg - 1) 0<=max (c / pw Fg - 1) 0
 ·exact wX h h' hE hF ag am hA hB ⋯ g eZ
 ·exact wX (i:=max (c' / pw Fg - 1) 0) (j:=max (c / pw Fg - 1) 0) h h' hE hF ag am hB hA ⋯ ⋯ (by rw [eZ,Int.add_comm])
theorem add_same {S S':Int} (h:Sz Eg Fg) (h':Sz Em Fm) (hE:Eg+1<=Em) (hF:2*Fg+4<=Fm) (hs:0<=s/\s<=1) (hs':0<=s'/\s'<=1) (c0:0<=c) (d0:0<=c') (wa:Wd Eg Fg Em Fm s c S d) (wb:Wd Eg Fg Em Fm s' c' S' d') (a:J7 .even Eg Fg s c s' c' x y) (b:J7 .even Em Fm S d S' d' X Y):aC Eg Fg Em Fm x y X Y:=by
 obtain ⟨f1,f2,f3,f4⟩:=wa.facts c0
 obtain ⟨g1,g2,g3,g4⟩:=wb.facts d0
 unfold J7 at a b
 by_cases q1:pw ↥23 - pw Fg<c\/pw ↥23 - pw Fg<c'
 ·rw [if_pos q1] at a
  rw [if_pos (by rw [<- f1,<-g1];exact q1)] at b
  exact same_none h h' (.inl a.2) a.1 b.1 (b.2.trans a.2.symm)
 rw [if_neg q1] at a
 rw [if_neg (by rw [<- f1,<-g1];exact q1)] at b
 have e1:=f4 ⋯
 have e2:=g4 ⋯
 subst e1 e2
 by_cases q2:c=pw ↥23 - pw Fg
 ·rw [if_pos q2] at a
  rw [if_pos (f2.mp q2)] at b
  by_cases q3:c'=pw ↥23 - pw Fg/\¬ S=S'
  ·rw [if_pos q3] at a
   rw [if_pos ⟨g2.mp q3.1,q3.2⟩] at b
   exact same_none h h' ⋯ a.1 b.1 (b.2.trans a.2.symm)
  ·rw [if_neg q3] at a
   rw [if_neg fun z=>q3 ⟨g2.mpr z.1,z.2⟩] at b
   exact gP h' hs (.inl a.2) a.1 b.1 (b.2.trans a.2.symm)
 rw [if_neg q2] at a
 rw [if_neg fun z=>q2 (f2.mpr z)] at b
 by_cases q3:c'=pw ↥23 - pw Fg
 ·rw [if_pos q3] at a
  rw [if_pos (g2.mp q3)] at b
  exact gP h' hs' (.inl a.2) a.1 b.1 (b.2.trans a.2.symm)
 rw [if_neg q3] at a
 rw [if_neg fun z=>q3 (g2.mpr z)] at b
 obtain ⟨_,_,_,v1,_⟩:=f3 ⋯
 obtain ⟨_,_,_,v2,_⟩:=g3 ⋯
 rw [v1,v2] at b
 refine fin_same h h' hE (by have:=h.2.2.1;omega) (by split;exact hs;split<;>decide) ↥1 ↥1 ?_ ?_ a b
 ·split<;>split<;>grind
 ·intro s kg rg km rm _ ag am
  have key:∀ α β:Int,(α=1\/α = -1)->(β=1\/β = -1)->(if (if S=1 then -vl Fg c else vl Fg c)+(if S'=1 then -vl Fg c' else vl Fg c')<0 then -((if S=1 then -vl Fg c else vl Fg c)+(if S'=1 then -vl Fg c' else vl Fg c')) else (if S=1 then -vl Fg c else vl Fg c)+(if S'=1 then -vl Fg c' else vl Fg c'))=α*vl Fg c+β*vl Fg c'->Two Eg Fg Em Fm s km rm kg rg:=fun α β ha hb e=>AB h h' hE hF c0 d0 ha hb e ag am
  by_cases z:(if S=1 then -vl Fg c else vl Fg c)+(if S'=1 then -vl Fg c' else vl Fg c')<0
  ·rw [if_pos z] at key
   refine key (if S=1 then 1 else -1) (if S'=1 then 1 else -1) (by split<;>omega) (by split<;>omega) ?_
   split<;>split<;>omega
  ·rw [if_neg z] at key
   refine key (if S=1 then -1 else 1) (if S'=1 then -1 else 1) (by split<;>omega) (by split<;>omega) ?_
   split<;>split<;>omega
theorem oR (h:Sz Eg Fg) (h':Sz Em Fm) (hE:Eg+1<=Em) (hF:2*Fg+4<=Fm):pw (-(lo Em Fm))=pw (-(lo Eg Fg))*pw ↥0/\pw ↥0=pw (2*lo Eg Fg - lo Em Fm)*pw (-(lo Eg Fg))/\0<=2*lo Eg Fg - lo Em Fm/\Fg+pw (Eg - 1) - lo Eg Fg <= -(lo Em Fm):=by
 have l1:=bX h
 have l2:=bX h'
 have ll:=lo_le (E:=Eg) (E2:=Em) (F:=Fg) (F2:=Fm) ⋯ (by have:=h.2.2.1;omega)
 have pm:2*pw (Eg - 1)<=pw (Em - 1):=by
  have a:=ay (a:=Eg) (b:=Em - 1) ⋯
  have b:pw (Eg - 1+1)=2*pw (Eg - 1):=aO (by have:=h.1;omega)
  rw [show Eg - 1+1=Eg by omega] at b
  omega
 have p0:0<=2*lo Eg Fg - lo Em Fm:=by unfold lo;omega
 refine ⟨?_,?_,p0,by unfold lo;omega⟩
 ·rw [<- au ⋯ ⋯]
  congr 1
  omega
 ·rw [<- au ⋯ ⋯]
  congr 1
  omega
theorem Bv {S S':Int} (h:Sz Eg Fg) (h':Sz Em Fm) (hE:Eg+1<=Em) (hF:2*Fg+4<=Fm) (hs:0<=s/\s<=1) (hs':0<=s'/\s'<=1) (c0:0<=c) (d0:0<=c') (wa:Wd Eg Fg Em Fm s c S d) (wb:Wd Eg Fg Em Fm s' c' S' d') (a:J1 .even Eg Fg s c s' c' x y) (b:J1 .even Em Fm S d S' d' X Y):aC Eg Fg Em Fm x y X Y:=by
 obtain ⟨f1,f2,f3,f4⟩:=wa.facts c0
 obtain ⟨g1,g2,g3,g4⟩:=wb.facts d0
 have sg:=rL (s:=s) (s':=s')
 have tg:=cu h
 have tm:=cu h'
 have hQ:=af Fg
 have hM:=af Fm
 have z1:¬ pw ↥23 - pw Fg<c->(c=0↔d=0):=fun q=>by
  by_cases z:c=pw ↥23 - pw Fg
  ·have:=f2.mp z;omega
  ·exact (f3 ⋯).2.2.2.2
 have z2:¬ pw ↥23 - pw Fg<c'->(c'=0↔d'=0):=fun q=>by
  by_cases z:c'=pw ↥23 - pw Fg
  ·have:=g2.mp z;omega
  ·exact (g3 ⋯).2.2.2.2
 unfold J1 at a b
 by_cases q1:pw ↥23 - pw Fg<c\/pw ↥23 - pw Fg<c'
 ·rw [if_pos q1] at a
  rw [if_pos (by rw [<- f1,<-g1];exact q1)] at b
  exact same_none h h' (.inl a.2) a.1 b.1 (b.2.trans a.2.symm)
 rw [if_neg q1] at a
 rw [if_neg (by rw [<- f1,<-g1];exact q1)] at b
 have e1:=f4 ⋯
 have e2:=g4 ⋯
 have z1:=z1 ⋯
 have z2:=z2 ⋯
 subst e1 e2
 by_cases q2:(c=0\/c'=0)/\(c=pw ↥23 - pw Fg\/c'=pw ↥23 - pw Fg)
 ·rw [if_pos q2] at a
  rw [if_pos (by rw [<- z1,<-z2,<-f2,<-g2];exact q2)] at b
  exact same_none h h' ⋯ a.1 b.1 (b.2.trans a.2.symm)
 rw [if_neg q2] at a
 rw [if_neg (by rw [<- z1,<-z2,<-f2,<-g2];exact q2)] at b
 by_cases q3:c=pw ↥23 - pw Fg\/c'=pw ↥23 - pw Fg
 ·rw [if_pos q3] at a
  rw [if_pos (by rw [<- f2,<-g2];exact q3)] at b
  exact gP h' sg (.inl a.2) a.1 b.1 (b.2.trans a.2.symm)
 rw [if_neg q3] at a
 rw [if_neg (by rw [<- f2,<-g2];exact q3)] at b
 obtain ⟨_,_,_,v1,_⟩:=f3 ⋯
 obtain ⟨_,_,_,v2,_⟩:=g3 ⋯
 obtain ⟨L1,L2,L3,_⟩:=oR h h' hE hF
 rw [v1,v2] at b
 refine fin_same h h' hE (by have:=h.2.2.1;omega) sg (af _) (af _) ?_ ?_ a b
 ·rw [L1]
  split<;>grind
 ·intro s kg rg km rm Z0 ag am
  have v1:=(bh (F:=Fg) c0).1
  have v2:=(bh (F:=Fg) d0).1
  have v3:=Int.mul_nonneg v1 v2
  have eZ:(if (if sx S S'=1 then -(vl Fg c*vl Fg c') else vl Fg c*vl Fg c')<0 then -(if sx S S'=1 then -(vl Fg c*vl Fg c') else vl Fg c*vl Fg c') else (if sx S S'=1 then -(vl Fg c*vl Fg c') else vl Fg c*vl Fg c'))=vl Fg c*vl Fg c':=by
   clear ag am
   split at Z0<;>split at Z0<;>omega
  rw [eZ] at ag am
  obtain ⟨u,u0,u1,eu,_⟩:=fP (F:=Fg) (c:=c) hQ c0
  obtain ⟨v,v0,v1,ev,_⟩:=fP (F:=Fg) (c:=c') hQ d0
  have uv:u*v<2*pw Fm:=by
   have a:=Int.mul_le_mul (show u<=2*pw Fg by omega) (show v<=2*pw Fg by omega) v0 ⋯
   have b:pw (Fg+Fg+1+1)=2*(2*pw (Fg+Fg)):=by rw [aO (by have:=h.2.2.1;omega),aO (by have:=h.2.2.1;omega)]
   rw [show pw (Fg+Fg)=pw Fg*pw Fg from au (by have:=h.2.2.1;omega) (by have:=h.2.2.1;omega)] at b
   have c:=ay (a:=Fg+Fg+1+1) (b:=Fm) ⋯
   have d:2*pw Fg*(2*pw Fg)=2*(2*(pw Fg*pw Fg)):=by grind
   omega
  obtain ⟨e,e0,ee⟩:=rep h' (max (c / pw Fg - 1) 0+max (c' / pw Fg - 1) 0+(2*lo Eg Fg - lo Em Fm)).toNat (u*v) (Int.mul_nonneg u0 v0) uv
  rw [Int.toNat_of_nonneg ⋯,au ⋯ ⋯,au ⋯ ⋯] at ee
  obtain ⟨e1,e2⟩:=(am.eq_iff (c:=e) ↥1 e0).mpr (by
   show 2*(vl Fm e*1)*pw (-(lo Eg Fg))=2*(vl Fg c*vl Fg c'*pw ↥0)
   rw [ee,eu,ev,L2]
   grind)
  subst e1 e2
  exact yU h h' hE (by have:=h.2.2.1;omega) ag am
theorem BS {S S':Int} (h:Sz Eg Fg) (h':Sz Em Fm) (hE:Eg+1<=Em) (hF:2*Fg+4<=Fm) (hs:0<=s/\s<=1) (hs':0<=s'/\s'<=1) (c0:0<=c) (d0:0<=c') (wa:Wd Eg Fg Em Fm s c S d) (wb:Wd Eg Fg Em Fm s' c' S' d') (a:L9 .even Eg Fg s c s' c' x y) (b:L9 .even Em Fm S d S' d' X Y):aC Eg Fg Em Fm x y X Y:=by
 obtain ⟨f1,f2,f3,f4⟩:=wa.facts c0
 obtain ⟨g1,g2,g3,g4⟩:=wb.facts d0
 have sg:=rL (s:=s) (s':=s')
 have tg:=cu h
 have tm:=cu h'
 have hQ:=af Fg
 have hM:=af Fm
 have z1:¬ pw ↥23 - pw Fg<c->(c=0↔d=0):=fun q=>by
  by_cases z:c=pw ↥23 - pw Fg
  ·have:=f2.mp z;omega
  ·exact (f3 ⋯).2.2.2.2
 have z2:¬ pw ↥23 - pw Fg<c'->(c'=0↔d'=0):=fun q=>by
  by_cases z:c'=pw ↥23 - pw Fg
  ·have:=g2.mp z;omega
  ·exact (g3 ⋯).2.2.2.2
 unfold L9 at a b
 by_cases q1:pw ↥23 - pw Fg<c\/pw ↥23 - pw Fg<c'
 ·rw [if_pos q1] at a
  rw [if_pos (by rw [<- f1,<-g1];exact q1)] at b
  exact same_none h h' (.inl a.2) a.1 b.1 (b.2.trans a.2.symm)
 rw [if_neg q1] at a
 rw [if_neg (by rw [<- f1,<-g1];exact q1)] at b
 have e1:=f4 ⋯
 have e2:=g4 ⋯
 have z1:=z1 ⋯
 have z2:=z2 ⋯
 subst e1 e2
 have i2:(c=c'/\(c=0\/c=pw ↥23 - pw Fg))↔(d=d'/\(d=0\/d=pw (Em+Fm) - pw Fm)):=⋯
 by_cases q2:c=c'/\(c=0\/c=pw ↥23 - pw Fg)
 ·rw [if_pos q2] at a
  rw [if_pos (i2.mp q2)] at b
  exact same_none h h' ⋯ a.1 b.1 (b.2.trans a.2.symm)
 rw [if_neg q2] at a
 rw [if_neg fun z=>q2 (i2.mpr z)] at b
 by_cases q3:c=pw ↥23 - pw Fg
 ·rw [if_pos q3] at a
  rw [if_pos (f2.mp q3)] at b
  exact gP h' sg (.inl a.2) a.1 b.1 (b.2.trans a.2.symm)
 rw [if_neg q3] at a
 rw [if_neg fun z=>q3 (f2.mpr z)] at b
 by_cases q4:c'=0
 ·rw [if_pos q4] at a
  rw [if_pos (z2.mp q4)] at b
  exact gP h' sg ⋯ a.1 b.1 (b.2.trans a.2.symm)
 rw [if_neg q4] at a
 rw [if_neg fun z=>q4 (z2.mpr z)] at b
 by_cases q5:c=0\/c'=pw ↥23 - pw Fg
 ·rw [if_pos q5] at a
  rw [if_pos (by rw [<- z1,<-g2];exact q5)] at b
  exact lz h h' sg a.1 a.2 b.1 b.2
 rw [if_neg q5] at a
 rw [if_neg (by rw [<- z1,<-g2];exact q5)] at b
 obtain ⟨_,_,_,v1,_⟩:=f3 ⋯
 obtain ⟨_,_,_,v2,_⟩:=g3 ⋯
 obtain ⟨L1,_,_,L4⟩:=oR h h' hE hF
 have pD:=af ↥0
 have n1:0<vl Fg c:=by have:=bh (F:=Fg) c0;omega
 have n2:0<vl Fg c':=by have:=bh (F:=Fg) d0;omega
 rw [v1,v2] at b
 refine pR h h' hE (by have:=h.2.2.1;omega) sg n2 (Int.mul_pos n2 pD) ?_ ?_ a b
 ·rw [L1]
  grind
 ·intro kg rg km rm ag am
  obtain ⟨u,u0,u1,eu,_⟩:=fP (F:=Fg) (c:=c) hQ c0
  obtain ⟨v,v0,v1,ev,_⟩:=fP (F:=Fg) (c:=c') hQ d0
  have l:=bX h
  have l':=bX h'
  have u2:¬ u=0:=fun q=>by rw [eu,q,Int.zero_mul] at n1;omega
  have v2:¬ v=0:=fun q=>by rw [ev,q,Int.zero_mul] at n2;omega
  refine Ey (A:=u) (B:=v) (a:=max (c / pw Fg - 1) 0 + -(lo Eg Fg)) (j:=max (c' / pw Fg - 1) 0) h h' hE hF n2 ag am ⋯ ⋯ ⋯ ⋯ (by rw [eu,au ⋯ ⋯,Int.mul_assoc]) ev ?_
  have w1:=fq (F:=Fg) (c:=c') (c':=pw ↥23 - pw Fg) d0 ⋯
  rw [lj h] at w1
  have p0:=af (Eg - 1)
  have w2:=Int.mul_le_mul_of_nonneg_left (Int.le_of_lt w1) (Int.le_of_lt hQ)
  rw [<- au (by have:=h.2.2.1;omega) ⋯] at w2
  have w3:=ay (a:=Fg+(pw (Eg - 1) + -(lo Eg Fg))) (b := -(lo Em Fm)) ⋯
  have w4:=Int.mul_le_mul_of_nonneg_right (show 1<=vl Fg c by omega) (Int.le_of_lt (af (-(lo Em Fm))))
  rw [Int.mul_assoc,<-L1]
  omega
def JX (w:Wy) (E F s c x y:Int):Prop :=
 if pw ↥4 - pw F<c then x=pw ↥4 - pw F+pw (F - 1)/\y=0
 else if c=0\/(s=0/\c=pw ↥4 - pw F) then x=s*pw ↥4+c/\y=0
 else if s=1 then x=pw ↥4 - pw F+pw (F - 1)/\y=16
 else ∃ k r,x=0*pw ↥4+stK w E F 0 k r/\y=stF w E F 0 k r/\RAt F (vl F c*pw ↥30) k r
theorem AR {S:Int} (h:Sz Eg Fg) (h':Sz Em Fm) (hE:Eg+1<=Em) (hF:2*Fg+4<=Fm) (hs:0<=s/\s<=1) (c0:0<=c) (wa:Wd Eg Fg Em Fm s c S d) (a:JX .even Eg Fg s c x y) (b:JX .even Em Fm S d X Y):aC Eg Fg Em Fm x y X Y:=by
 obtain ⟨f1,f2,f3,f4⟩:=wa.facts c0
 have tg:=cu h
 have tm:=cu h'
 have hQ:=af Fg
 have hM:=af Fm
 unfold JX at a b
 by_cases q1:pw ↥23 - pw Fg<c
 ·rw [if_pos q1] at a
  rw [if_pos (f1.mp q1)] at b
  exact same_none h h' (.inl a.2) a.1 b.1 (b.2.trans a.2.symm)
 rw [if_neg q1] at a
 rw [if_neg fun z=>q1 (f1.mpr z)] at b
 have e1:=f4 q1
 subst e1
 have z1:c=0↔d=0:=by
  by_cases z:c=pw ↥23 - pw Fg
  ·have:=f2.mp z;omega
  ·exact (f3 ⋯).2.2.2.2
 by_cases q2:c=0\/(S=0/\c=pw ↥23 - pw Fg)
 ·rw [if_pos q2] at a
  rw [if_pos (by rw [<- z1,<-f2];exact q2)] at b
  by_cases z:c=0
  ·have:=z1.mp z
   exact lz h h' hs ⋯ a.2 ⋯ b.2
  ·have y1:c=pw ↥23 - pw Fg:=⋯
   have y2:=f2.mp y1
   exact gP h' hs (.inl a.2) (by rw [<- y1];exact a.1) (by rw [<- y2];exact b.1) (b.2.trans a.2.symm)
 rw [if_neg q2] at a
 rw [if_neg (by rw [<- z1,<-f2];exact q2)] at b
 by_cases q3:S=1
 ·rw [if_pos q3] at a b
  exact same_none h h' ⋯ a.1 b.1 (b.2.trans a.2.symm)
 rw [if_neg q3] at a b
 obtain ⟨kg,rg,x1,x2,a1⟩:=a
 obtain ⟨km,rm,x3,x4,a2⟩:=b
 obtain ⟨_,_,_,v1,_⟩:=f3 ⋯
 obtain ⟨L1,_,_,L4⟩:=oR h h' hE hF
 have l:=bX h
 have pD:=af ↥0
 have n1:0<vl Fg c:=by have:=bh (F:=Fg) c0;omega
 obtain ⟨u,u0,u1,eu,_⟩:=fP (F:=Fg) (c:=c) hQ c0
 have u2:¬ u=0:=fun q=>by rw [eu,q,Int.zero_mul] at n1;omega
 have ag:=uN pD a1
 have am:=uN (sc:=1) ↥1 a2
 rw [show vl Fm d*pw (-(lo Em Fm))*(1*1)=vl Fg c*pw (-(lo Eg Fg))*(pw ↥0*pw ↥0) by rw [v1,L1];grind] at am
 exact tY h h' hE (by have:=h.2.2.1;omega) ↥1 ag am (AO (A:=u) (a:=max (c / pw Fg - 1) 0 + -(lo Eg Fg)) h h' hE hF ag am ⋯ ⋯ (by rw [eu,au ⋯ ⋯,Int.mul_assoc])) x1 x2 x3 x4
theorem Wd.neg {S:Int} (w:Wd Eg Fg Em Fm s c S d):Wd Eg Fg Em Fm (1 - s) c (1 - S) d:=by
 rcases w with ⟨a,b,e⟩ | ⟨a,b,e⟩ | ⟨a,b,e⟩
 ·exact .inl ⟨a,⋯,e⟩
 ·exact .inr (.inl ⟨a,⋯,e⟩)
 ·exact .inr (.inr ⟨a,⋯,e⟩)
theorem Wd.ins {S:Int} (h':Sz Em Fm) (w:Wd Eg Fg Em Fm s c S d) (hs:0<=s/\s<=1):(0<=S/\S<=1)/\0<=d/\d<pw (Em+Fm):=by
 have hQ:=af Fm
 have tm:=cu h'
 have a:=af (Fm - 1)
 have b:pw (Fm - 1+1)=2*pw (Fm - 1):=aO (by have:=h'.2.2.1;omega)
 rw [show Fm - 1+1=Fm by omega] at b
 rcases w with w | w | w<;>omega
end
end EV
namespace T
open EV
theorem pC {ns:List Int} {j:Int} (h0:0<=j):aG [.lst (ns.map .int),.int j]=.ok (.int (ns.getD j.toNat 0)):=by
 unfold aG dE
 by_cases h:j<(ns.length:Int)
 ·have e:oIx (.lst (ns.map D.int)) (.int j)=.ok (.int (ns.getD j.toNat 0)):=by
   obtain ⟨k,rfl⟩:=Int.eq_ofNat_of_zero_le h0
   have hk:k<ns.length:=⋯
   refine qr ?_
   simp [List.getElem?_map,List.getElem?_eq_getElem hk,List.getD_eq_getElem?_getD]
  simp_arith [h,e]
 ·simp_arith [h,BH h0 h]
theorem oQ {c m:Int} (hc:nb c<=2^20) (hm:0<m):bK [.int c,.int m]=.ok (.int (c*73846150927364518273645509182736455091827%m)):=by
 have n:nb c<=1048576:=hc
 have m1:MulOk c 73846150927364518273645509182736455091827:=by walk_at "mul"
 unfold bK fN
 simp_arith [ax m1,hm]
theorem pG {E F c:Int} (h:Sz E F) (hc:nb c<=2^20):∃ b,aM [.tup [.int E,.int F],.int c]=.ok (.int b)/\In E F b:=by
 obtain ⟨k1,k2,k3,k4⟩:=id h
 have hh:=aW h
 have hQ:=iu k3
 have eM:=end_is h
 have eW:=gf h
 have hE:=iV h
 have hE0:=lG k1
 have nE:nb (pw E - 1)<=15:=il ⋯ ⋯
 have n1:nb (pw ↥4)<=128:=eV (c:=127) ⋯
 have m1:MulOk (c / 10%2) (pw ↥4):=dQ ⋯ ⋯ (Nat.le_trans n1 ↥1)
 have m2:MulOk 2 (pw ↥4):=by walk_at "mul"
 have c10:nb (c / 10)<=2^20:=i6 ↥1 hc
 have c20:nb (c / 10 / 2 / 9)<=2^20:=i6 ↥1 (i6 ↥1 c10)
 have s1:=jV (k:=E+F) ⋯ ⋯
 have s2:=jV (k:=E) ⋯ ⋯
 have s3:=aZ (i:=pw E - 1) (j:=F) ⋯ ⋯
 have s4:=jV (k:=F) ⋯ ⋯
 have s5:=jV (k:=E - 1) ⋯ ⋯
 have nb2:nb (2:Int)=2:=by decide
 have s6:cm (.int 2) (.int F)=.ok (.int (2*pw F)):=aZ ⋯ ⋯
 have fin:∀ x,0<=x->x<pw ↥4->In E F (c / 10%2*pw ↥4+x):=fun x x0 x1=>(aB (s:=c / 10%2) (c:=x) h ⋯ x0 x1).1
 unfold aM dG
 by_cases g0:c%10<3
 ·refine ⟨c / 10*73846150927364518273645509182736455091827%(2*pw ↥4),by simp_arith [s1,s2,s3,eM,g0,ax m2,oQ c10 (show 0<2*pw ↥4 by omega)],?_⟩
  unfold In
  rw [eW]
  exact ⟨Int.emod_nonneg _ ⋯,Int.emod_lt_of_pos _ ⋯⟩
 by_cases g1:c%10=3
 ·have r0:=Int.emod_nonneg (c / 10 / 2) (show 2*pw F≠0 by omega)
  have r1:=Int.emod_lt_of_pos (c / 10 / 2) (show 0<2*pw F by omega)
  exact ⟨_,by simp_arith [s1,s2,s3,eM,g1,s6,show 0<2*pw F by omega,ax m1],fin (c / 10 / 2%(2*pw F)) r0 ⋯⟩
 by_cases g2:c%10=4
 ·exact ⟨_,by simp_arith [s1,s2,s3,eM,g2,ax m1],fin (pw ↥4 - pw F+1 - c / 10 / 2%5) ⋯ ⋯⟩
 by_cases g3:c%10=5
 ·obtain ⟨x,ex,x0,x1⟩:∃ x,oIx (.lst [.int 0,.int 1,.int (pw F - 1),.int (pw F),.int (pw ↥4 - pw F - 1),.int (pw ↥4 - pw F)]) (.int (c / 10 / 2%6))=.ok (.int x)/\0<=x/\x<pw ↥4:=by
   rcases (by omega:c / 10 / 2%6=0\/c / 10 / 2%6=1\/c / 10 / 2%6=2\/c / 10 / 2%6=3\/c / 10 / 2%6=4\/c / 10 / 2%6=5) with e | e | e | e | e | e<;>rw [e]<;>exact ⟨_,rfl,⋯,⋯⟩
  exact ⟨_,by simp_arith [s1,s2,s3,s4,eM,g3,ex,ax m1],fin x x0 x1⟩
 ·generalize hf:max 0 (min (pw (E - 1) - 5+c / 10 / 2%9) (pw E - 1))=f
  have f0:0<=f/\f<=pw E - 1:=⋯
  have nf:nb f<=16:=il f0.1 ⋯
  have r0:=Int.emod_nonneg (c / 10 / 2 / 9*73846150927364518273645509182736455091827) (show pw F≠0 by omega)
  have r1:=Int.emod_lt_of_pos (c / 10 / 2 / 9*73846150927364518273645509182736455091827) (show 0<pw F by omega)
  have f1:0<=f*pw F:=Int.mul_nonneg f0.1 ⋯
  have f2:f*pw F<=(pw E - 1)*pw F:=Int.mul_le_mul_of_nonneg_right f0.2 ⋯
  rw [eM] at f2
  exact ⟨_,by simp_arith [s1,s2,s3,s4,s5,eM,g0,g1,g2,g3,hf,aZ (i:=f) (j:=F) ⋯ ⋯,oQ c20 (show 0<pw F by omega),ax m1],fin (f*pw F+c / 10 / 2 / 9*73846150927364518273645509182736455091827%pw F) ⋯ ⋯⟩
theorem xR {E F c:Int} (h:Sz E F) (hc:nb c<=2^20):∃ b,cX [.tup [.int E,.int F],.int c]=.ok (.int b)/\In E F b:=by
 obtain ⟨k1,k2,k3,k4⟩:=id h
 have hh:=aW h
 have hQ:=iu k3
 have eM:=end_is h
 have eW:=gf h
 have nE:nb (pw E - 1)<=15:=il (by have:=af E;omega) (by have:=iV h;omega)
 have n1:nb (pw ↥4)<=128:=eV (c:=127) ⋯
 have m1:MulOk (c / 5%2) (pw ↥4):=dQ ⋯ ⋯ (Nat.le_trans n1 ↥1)
 have sd:=Ee (r:=c / 5) (h:=pw ↥4) ⋯
 have r0:=Int.emod_nonneg (c / 5 / 2) (show pw F - 1≠0 by omega)
 have r1:=Int.emod_lt_of_pos (c / 5 / 2) (show 0<pw F - 1 by omega)
 have s1:=jV (k:=E+F) ⋯ ⋯
 have s2:=jV (k:=E) ⋯ ⋯
 have s3:=aZ (i:=pw E - 1) (j:=F) ⋯ ⋯
 have s4:=jV (k:=F) ⋯ ⋯
 unfold cX d9 In
 rw [eW]
 by_cases g0:c%5=0
 ·exact ⟨c / 5%2*pw ↥4+(pw ↥4 - pw F)+1+c / 5 / 2%(pw F - 1),by simp_arith [s1,s2,s3,s4,eM,g0,ax m1,show 0<pw F - 1 by omega],⋯,⋯⟩
 by_cases g1:c%5=1
 ·exact ⟨c / 5%2*pw ↥4+(pw ↥4 - pw F),by simp_arith [s1,s2,s3,s4,eM,g1,ax m1],⋯,⋯⟩
 by_cases g2:c%5=2
 ·exact ⟨c / 5%2*pw ↥4,by simp_arith [s1,s2,s3,s4,eM,g2,ax m1],⋯,⋯⟩
 ·obtain ⟨b,eb,hb⟩:=pG (c:=c / 5) h (i6 ↥1 hc)
  unfold In at hb
  rw [eW] at hb
  exact ⟨b,by simp_arith [s1,s2,s3,s4,eM,g0,g1,g2,ax m1,eb],hb⟩
theorem mZ {E F b c:Int} {t:Bool} (h:Sz E F) (hb:In E F b) (hc:nb c<=2^20):∃ x,cF [.tup [.int E,.int F],.int b,.int c,.bl t]=.ok (.int x)/\In E F x:=by
 obtain ⟨k1,k2,k3,k4⟩:=id h
 have hh:=aW h
 have hQ:=iu k3
 have hE1:=iu (F:=E - 1) ⋯
 have eE:=lF (F:=E) ⋯
 have eF:=lF (F:=F) k3
 have eM:=end_is h
 have eW:=gf h
 have hH:=af ↥4
 have c9:nb (c / 9)<=2^20:=i6 ↥1 hc
 have s1:=jV (k:=E+F) ⋯ ⋯
 have s2:=jV (k:=E - 1) ⋯ ⋯
 have s3:=jV (k:=E) ⋯ ⋯
 have s4:=jV (k:=F) ⋯ ⋯
 have s5:=jV (k:=F - 1) ⋯ ⋯
 have n1:nb (pw ↥4)<=128:=eV (c:=127) ⋯
 have hE1':=oG h
 have m2:MulOk 2 (pw (E - 1) - 1):=by
  have:nb (pw (E - 1) - 1)<=15:=il ⋯ ⋯
  walk_at "mul"
 have m3:MulOk (c / 9 / 5%2) (pw ↥4):=dQ ⋯ ⋯ (Nat.le_trans n1 ↥1)
 have m4:MulOk (c / 9%2) (pw ↥4):=dQ ⋯ ⋯ (Nat.le_trans n1 ↥1)
 unfold cF dD
 by_cases g:c%9<5
 ·have sr:=sC (i:=b%pw ↥4) (j:=F) ⋯
  generalize b%pw ↥4 / pw F=f at *
  have r0:=Int.emod_nonneg (c / 9*73846150927364518273645509182736455091827) (show pw F≠0 by omega)
  have r1:=Int.emod_lt_of_pos (c / 9*73846150927364518273645509182736455091827) (show 0<pw F by omega)
  obtain ⟨x,ex,x0,x1⟩:∃ x,oIx (.lst [.int 0,.int (pw (F - 1)),.int (pw F - 1),.int (c / 9*73846150927364518273645509182736455091827%pw F)]) (.int (c / 9 / 3%4))=.ok (.int x)/\0<=x/\x<pw F:=by
   rcases (by omega:c / 9 / 3%4=0\/c / 9 / 3%4=1\/c / 9 / 3%4=2\/c / 9 / 3%4=3) with e | e | e | e<;>rw [e]<;>exact ⟨_,rfl,⋯,⋯⟩
  have fin:∀ v,In E F (c / 9 / 5%2*pw ↥4+max 0 (min v (2*(pw (E - 1) - 1)))*pw F+x)/\cm (.int (max 0 (min v (2*(pw (E - 1) - 1))))) (.int F)=.ok (.int (max 0 (min v (2*(pw (E - 1) - 1)))*pw F)):=fun v=>by
   generalize hy:max 0 (min v (2*(pw (E - 1) - 1)))=y
   have y0:0<=y/\y<=pw E - 2:=⋯
   have ny:nb y<=16:=il y0.1 (by have:=iV h;omega)
   have f1:0<=y*pw F:=Int.mul_nonneg y0.1 ⋯
   have f2:y*pw F<=(pw E - 2)*pw F:=Int.mul_le_mul_of_nonneg_right y0.2 ⋯
   have f3:(pw E - 2)*pw F=(pw E - 1)*pw F - pw F:=by rw [show pw E - 1=pw E - 2+1 by omega,Int.add_mul];omega
   rw [Int.add_assoc]
   exact ⟨(aB (s:=c / 9 / 5%2) (c:=y*pw F+x) h ⋯ ⋯ ⋯).1,aZ ⋯ ⋯⟩
  have md:=oQ c9 (show 0<pw F by omega)
  by_cases g2:c%9<2
  ·cases t
   ·have z:=fin (pw (E - 1) - 1+(pw E - 5+c / 9%7 - f))
    exact ⟨_,by simp_arith [s1,s2,s3,s4,s5,hH,g,g2,sr,ax m2,md,ex,ax m3,z.2,show 0<F+8 by omega],z.1⟩
   ·have z:=fin (pw (E - 1) - 1+(f - (pw E - 5+c / 9%7)))
    exact ⟨_,by simp_arith [s1,s2,s3,s4,s5,hH,g,g2,sr,ax m2,md,ex,ax m3,z.2,show 0<F+8 by omega],z.1⟩
  ·cases t
   ·have z:=fin (pw (E - 1) - 1+(c / 9%(F+8) - F - 4 - f))
    exact ⟨_,by simp_arith [s1,s2,s3,s4,s5,hH,g,g2,sr,ax m2,md,ex,ax m3,z.2,show 0<F+8 by omega],z.1⟩
   ·have z:=fin (pw (E - 1) - 1+(f - (c / 9%(F+8) - F - 4)))
    exact ⟨_,by simp_arith [s1,s2,s3,s4,s5,hH,g,g2,sr,ax m2,md,ex,ax m3,z.2,show 0<F+8 by omega],z.1⟩
 by_cases g5:c%9=5
 ·rcases (by omega:c / 9%2=0\/c / 9%2=1) with e | e
  ·exact ⟨b,by simp_arith [s1,s2,hH,g5,e,ax (show MulOk 0 (pw ↥4) by rw [<- e];exact m4),oM hb.1 (show (0:Int)<=0*pw ↥4 by omega),show ((b.toNat ^^^ (0*pw ↥4).toNat:Nat):Int)=b by rw [Int.zero_mul];have:=hb.1;simp;omega],hb⟩
  ·have x:=GS (n:=E+F+1) (k:=E+F) ⋯ hb.1 hb.2 ⋯ ⋯
   exact ⟨((b.toNat ^^^ (pw ↥4).toNat:Nat):Int),by simp_arith [s1,s2,hH,g5,e,ax (show MulOk 1 (pw ↥4) by rw [<- e];exact m4),oM hb.1 (Int.le_of_lt hH),Int.one_mul],x⟩
 by_cases g6:c%9=6
 ·obtain ⟨x,ex,hx⟩:=xR h c9
  exact ⟨x,by simp_arith [s1,s2,g6,ex],hx⟩
 ·obtain ⟨x,ex,hx⟩:=pG h c9
  exact ⟨x,by simp_arith [s1,s2,g,g5,g6,ex],hx⟩
theorem vG {E F b c:Int} (h:Sz E F) (hb:In E F b) (hc:nb c<=2^20):∃ x,cE [.tup [.int E,.int F],.int b,.int c]=.ok (.int x)/\In E F x:=by
 obtain ⟨k1,k2,k3,k4⟩:=id h
 have hh:=aW h
 have hQ:=iu k3
 have hE4:=lG k1
 have eM:=end_is h
 have eW:=gf h
 have hH:=af ↥4
 have c9:nb (c / 9)<=2^20:=i6 ↥1 hc
 have s1:=jV (k:=E+F) ⋯ ⋯
 have n1:nb (pw ↥4)<=128:=eV (c:=127) ⋯
 have m2:MulOk 2 (pw ↥4):=by walk_at "mul"
 obtain ⟨x0,e0,x00,x01⟩:=nX (n:=E+F+1) hb.1 hb.2 (Int.le_of_lt hH) ⋯
 unfold cE dC
 by_cases g0:c%9=0
 ·exact ⟨x0,by simp_arith [s1,g0,e0],x00,x01⟩
 by_cases g1:c%9=1
 ·obtain ⟨x,e,a0,a1⟩:=nX (n:=E+F+1) (b:=c / 9%8) hb.1 hb.2 ⋯ ⋯
  exact ⟨x,by simp_arith [s1,g1,e],a0,a1⟩
 by_cases g2:c%9=2
 ·obtain ⟨x,e,a0,a1⟩:=nX (n:=E+F+1) (b:=c / 9%8) x00 x01 ⋯ ⋯
  exact ⟨x,by simp_arith [s1,g2,e0,e],a0,a1⟩
 by_cases g3:c%9=3
 ·have r0:=Int.emod_nonneg (b+c / 9%17 - 8) (show 2*pw ↥4≠0 by omega)
  have r1:=Int.emod_lt_of_pos (b+c / 9%17 - 8) (show 0<2*pw ↥4 by omega)
  exact ⟨(b+c / 9%17 - 8)%(2*pw ↥4),by simp_arith [s1,g3,ax m2,show 0<2*pw ↥4 by omega],by unfold In;rw [eW];exact ⟨r0,r1⟩⟩
 by_cases g4:c%9=4
 ·have nb2:nb (2:Int)=2:=by decide
  have s5:cm (.int 2) (.int E)=.ok (.int (2*pw E)):=aZ ⋯ ⋯
  have r0:=Int.emod_nonneg (c / 9) (show 2*pw E≠0 by omega)
  have r1:=Int.emod_lt_of_pos (c / 9) (show 0<2*pw E by omega)
  have nv:nb (c / 9%(2*pw E))<=17:=il r0 (by have:=iV h;omega)
  have f1:c / 9%(2*pw E)*pw F<=(2*pw E - 1)*pw F:=Int.mul_le_mul_of_nonneg_right ⋯ ⋯
  have f2:(2*pw E - 1)*pw F=2*pw ↥4 - pw F:=by
   rw [Int.sub_mul,Int.mul_assoc,<-au ⋯ ⋯,Int.one_mul]
  obtain ⟨x,e,a0,a1⟩:=nX (n:=E+F+1) (b:=c / 9%(2*pw E)*pw F) hb.1 hb.2 (Int.mul_nonneg r0 ⋯) ⋯
  exact ⟨x,by simp_arith [s1,g4,s5,show 0<2*pw E by omega,aZ (i:=c / 9%(2*pw E)) (j:=F) ⋯ ⋯,e],a0,a1⟩
 by_cases g5:c%9=5
 ·have sr:=sC (i:=b%pw ↥4) (j:=F) ⋯
  have b0:=Int.emod_nonneg b (show pw ↥4≠0 by omega)
  have b1:=Int.emod_lt_of_pos b hH
  have q1:=(Ac h b0 b1).1
  generalize b%pw ↥4 / pw F=f at *
  generalize hy:max 0 (f - F+c / 9%3 - 2)=y
  have y0:0<=y/\y<=pw E - 2:=⋯
  have ny:nb y<=16:=il y0.1 (by have:=iV h;omega)
  have f1:0<=y*pw F:=Int.mul_nonneg y0.1 ⋯
  have f2:y*pw F<=(pw E - 2)*pw F:=Int.mul_le_mul_of_nonneg_right y0.2 ⋯
  have f3:(pw E - 2)*pw F=(pw E - 1)*pw F - pw F:=by rw [show pw E - 1=pw E - 2+1 by omega,Int.add_mul];omega
  have m3:MulOk (c / 9 / 3%2) (pw ↥4):=dQ ⋯ ⋯ (Nat.le_trans n1 ↥1)
  exact ⟨_,by simp_arith [s1,g5,hH,sr,hy,aZ (i:=y) (j:=F) ⋯ ⋯,ax m3],(aB (s:=c / 9 / 3%2) (c:=max 0 (y*pw F+c / 9 / 6%3 - 1)) h ⋯ ⋯ ⋯).1⟩
 ·obtain ⟨x,e,hx⟩:=pG h c9
  exact ⟨x,by simp_arith [s1,g0,g1,g2,g3,g4,g5,e],hx⟩
theorem a8 (w:Wy):aY [.str w.s]=.ok (vg w):=by
 have h:iv (.str w.s) (.tup [.str "even",.str "away",.str "nought",.str "up",.str "down"])=.ok (.bl false):=by
  show iv (.str w.s) (.tup (Aa.map D.str))=_
  rw [sE]
  cases w<;>rfl
 unfold aY kT
 simp_arith [h]
 rfl
theorem iB {E F:Int} (h:Sz E F):bC [.tup [.int E,.int F]]=.ok (.int (pw ↥4)):=by
 obtain ⟨h1,h2,h3,h4⟩:=h
 unfold bC hW
 simp_arith [jV (k:=E+F) ⋯ ⋯]
theorem zZ {E F:Int}:lK [.tup [.int E,.int F]]=.ok (.int (E+F+1)):=by
 unfold lK oZ
 simp_arith []
theorem dJ {E F b:Int} (h:Sz E F) (hb:In E F b):aR [.tup [.int E,.int F],.int b]=.ok (.tup [.int (sgn E F b),.int (fld E F b),.int (fig F b)]):=by
 obtain ⟨h1,h2,h3,h4⟩:=id h
 obtain ⟨hb0,hb1⟩:=hb
 have d1:ir b (pw ↥4):=⟨af _,.inl (Nat.le_trans (eV (c:=127) ⋯) ↥1)⟩
 have d2:ir (b%pw ↥4) (pw F):=⟨af _,.inl (Nat.le_trans (eV (c:=127) ⋯) ↥1)⟩
 have e0:b / pw ↥4=sgn E F b:=by unfold sgn;rw [au ⋯ ⋯,part0 (af _) (af _)]
 have e1:b%pw ↥4 / pw F=fld E F b:=by unfold fld;rw [au ⋯ ⋯,part1 (af _) (af _)]
 have e2:b%pw ↥4%pw F=fig F b:=by unfold fig;rw [au ⋯ ⋯,part2]
 unfold aR kX
 simp_arith [zZ,iB h,jV (k:=E+F+1) ⋯ ⋯,jV (k:=F) ⋯ ⋯,show ¬ b<0 by omega,show ¬ pw (E+F+1)<=b by omega,gp d1,gp d2,af,e0,e1,e2]
theorem dz {E F:Int} (h:Sz E F):aQ [.tup [.int E,.int F]]=.ok (.int (pw E - 1)):=by
 obtain ⟨h1,h2,h3,h4⟩:=h
 unfold aQ ef
 simp_arith [jV (k:=E) ⋯ ⋯]
theorem oU {E F b:Int} (h:Sz E F) (hb:In E F b):a9 [.tup [.int E,.int F],.int b]=.ok (.str (kindS E (fld E F b) (fig F b))):=by
 unfold a9 uz
 simp_arith [dJ h hb,dz h]
 unfold kindS
 (repeat' split)<;>first | rfl | contradiction
theorem cO {s w p:Int} (hw:nb w<=1000000) (hp : -1000000<=p/\p<=1000000):aT [.tup [.int s,.int w,.int p]]=.ok (.tup [.int s,.int (frT w p),.int (frB p)]):=by
 unfold aT cb
 by_cases g:0<=p
 ·simp_arith [g,aZ (i:=w) (j:=p) g ⋯,frT,frB]
 ·simp_arith [g,jV (k := -p) ⋯ ⋯,frT,frB]
theorem F9 {E F:Int} (h:Sz E F):qf [.tup [.int E,.int F]]=.ok (.int (pw (E - 1) - 1)):=by
 obtain ⟨h1,h2,h3,h4⟩:=h
 unfold qf uA
 simp_arith [jV (k:=E - 1) ⋯ ⋯]
theorem jb {E F:Int} (h:Sz E F):iW [.tup [.int E,.int F]]=.ok (.int (lo E F)):=by
 have e:1 - (pw (E - 1) - 1) - F=lo E F:=by unfold lo;omega
 unfold iW BI
 simp_arith [F9 h,e]
theorem tR {E F b:Int} (h:Sz E F) (hb:In E F b) (hf:¬ fld E F b=pw E - 1):iE [.tup [.int E,.int F],.int b]=.ok (.tup [.int (sgn E F b),.int (wh F (fld E F b) (fig F b)),.int (po E F (fld E F b))]):=by
 obtain ⟨h1,h2,h3,h4⟩:=id h
 unfold iE oY
 simp_arith [dJ h hb,dz h,jb h,hf,jV (k:=F) ⋯ ⋯]
 unfold wh po
 by_cases g:fld E F b=0
 ·simp only [if_pos g]
 ·simp only [if_neg g]
theorem lW {E F b:Int} (h:Sz E F) (hb:In E F b) (hf:¬ fld E F b=pw E - 1):bw [.tup [.int E,.int F],.int b]=.ok (.tup [.int (sgn E F b),.int (frT (wh F (fld E F b) (fig F b)) (po E F (fld E F b))),.int (frB (po E F (fld E F b)))]):=by
 have h1:=wK h hb
 have h2:=EC h hb
 unfold bw ie
 simp_arith [tR h hb hf,cO (s:=sgn E F b) (w:=wh F (fld E F b) (fig F b)) (p:=po E F (fld E F b)) ⋯ ⋯]
theorem pB {t n:Int} (ht:0<=t) (hn:0<n):aV [.int t,.int n]=.ok .non:=by
 unfold aV cf
 simp_arith [show ¬ t<0 by omega,show ¬ n<1 by omega]
theorem iL {t n p:Int} (h1:nb t<=10000000) (h2:nb n<=10000000) (h3 : -10000000<=p) (h4:p<=10000000):dw [.int t,.int n,.int p]=.ok (.tup [.int (de p t),.int (cM p n)]):=by
 unfold dw kW de cM
 by_cases g:0<=p
 ·simp_arith [g,aZ (i:=n) (j:=p) g ⋯,bu (p := -p) ⋯,Int.mul_one]
 ·simp_arith [g,aZ (i:=t) (j := -p) ⋯ ⋯,bu (p:=p) ⋯,Int.mul_one]
theorem lE {o a m:Int}:aU [.int o,.int a,.int m]=.ok (.int (if o=0 then 0 else if a<m then 1 else if a=m then 2 else 3)):=by
 unfold aU cc
 simp_arith []
theorem rest_of_ok {o s:Int} (h:nb o<=100000000):gm [.int o,.int s]=.ok (.int (rst o s)):=by
 have m:MulOk 2 o:=by walk_at "mul"
 unfold gm je
 simp_arith [ax m,lE]
 rfl
theorem qw {t n:Int} (h1:nb t<=1000000) (h2:nb n<=1000000):fF [.int t,.int n]=.ok (.int (hgt t n)):=by
 have e:(de ((nb t:Int) - nb n) t<cM ((nb t:Int) - nb n) n)=Lt t n ((nb t:Int) - nb n):=rfl
 unfold fF kZ hgt
 by_cases g:Lt t n ((nb t:Int) - nb n)
 ·simp_arith [iL (t:=t) (n:=n) (p:=(nb t:Int) - nb n) ⋯ ⋯ ⋯ ⋯,e,g]
 ·simp_arith [iL (t:=t) (n:=n) (p:=(nb t:Int) - nb n) ⋯ ⋯ ⋯ ⋯,e,g]
theorem BU {E F n:Int} (h:Sz E F) (hn:0<n):sA [.tup [.int E,.int F],.int 0,.int n]=.ok (.tup [.int 0,.int (lo E F),.int 0]):=by
 unfold sA yO
 simp_arith [pB (Int.le_refl 0) hn,jb h]
theorem JL {E F t n:Int} (h:Sz E F) (ht:0<t) (hn:0<n) (h1:nb t<=1000000) (h2:nb n<=1000000) :
  sA [.tup [.int E,.int F],.int t,.int n]=.ok (.tup [.int (de ↥24 t / cM ↥24 n),.int ↥24,.int (rst (de ↥24 t%cM ↥24 n) (cM ↥24 n))]):=by
 obtain ⟨s1,s2,s3,s4⟩:=pk h ht hn
 have l:=bX h
 have hB:=ig (p:=nu E F t n) hn
 have hA:=pv (p:=nu E F t n) (Int.le_of_lt ht)
 have d:=Jc h hA hB s3
 have eP:max (lo E F) (hgt t n - F - 1)=nu E F t n:=rfl
 have nB:nb (cM ↥24 n)<=3000000:=by
  have:=dP h2 (eV (k:=nu E F t n) (c:=1000000) ⋯)
  unfold cM;omega
 have nr:nb (de ↥24 t%cM ↥24 n)<=3000000:=CH hB nB
 unfold sA yO
 simp_arith [pB (Int.le_of_lt ht) hn,show ¬ t=0 by omega,jb h,qw h1 h2,eP,iL (t:=t) (n:=n) (p:=nu E F t n) ⋯ ⋯ ⋯ ⋯,gp d,hB,rest_of_ok (o:=de ↥24 t%cM ↥24 n) (s:=cM ↥24 n) ⋯]
theorem bb {E F:Int} (h:Sz E F):aN [.tup [.int E,.int F]]=.ok (.int ((pw E - 1)*pw F)):=by
 obtain ⟨h1,h2,h3,h4⟩:=id h
 have hb:nb (pw E)<=16:=eV (c:=15) ⋯
 have hb2:nb (pw E - 1)<=17:=by walk_at "nbk"
 unfold aN jh
 simp_arith [dz h,aZ (i:=pw E - 1) (j:=F) ⋯ ⋯]
theorem bV {E F s c:Int} (h:Sz E F) (hs:0<=s/\s<=1):bj [.tup [.int E,.int F],.int s,.int c]=.ok (.int ↥16):=by
 have n1:nb (pw ↥4)<=128:=eV (c:=127) (by have:=h.2.1;have:=h.2.2.2;omega)
 unfold bj kU
 simp_arith [iB h,ax (dQ hs.1 hs.2 (Nat.le_trans n1 ↥1))]
theorem yA {E F c k:Int} (h:Sz E F):cW [.tup [.int E,.int F],.int c,.int k]=.ok (.int (if k=pw ↥4 - pw F then 5 else if c<pw F then 3 else 1)):=by
 obtain ⟨h1,h2,h3,h4⟩:=id h
 unfold cW d8
 simp_arith [bb h,end_is h,jV (k:=F) ⋯ ⋯]
theorem uD (w:Wy) (s:Int):aS [vg w,.int s]=.ok (.bl (w.out s)):=by
 unfold aS bq vg
 cases w<;>simp_arith [Wy.s,Wy.out]
theorem ux (w:Wy) (s r:Int) (o:Bool) (h:¬ r=0):fG [vg w,.int s,.bl o,.int r]=.ok (.bl (w.grw s o r)):=by
 have f:=uD w s
 have hm:fc "Way" "flees_nought" (vg w)=true:=rfl
 unfold fG dR
 have nm:("flees_nought" != "name")=true:=by decide
 have e1:wj "Way" "name" (vg w)=.ok (.str w.s):=rfl
 unfold vg at *
 cases w
 ·by_cases g:r=3
  ·simp_arith [h,Wy.s,eq_true g]
   simp [Wy.grw,g]
  ·by_cases g2:r=2
   ·simp_arith [h,Wy.s,g,eq_true g2]
    simp [Wy.grw,g2]
   ·simp_arith [h,Wy.s,g,g2]
    simp [Wy.grw,g,g2]
 ·simp_arith [h,Wy.s]
  rfl
 ·simp only [Wy.s] at f
  simp_arith [h,Wy.s,nm,f]
  rfl
 ·simp only [Wy.s] at f
  simp_arith [h,Wy.s,nm,f]
  rfl
 ·simp only [Wy.s] at f
  simp_arith [h,Wy.s,nm,f]
  rfl
theorem qH (w:Wy) (s:Int):d3 [vg w,.int s]=.ok (.bl (w.brs s)):=by
 have f:=uD w s
 have nm:("flees_nought" != "name")=true:=by decide
 have e2:∀ x:PySem.Str,oIn (.str x) (.tup [.str "even",.str "away"])=.ok (.bl (decide (↥33=x\/(PySem.Str.ofString "away")=x))):=fun x=>iY
 unfold d3 cZ
 unfold vg at *
 cases w
 ·simp_arith [Wy.s,e2]
  rfl
 ·simp_arith [Wy.s,e2]
  rfl
 ·simp only [Wy.s] at f
  simp_arith [Wy.s,e2,nm,f]
  rfl
 ·simp only [Wy.s] at f
  simp_arith [Wy.s,e2,nm,f]
  rfl
 ·simp only [Wy.s] at f
  simp_arith [Wy.s,e2,nm,f]
  rfl
theorem jN {E F s x P r:Int} (w:Wy) (h:Sz E F) (hs:0<=s/\s<=1) (hP:lo E F<=P) (hP2:P<=10000000) (hx:0<=x) :
  dM [.tup [.int E,.int F],.str w.s,.int s,.int x,.int P,.int r]=.ok (.tup [.int (s*pw ↥4+stK w E F s (codeOf E F P x) r),.int (stF w E F s (codeOf E F P x) r)]):=by
 obtain ⟨h1,h2,h3,h4⟩:=id h
 have l:=bX h
 have n1:nb (P - lo E F)<=64:=il ⋯ ⋯
 have c0:0<=codeOf E F P x:=by
  have:=Int.mul_nonneg (show 0<=P - lo E F by omega) (Int.le_of_lt (af F))
  unfold codeOf;omega
 have ec:(P - lo E F)*pw F+x=codeOf E F P x:=rfl
 have mb:fc "Way" "bursts" (vg w)=true:=rfl
 have mg:fc "Way" "grows" (vg w)=true:=rfl
 have vw:∀ (a b c d e f:Option D) (l:Dt),var 6 (a::b::c::d::e::f::some (vg w)::l)=.ok (vg w):=fun _ _ _ _ _ _ _=>rfl
 unfold dM jd stF stK
 by_cases g:pw ↥4 - pw F<=codeOf E F P x
 ·cases gb:w.brs s
  ·simp_arith [a8 w,jb h,aZ (i:=P - lo E F) (j:=F) ⋯ ⋯,ec,bb h,end_is h,g,vw,mb,qH w s,gb,bV h hs]
  ·simp_arith [a8 w,jb h,aZ (i:=P - lo E F) (j:=F) ⋯ ⋯,ec,bb h,end_is h,g,vw,mb,qH w s,gb,bV h hs]
 ·by_cases gr:r=0
  ·simp_arith [a8 w,jb h,aZ (i:=P - lo E F) (j:=F) ⋯ ⋯,ec,bb h,end_is h,g,eq_true gr,bV h hs]
  ·cases gg:w.grw s (decide (codeOf E F P x%2=1)) r
   ·simp_arith [a8 w,jb h,aZ (i:=P - lo E F) (j:=F) ⋯ ⋯,ec,bb h,end_is h,g,gr,vw,mg,qm c0,ux w s r _ gr,gg,bV h hs,yA h]
   ·simp_arith [a8 w,jb h,aZ (i:=P - lo E F) (j:=F) ⋯ ⋯,ec,bb h,end_is h,g,gr,vw,mg,qm c0,ux w s r _ gr,gg,bV h hs,yA h]
theorem vy {E F s t n:Int} (w:Wy) (h:Sz E F) (hs:0<=s/\s<=1) (ht:0<t) (hn:0<n) (h1:nb t<=1000000) (h2:nb n<=1000000) :
  bo [.tup [.int E,.int F],.str w.s,.int s,.int t,.int n]=.ok (.tup [.int (s*pw ↥4+stK w E F s (codeOf E F ↥24 (de ↥24 t / cM ↥24 n)) (rst (de ↥24 t%cM ↥24 n) (cM ↥24 n))),.int (stF w E F s (codeOf E F ↥24 (de ↥24 t / cM ↥24 n)) (rst (de ↥24 t%cM ↥24 n) (cM ↥24 n)))]):=by
 obtain ⟨s1,s2,s3,s4⟩:=pk h ht hn
 unfold bo gw
 simp_arith [a8 w,JL h ht hn h1 h2,jN w h hs s1 ⋯ (Int.ediv_nonneg (pv (p:=nu E F t n) (Int.le_of_lt ht)) (Int.le_of_lt (ig (p:=nu E F t n) hn)))]
theorem qc {E F s n:Int} (w:Wy) (h:Sz E F) (hs:0<=s/\s<=1) (hn:0<n):bo [.tup [.int E,.int F],.str w.s,.int s,.int 0,.int n]=.ok (.tup [.int (s*pw ↥4),.int 0]):=by
 have l:=bX h
 have h5:=aW h
 have hQ:=af F
 have e0:codeOf E F (lo E F) 0=0:=by unfold codeOf;rw [Int.sub_self,Int.zero_mul];rfl
 have e:=jN (s:=s) (x:=0) (P:=lo E F) (r:=0) w h hs (Int.le_refl _) ⋯ (Int.le_refl 0)
 rw [e0,show stK w E F s 0 0=0 by unfold stK;rw [if_neg ⋯,if_pos rfl],show stF w E F s 0 0=0 by unfold stF;rw [if_neg ⋯,if_pos rfl],Int.add_zero] at e
 unfold bo gw
 simp_arith [a8 w,BU h hn,e]
theorem vz {E F t n:Int} (h:Sz E F) (ht:0<=t) (hn:0<n) (n1:nb t<=1000000) (n2:nb n<=1000000) :
  ∃ c r,(∀ (w:Wy) (s:Int),0<=s/\s<=1->bo [.tup [.int E,.int F],.str w.s,.int s,.int t,.int n]=.ok (.tup [.int (s*pw ↥4+stK w E F s c r),.int (stF w E F s c r)]))/\0<=c/\vl F c*n<=t*pw ↥30/\t*pw ↥30<vl F (c+1)*n/\mv F (t*pw ↥30) n c r:=by
 have l:=bX h
 have h5:=aW h
 have hQ:=af F
 by_cases g:t=0
 ·subst g
  refine ⟨0,0,fun w s hs => ?_,Int.le_refl 0,?_,?_,.inl ⟨rfl,?_⟩⟩
  ·rw [qc w h hs hn,show stK w E F s 0 0=0 by unfold stK;rw [if_neg ⋯,if_pos rfl],show stF w E F s 0 0=0 by unfold stF;rw [if_neg ⋯,if_pos rfl],Int.add_zero]
  ·rw [jJ,Int.zero_mul,Int.zero_mul];exact Int.le_refl 0
  ·rw [Int.zero_mul]
   have:=fq (F:=F) (c:=0) (c':=0+1) (Int.le_refl 0) ↥1
   rw [jJ] at this
   exact Int.mul_pos this hn
  ·rw [jJ,Int.zero_mul,Int.zero_mul]
 have ht':0<t:=⋯
 obtain ⟨s1,s2,s3,s4⟩:=pk h ht' hn
 have hB:=ig (p:=nu E F t n) hn
 have hA:=pv (p:=nu E F t n) ht
 have w0:0<=de ↥24 t / cM ↥24 n:=Int.ediv_nonneg hA (Int.le_of_lt hB)
 have w1:de ↥24 t / cM ↥24 n<2*pw F:=Int.ediv_lt_of_lt_mul hB s3
 have w2:lo E F<nu E F t n->pw F<=de ↥24 t / cM ↥24 n:=fun q=>Int.le_ediv_of_mul_le hB (s4 q)
 have l0:=Int.emod_nonneg (de ↥24 t) (show cM ↥24 n≠0 by omega)
 have l1:=Int.emod_lt_of_pos (de ↥24 t) hB
 have b:=between h hn s1 w0 w1 w2 l0 l1 (Int.ediv_mul_add_emod _ _).symm
 have c0:=(jo h s1 w0 w1 w2).1
 exact ⟨_,_,fun w s hs=>vy w h hs ht' hn n1 n2,c0,b.1,b.2.1,By b l0⟩
theorem lC {E F t n:Int} (h:Sz E F) (ht:0<=t) (hn:0<n) (n1:nb t<=1000000) (n2:nb n<=1000000) :
  ∃ c r,(∀ (w:Wy) (s:Int),0<=s/\s<=1->bo [.tup [.int E,.int F],.str w.s,.int s,.int t,.int n]=.ok (.tup [.int (s*pw ↥4+stK w E F s c r),.int (stF w E F s c r)]))/\At F (t*pw ↥30) n c r:=by
 obtain ⟨c,r,e,x⟩:=vz h ht hn n1 n2
 exact ⟨c,r,e,x⟩
theorem bL {E F:Int} (h:Sz E F):aD [.tup [.int E,.int F]]=.ok (.int ((pw E - 1)*pw F+pw (F - 1))):=by
 obtain ⟨h1,h2,h3,h4⟩:=id h
 unfold aD fL
 simp_arith [bb h,jV (k:=F - 1) ⋯ ⋯]
theorem lS {E F s c:Int} (h:Sz E F) (hs:0<=s/\s<=1) (c0:0<=c) (c1:c<pw ↥4):a9 [.tup [.int E,.int F],.int ↥16]=.ok (.str (kindS E ↥15 (c%pw F))):=by
 obtain ⟨b1,b2,b3,b4⟩:=aB h hs c0 c1
 have:=oU h b1
 rw [b3,b4] at this
 exact this
theorem lI {E F s c:Int} (h:Sz E F) (hs:0<=s/\s<=1) (c0:0<=c) (c1:c<pw ↥4):aR [.tup [.int E,.int F],.int ↥16]=.ok (.tup [.int s,.int ↥15,.int (c%pw F)]):=by
 obtain ⟨b1,b2,b3,b4⟩:=aB h hs c0 c1
 have:=dJ h b1
 rw [b2,b3,b4] at this
 exact this
theorem iH {E F s c:Int} (h:Sz E F) (hs:0<=s/\s<=1) (c0:0<=c) (c1:c<pw ↥4 - pw F):bw [.tup [.int E,.int F],.int ↥16]=.ok (.tup [.int s,.int (frT (wh F ↥15 (c%pw F)) (po E F ↥15)),.int (frB (po E F ↥15))]):=by
 have hQ:=af F
 obtain ⟨b1,b2,b3,b4⟩:=aB (c:=c) h hs c0 ⋯
 have:=lW h b1 (by rw [b3];intro z;have:=(kQ h c0 ⋯).mp z;omega)
 rw [b2,b3,b4] at this
 exact this
theorem jZ {E F E' F' s c:Int} (w:Wy) (h:Sz E F) (h':Sz E' F') (hs:0<=s/\s<=1) (c0:pw ↥4 - pw F<c) (c1:c<pw ↥4):aX [.tup [.int E,.int F],.tup [.int E',.int F'],.str w.s,.int ↥16]=.ok (.tup [.int (pw (E'+F') - pw F'+pw (F' - 1)),.int 0]):=by
 have h5:=aW h
 have hQ:=af F
 have k:=(cY (c:=c) h ⋯ c1).1 c0
 have e:=lS (c:=c) h hs ⋯ c1
 rw [k] at e
 have e2:=bL h'
 rw [end_is h'] at e2
 unfold aX fe
 simp_arith [a8 w,e,e2]
theorem l5 {E F E' F' s c:Int} (w:Wy) (h:Sz E F) (h':Sz E' F') (hs:0<=s/\s<=1) (c0:c=pw ↥4 - pw F):aX [.tup [.int E,.int F],.tup [.int E',.int F'],.str w.s,.int ↥16]=.ok (.tup [.int (s*pw (E'+F')+(pw (E'+F') - pw F')),.int 0]):=by
 have h5:=aW h
 have hQ:=af F
 have k:=(cY (c:=c) h ⋯ ⋯).2.1 c0
 have e:=lS (c:=c) h hs ⋯ ⋯
 rw [k] at e
 unfold aX fe
 simp_arith [a8 w,e,bb h',end_is h',lI (c:=c) h hs ⋯ ⋯,bV (c:=pw (E'+F') - pw F') h' hs]
theorem tj {E F E' F' s c:Int} {x:D} (w:Wy) (h:Sz E F) (hs:0<=s/\s<=1) (c0:0<=c) (c1:c<pw ↥4 - pw F) (ex:bo [.tup [.int E',.int F'],.str w.s,.int s,.int (frT (wh F ↥15 (c%pw F)) (po E F ↥15)),.int (frB (po E F ↥15))]=.ok x):aX [.tup [.int E,.int F],.tup [.int E',.int F'],.str w.s,.int ↥16]=.ok x:=by
 have hQ:=af F
 have k:kindS E ↥15 (c%pw F)≠PySem.Str.ofString "none"/\kindS E ↥15 (c%pw F)≠PySem.Str.ofString "endless":=by
  have z:=cY (c:=c) h c0 ⋯
  by_cases g:c=0
  ·rw [z.2.2.1 g];decide
  ·rcases z.2.2.2 ⋯ c1 with y | y<;>rw [y]<;>decide
 have e:=lS (c:=c) h hs c0 ⋯
 generalize kindS E ↥15 (c%pw F)=K at *
 unfold aX fe
 simp_arith [a8 w,e,k.1,k.2,iH h hs c0 c1,ex]
theorem jT {E F E' F' c:Int} (h:Sz E F) (h':Sz E' F') (c0:0<=c) (c1:c<pw ↥4 - pw F) :
  ∃ c' r,(∀ (w:Wy) (s:Int),0<=s/\s<=1->aX [.tup [.int E,.int F],.tup [.int E',.int F'],.str w.s,.int ↥16]=.ok (.tup [.int (s*pw (E'+F')+stK w E' F' s c' r),.int (stF w E' F' s c' r)]))/\At F' (vl F c*pw (-(lo E' F'))) (pw ↥30) c' r:=by
 obtain ⟨f1,f2,f3,f4⟩:=lY h c0 c1
 obtain ⟨c',r,e,a⟩:=lC h' f1 f2 (Nat.le_trans f3 ↥1) (Nat.le_trans f4 ↥1)
 exact ⟨c',r,fun w s hs=>tj w h hs c0 c1 (e w s hs),mf f2 (af _) (Bq h c0) a⟩
theorem qD {E F E' F' s c d:Int} (w:Wy) (h:Sz E F) (h':Sz E' F') (hs:0<=s/\s<=1) (hl:lo E' F'<=lo E F) (c0:0<=c) (c1:c<pw ↥4 - pw F) (d0:0<=d) (d1:d<pw (E'+F') - pw F') (e:vl F' d=vl F c*pw (lo E F - lo E' F')) :
  aX [.tup [.int E,.int F],.tup [.int E',.int F'],.str w.s,.int ↥16]=.ok (.tup [.int (s*pw (E'+F')+d),.int 0])/\aX [.tup [.int E',.int F'],.tup [.int E,.int F],.str w.s,.int (s*pw (E'+F')+d)]=.ok (.tup [.int ↥16,.int 0]):=by
 have l1:=bX h
 have l2:=bX h'
 have key:vl F c*pw (-(lo E' F'))=vl F' d*pw ↥30:=by
  rw [e,Int.mul_assoc,<-au ⋯ ⋯,show lo E F - lo E' F' + -lo E F = -lo E' F' by omega]
 constructor
 ·obtain ⟨c',r,f,a⟩:=jT h h' c0 c1
  obtain ⟨e1,e2⟩:=fO (af _) a (ij (af _) d0 key)
  subst e1 e2
  rw [f w s hs,(bU d1).1,(bU d1).2]
 ·obtain ⟨c',r,f,a⟩:=jT h' h d0 d1
  obtain ⟨e1,e2⟩:=fO (af _) a (ij (af _) c0 key.symm)
  subst e1 e2
  rw [f w s hs,(bU c1).1,(bU c1).2]
theorem ik {E F B:Int} {z b:D} {K:PySem.Str} (ek:a9 [z,b]=.ok (.str K)) (hz:z=.tup [.int E,.int F]) (hb:b=.int B):ba [z,.lst [b]]=.ok (.bl (decide (K=PySem.Str.ofString "none"))):=by
 subst hz hb
 have st:stC (con ↥36) (call a9 [var 1,var 0]) [0] [some ↥27,some (.lst [.int B]),none] (.int B)=.ok (some (.str K)):=by
  unfold stC inC
  simp_arith [List.getD_cons_zero,ek]
  unfold mC
  simp_arith []
 have rc:runC (stC (con ↥36) (call a9 [var 1,var 0]) [0] [some ↥27,some (.lst [.int B]),none]) [.int B]=.ok [.str K]:=by
  rw [uc (f:=fun _=>.str K) (fun d hd=>by
   rw [List.mem_singleton] at hd
   rw [hd]
   exact st)]
  rfl
 have fr:eI [.str K]=.ok (.lst [.str K]):=rfl
 have i1:oIn (.str (PySem.Str.ofString "none")) (.lst [.str K])=.ok (.bl (decide (K=PySem.Str.ofString "none"))):=by
  unfold oIn isIn
  simp only [List.all_cons,List.all_nil,D.sc,Bool.and_self,if_true,List.any_cons,List.any_nil,D.beq,Bool.or_false]
  by_cases g:K=PySem.Str.ofString "none"
  ·rw [g];simp
  ·simp [g]
 have pb:∀ (a c:Option D) (ds:List D),pub 2 [a,c,some (.own ds)]=[a,c,some (.lst ds)]:=fun _ _ _=>rfl
 unfold ba dI
 simp_arith [rc,fr,i1,eH,zP,Cv,pb,view]
theorem wg {E F B B':Int} {K K':PySem.Str} (ek:a9 [.tup [.int E,.int F],.int B]=.ok (.str K)) (ek':a9 [.tup [.int E,.int F],.int B']=.ok (.str K')) :
  ba [.tup [.int E,.int F],.lst [.int B,.int B']]=.ok (.bl (decide (K=PySem.Str.ofString "none"\/K'=PySem.Str.ofString "none"))):=by
 have st:stC (con ↥36) (call a9 [var 1,var 0]) [0] [some ↥27,some (.lst [.int B,.int B']),none] (.int B)=.ok (some (.str K)):=by
  unfold stC inC
  simp_arith [List.getD_cons_zero,ek]
  unfold mC
  simp_arith []
 have st':stC (con ↥36) (call a9 [var 1,var 0]) [0] [some ↥27,some (.lst [.int B,.int B']),none] (.int B')=.ok (some (.str K')):=by
  unfold stC inC
  simp_arith [List.getD_cons_zero,ek']
  unfold mC
  simp_arith []
 have rc:runC (stC (con ↥36) (call a9 [var 1,var 0]) [0] [some ↥27,some (.lst [.int B,.int B']),none]) [.int B,.int B']=.ok [.str K,.str K']:=by
  simp only [runC,st,st',R.bind]
 have fr:eI [.str K,.str K']=.ok (.lst [.str K,.str K']):=rfl
 have i1:oIn (.str (PySem.Str.ofString "none")) (.lst [.str K,.str K'])=.ok (.bl (decide (K=PySem.Str.ofString "none"\/K'=PySem.Str.ofString "none"))):=by
  unfold oIn isIn
  simp only [List.all_cons,List.all_nil,D.sc,Bool.and_self,if_true,List.any_cons,List.any_nil,D.beq,Bool.or_false]
  by_cases g:K=PySem.Str.ofString "none"<;>by_cases g':K'=PySem.Str.ofString "none"<;>simp [g,g']
 have pb:∀ (a c:Option D) (ds:List D),pub 2 [a,c,some (.own ds)]=[a,c,some (.lst ds)]:=fun _ _ _=>rfl
 unfold ba dI
 simp_arith [rc,fr,i1,eH,zP,Cv,pb,view]
theorem tP {E F:Int} {bs:List Int} {f:Int->PySem.Str} (hl:bs.length<=1000) (hf:∀ b∈bs,a9 [.tup [.int E,.int F],.int b]=.ok (.str (f b))) :
  ba [.tup [.int E,.int F],.lst (bs.map .int)]=.ok (.bl (decide (PySem.Str.ofString "none"∈bs.map f))):=by
 have st:∀ b∈bs,stC (con ↥36) (call a9 [var 1,var 0]) [0] [some ↥27,some (.lst (bs.map .int)),none] (.int b)=.ok (some (.str (f b))):=fun b hb=>by
  unfold stC inC
  simp_arith [List.getD_cons_zero,hf b hb]
  unfold mC
  simp_arith []
 have rc:∀ (l:List Int),(∀ b∈l,b∈bs)->runC (stC (con ↥36) (call a9 [var 1,var 0]) [0] [some ↥27,some (.lst (bs.map .int)),none]) (l.map .int)=.ok ((l.map f).map D.str):=fun l=>by
  induction l with
  | nil=>exact fun _=>rfl
  | cons b r ih =>
   intro h
   rw [List.map_cons]
   unfold runC
   rw [st b (h b (.head _)),ih fun x hx=>h x (.tail _ hx)]
   rfl
 have fr:∀ l:List PySem.Str,D.flats (l.map D.str)=true:=fun l=>by
  induction l with
  | nil=>rfl
  | cons a r ih =>
   rw [List.map_cons]
   show (D.flat (.str a)&&D.flats (r.map D.str))=true
   rw [ih]
   rfl
 have fr':eI ((bs.map f).map D.str)=.ok (.lst ((bs.map f).map D.str)):=by unfold eI;rw [if_pos (fr _)]
 have i1:oIn (.str (PySem.Str.ofString "none")) (.lst ((bs.map f).map D.str))=.ok (.bl (decide (PySem.Str.ofString "none"∈bs.map f))):=by
  have sc:∀ l:List PySem.Str,(l.map D.str).all D.sc=true:=fun l=>by
   induction l with
   | nil=>rfl
   | cons a r ih=>rw [List.map_cons,List.all_cons,ih];rfl
  have an:∀ l:List PySem.Str,((l.map D.str).any fun y=>D.beq y (.str (PySem.Str.ofString "none")))=decide (PySem.Str.ofString "none"∈l):=fun l=>by
   induction l with
   | nil=>rfl
   | cons a r ih =>
    rw [List.map_cons,List.any_cons,ih]
    show (decide (a=PySem.Str.ofString "none")||_)=_
    by_cases g:a=PySem.Str.ofString "none"
    ·rw [g];simp
    ·by_cases g':PySem.Str.ofString "none"∈r
     ·simp [g,g']
     ·simp [g,g',Ne.symm g,eq_comm]
  unfold oIn isIn
  simp only [D.sc,sc,Bool.and_self,if_true,an]
 have pb:∀ (a c:Option D) (ds:List D),pub 2 [a,c,some (.own ds)]=[a,c,some (.lst ds)]:=fun _ _ _=>rfl
 unfold ba dI
 simp_arith [List.length_map,show bs.length<=100000 by omega,rc bs (fun _ h=>h),fr',i1,eH,zP,Cv,pb,view]
theorem IU {n r:Int} (hn:0<=n) (hr:0<r) (hs:n<r*r):0<=(r+n / r) / 2/\(r+n / r) / 2<r/\n<((r+n / r) / 2+1)*((r+n / r) / 2+1):=by
 have q0:0<=n / r:=Int.ediv_nonneg hn ⋯
 have q1:n / r<r:=Int.ediv_lt_of_lt_mul hr hs
 have q2:n<(n / r+1)*r:=by
  have:=Int.lt_ediv_add_one_mul_self n hr
  exact this
 generalize n / r=q at *
 refine ⟨⋯,⋯,?_⟩
 have e:r+q+1<=2*((r+q) / 2+1):=⋯
 generalize (r+q) / 2+1=t at *
 have h4:(r+q+1)*(r+q+1)<=(2*t)*(2*t):=Int.mul_le_mul e e ⋯ ⋯
 have h5:4*((q+1)*r)<=(r+q+1)*(r+q+1):=by
  have h6:0<=(r - (q+1))*(r - (q+1)):=by
   rcases Int.le_total 0 (r - (q+1)) with z | z
   ·exact Int.mul_nonneg z z
   ·exact Int.mul_nonneg_of_nonpos_of_nonpos z z
  have e1:(r - (q+1))*(r - (q+1))=r*r - 2*((q+1)*r)+(q+1)*(q+1):=by
   simp only [Int.sub_mul,Int.mul_sub,Int.add_mul,Int.mul_add,Int.one_mul,Int.mul_one,Int.mul_comm r q];omega
  have e2:(r+q+1)*(r+q+1)=r*r+2*((q+1)*r)+(q+1)*(q+1):=by
   simp only [Int.add_mul,Int.mul_add,Int.one_mul,Int.mul_one,Int.mul_comm r q];omega
  rw [e1] at h6
  rw [e2]
  omega
 have h7:(2*t)*(2*t)=4*(t*t):=by
  rw [Int.mul_assoc,Int.mul_left_comm t 2 t];omega
 rw [h7] at h4
 omega
def Inv (n:Int) (δ:Dt):Prop:=∃ r,δ=[some (.int n),some (.int r)]/\0<=r/\n<(r+1)*(r+1)/\nb r<=3001
theorem nZ {n:Int} (h0:0<=n) (hb:nb n<=3000):∃ r,cV [.int n]=.ok (.int r)/\zI n r:=by
 unfold cV d6
 have hlt:¬ n<0:=⋯
 have hd:ir ((nb n:Int)+1) 2:=ir.small ↥1 ↥1
 have hsz:(nb (1:Int):Int)+((nb n:Int)+1) / 2<=134217728:=by
  have:nb (1:Int)=1:=by decide
  omega
 simp_arith [hlt,gp hd,aZ (show (0:Int)<=((nb n:Int)+1) / 2 by omega) hsz,Int.one_mul]
 have hin:Inv n [some (.int n),some (.int (pw (((nb n:Int)+1) / 2)))]:=by
  refine ⟨_,rfl,Int.le_of_lt (af _),?_,Nat.le_trans (eV (c:=3000) ⋯) ↥1⟩
  have h1:=jR h0
  have h2:pw (nb n)<=pw (((nb n:Int)+1) / 2+((nb n:Int)+1) / 2):=ay ⋯
  rw [au ⋯ ⋯] at h2
  have h3:=af (((nb n:Int)+1) / 2)
  generalize pw (((nb n:Int)+1) / 2)=z at *
  have e:(z+1)*(z+1)=z*z+2*z+1:=by
   simp only [Int.add_mul,Int.mul_add,Int.one_mul,Int.mul_one];omega
  rw [e]
  omega
 obtain ⟨δ',e1,⟨r,rfl,r0,r1,r2⟩,e3⟩:=tV (c:=bin oGt (bin fk (var 1) (var 1)) (var 0)) (b:=assign 1 (bin oDiv (bin bF (var 1) (bin oDiv (var 0) (var 1))) ⇑2)) (Inv n) (fun δ=>match δ with | [_,some (.int r)]=>r.toNat | _=>0) (fun δ ⟨r,e,r0,r1,r2⟩=>by
  subst e
  have hm:MulOk r r:=MulOk.of r2 r2 ↥1
  simp_arith [ax hm]
  by_cases hc:n<r*r
  ·have hr:0<r:=by
    rcases Int.lt_or_eq_of_le r0 with z | z
    ·exact z
    ·rw [<- z] at hc;omega
   obtain ⟨n1,n2,n3⟩:=IU h0 hr hc
   refine .inr ⟨by simp [hc],?_⟩
   simp_arith [gp (ir.small (i:=n) hr (Nat.le_trans r2 ↥1)),gp (ir.small (i:=r+n / r) (j:=2) ↥1 ↥1)]
   refine ⟨_,rfl,⟨_,rfl,n1,n3,Nat.le_trans (fH ⋯) r2⟩,?_⟩
   show ((r+n / r) / 2).toNat<r.toNat
   omega
  ·exact .inl (by simp [hc])) _ hin
 refine ⟨r,?_,r0,?_,r1⟩
 ·simp_arith [e1]
 ·have hm:MulOk r r:=MulOk.of r2 r2 ↥1
  revert e3
  simp_arith [ax hm]
  intro e3
  have:¬ n<r*r:=by simpa using e3
  omega
theorem qd {A B r:Int} (hA:nb A<=50000000) (hB:nb B<=50000000) (hr:nb r<=1000):dN [.int A,.int B,.int r]=.ok (.int (Gw r A B)):=by
 have n1:nb (2*r)<=1002:=by walk_at "nbk"
 have n2:nb (2*r+1)<=1003:=by walk_at "nbk"
 have n3:nb ((2*r+1)*(2*r+1))<=2006:=by walk_at "nbk"
 have n4:nb (r*r)<=2000:=by walk_at "nbk"
 have m1:MulOk 2 r:=by walk_at "mul"
 have m2:MulOk (2*r+1) (2*r+1):=by walk_at "mul"
 have m3:MulOk ((2*r+1)*(2*r+1)) B:=by walk_at "mul"
 have m4:MulOk r r:=by walk_at "mul"
 have m5:MulOk (r*r) B:=by walk_at "mul"
 have m6:MulOk 4 A:=by walk_at "mul"
 have e:(A - r*r*B=0)=(r*r*B=A):=by apply propext;omega
 unfold dN fK Gw
 simp_arith [ax m1,ax m2,ax m3,ax m4,ax m5,ax m6,lE,e]
theorem Eo {E F t n:Int} (h:Sz E F) (ht:0<t) (hn:0<n) (h1:nb t<=1000000) (h2:nb n<=1000000) :
  ∃ r,eO [.tup [.int E,.int F],.int t,.int n]=.ok (.tup [.int r,.int (bW E F t n),.int (Gw r (de ↥11 t) (cM ↥11 n))])/\zI (de ↥11 t / cM ↥11 n) r:=by
 obtain ⟨s1,s2,s3,s4⟩:=lD h ht hn
 have l:=bX h
 have hg:=yL ht hn
 have hB:=ig (p:=2*bW E F t n) hn
 have hA:=pv (p:=2*bW E F t n) (Int.le_of_lt ht)
 have q1:nb (2*pw F)<=2+113:=dP ↥1 (eV (c:=112) h.2.2.2)
 have q2:=dP q1 q1
 have d:=Fo hA hB q2 ↥1 s3
 have eP:max (lo E F) ((hgt t n+1) / 2 - F - 1)=bW E F t n:=rfl
 have nB:nb (cM ↥11 n)<=4000000:=by
  have:=dP h2 (eV (k:=2*bW E F t n) (c:=2000000) ⋯)
  unfold cM;omega
 have nA:nb (de ↥11 t)<=4000000:=by
  have:=dP h1 (eV (k := -↥11) (c:=2000000) ⋯)
  unfold de;omega
 have nP:nb (bW E F t n)<=64:=by
  refine kD.mpr ?_
  have:(2:Nat)^64=18446744073709551616:=by decide
  omega
 have m2:MulOk 2 (bW E F t n):=by walk_at "mul"
 have x0:0<=de ↥11 t / cM ↥11 n:=Int.ediv_nonneg hA (Int.le_of_lt hB)
 have x1:de ↥11 t / cM ↥11 n<2*pw F*(2*pw F):=Int.ediv_lt_of_lt_mul hB s3
 have x2:nb (de ↥11 t / cM ↥11 n)<=230:=Nat.le_trans (fH ⋯) q2
 obtain ⟨r,er,hr⟩:=nZ x0 (Nat.le_trans x2 ↥1)
 have nr:nb r<=1000:=by
  obtain ⟨r0,r1,r2⟩:=hr
  have:nb r<=nb (de ↥11 t / cM ↥11 n):=fH (by
   have:r<=r*r:=by
    rcases Int.lt_or_eq_of_le r0 with z | z
    ·have:=Int.mul_le_mul_of_nonneg_left (show 1<=r by omega) r0
     omega
    ·rw [<- z];decide
   omega)
  omega
 refine ⟨r,?_,hr⟩
 unfold eO hX
 simp_arith [pB (Int.le_of_lt ht) hn,show ¬ t=0 by omega,jb h,qw h1 h2,eP,ax m2,iL (t:=t) (n:=n) (p:=2*bW E F t n) ⋯ ⋯ ⋯ ⋯,gp d,er,qd (A:=de ↥11 t) (B:=cM ↥11 n) (r:=r) ⋯ ⋯ nr]
theorem iU {E F s c:Int} (h:Sz E F) (hs:0<=s/\s<=1) (c0:0<=c) (c1:c<pw ↥4):a9 [.tup [.int E,.int F],.int ↥16]=.ok (.str (kindS E ↥15 (c%pw F))):=by
 obtain ⟨b1,b2,b3,b4⟩:=aB h hs c0 c1
 have:=oU h b1
 rw [b3,b4] at this
 exact this
theorem rZ {E F s c:Int} (w:Wy) (h:Sz E F) (hs:0<=s/\s<=1) (c0:pw ↥4 - pw F<c) (c1:c<pw ↥4):bE [.tup [.int E,.int F],.str w.s,.int ↥16]=.ok (.tup [.int (pw ↥4 - pw F+pw (F - 1)),.int 0]):=by
 have h5:=aW h
 have hQ:=af F
 have k:=(cY (c:=c) h ⋯ c1).1 c0
 have e:=ik (iU (c:=c) h hs ⋯ c1) rfl rfl
 rw [k,decide_eq_true rfl] at e
 have e2:=bL h
 rw [end_is h] at e2
 unfold bE fJ
 simp_arith [a8 w,e,e2]
theorem rY {E F s c:Int} (w:Wy) (h:Sz E F) (hs:0<=s/\s<=1) (hc:c=0\/(s=0/\c=pw ↥4 - pw F)):bE [.tup [.int E,.int F],.str w.s,.int ↥16]=.ok (.tup [.int ↥16,.int 0]):=by
 have h5:=aW h
 have hQ:=af F
 have kc:=cY (c:=c) h ⋯ ⋯
 have kk:=iU (c:=c) h hs ⋯ ⋯
 have e:=ik kk rfl rfl
 have ee:=bb h
 rw [end_is h] at ee
 unfold bE fJ
 rcases hc with g | ⟨g1,g2⟩
 ·rw [kc.2.2.1 g] at e kk
  rw [decide_eq_false ↥1] at e
  simp_arith [a8 w,e,kk]
 ·rw [kc.2.1 g2] at e kk
  rw [decide_eq_false ↥1] at e
  subst g1
  have q:0*pw ↥4+c=pw ↥4 - pw F:=⋯
  rw [q] at e kk ⊢
  simp_arith [a8 w,e,kk,ee]
theorem vA {E F c:Int} (w:Wy) (h:Sz E F) (c0:0<c) (c1:c<=pw ↥4 - pw F):bE [.tup [.int E,.int F],.str w.s,.int (1*pw ↥4+c)]=.ok (.tup [.int (pw ↥4 - pw F+pw (F - 1)),.int 16]):=by
 have h5:=aW h
 have hQ:=af F
 have hs:(0:Int)<=1/\(1:Int)<=1:=by decide
 have kc:=cY (c:=c) h ⋯ ⋯
 have kk:=iU (c:=c) h hs ⋯ ⋯
 have e:=ik kk rfl rfl
 have ee:=bb h
 rw [end_is h] at ee
 have e2:=bL h
 rw [end_is h] at e2
 obtain ⟨b1,b2,b3,b4⟩:=aB (c:=c) h hs ⋯ ⋯
 have pa:=dJ h b1
 rw [b2,b3,b4] at pa
 have k2:kindS E ↥15 (c%pw F)≠PySem.Str.ofString "none"/\kindS E ↥15 (c%pw F)≠PySem.Str.ofString "nought":=by
  by_cases g:c=pw ↥4 - pw F
  ·rw [kc.2.1 g];decide
  ·rcases kc.2.2.2 c0 ⋯ with y | y<;>rw [y]<;>decide
 rw [decide_eq_false k2.1] at e
 generalize kindS E ↥15 (c%pw F)=K at *
 unfold bE fJ
 simp_arith [a8 w,e,kk,k2.2,ee,show ¬ 1*pw ↥4+c=pw ↥4 - pw F by omega,pa,e2]
theorem xx {E F c:Int} (w:Wy) (h:Sz E F) (c0:0<c) (c1:c<pw ↥4 - pw F):∃ d r,bE [.tup [.int E,.int F],.str w.s,.int (0*pw ↥4+c)]=.ok (.tup [.int (0*pw ↥4+stK w E F 0 d r),.int (stF w E F 0 d r)])/\RAt F (vl F c*pw ↥30) d r:=by
 have h5:=aW h
 have hQ:=af F
 have l:=bX h
 have hs:(0:Int)<=0/\(0:Int)<=1:=by decide
 have kc:=cY (c:=c) h ⋯ ⋯
 have kk:=iU (c:=c) h hs ⋯ ⋯
 have e:=ik kk rfl rfl
 have ee:=bb h
 rw [end_is h] at ee
 obtain ⟨b1,b2,b3,b4⟩:=aB (c:=c) h hs ⋯ ⋯
 have pa:=dJ h b1
 rw [b2,b3,b4] at pa
 have fa:=lW h b1 (by rw [b3];intro z;have:=(kQ h ⋯ ⋯).mp z;omega)
 rw [b2,b3,b4] at fa
 have k2:kindS E ↥15 (c%pw F)≠PySem.Str.ofString "none"/\kindS E ↥15 (c%pw F)≠PySem.Str.ofString "nought":=by
  rcases kc.2.2.2 c0 c1 with y | y<;>rw [y]<;>decide
 rw [decide_eq_false k2.1] at e
 obtain ⟨f1,f2,f3,f4⟩:=lY h (Int.le_of_lt c0) c1
 have fu:=sX (w:=wh F ↥15 (c%pw F)) h (qe (E:=E) (F:=F) (Int.le_of_lt c0))
 rw [fo] at fu
 have vc:=bh (F:=F) (Int.le_of_lt c0)
 have t0:0<frT (wh F ↥15 (c%pw F)) (po E F ↥15):=by
  refine Classical.byContradiction fun q => ?_
  have z:frT (wh F ↥15 (c%pw F)) (po E F ↥15)=0:=⋯
  rw [z,Int.zero_mul] at fu
  have:=Int.mul_pos (show 0<vl F c by omega) f2
  omega
 generalize kindS E ↥15 (c%pw F)=K at *
 generalize frT (wh F ↥15 (c%pw F)) (po E F ↥15)=t at *
 generalize frB (po E F ↥15)=n at *
 obtain ⟨r,er,hr⟩:=Eo h t0 f2 (Nat.le_trans f3 ↥1) (Nat.le_trans f4 ↥1)
 obtain ⟨s1,s2,s3,s4⟩:=lD h t0 f2
 have ra:=Ep (S:=vl F c*pw ↥30) h t0 f2 (by rw [Int.mul_right_comm,<-fu,Int.mul_assoc]) hr
 have se:=jN (s:=0) (x:=r) (P:=bW E F t n) (r:=Gw r (de ↥11 t) (cM ↥11 n)) w h hs s1 ⋯ hr.1
 refine ⟨_,_,?_,ra⟩
 unfold bE fJ
 simp_arith [a8 w,e,kk,k2.2,ee,show ¬ 0*pw ↥4+c=pw ↥4 - pw F by omega,pa,fa,er,se]
theorem jK {l:List D} {p:Int}:∀ {ts:List Tm} {acc:Int} {z3 z4:Option D},(∀ t∈ts,CV t/\p<=t.2.2/\t.2.2 - p<=450000) ->
  ∃ z3' z4',forL 3 (seq (assign 4 (bin cm (bin oIx (var 3) ⇑1) (bin cN (bin oIx (var 3) ⇑2) (var 1)))) (assign 2 (ife (bin oEq (bin oIx (var 3) ⇑0) ⇑1) (bin cN (var 2) (var 4)) (bin bF (var 2) (var 4))))) (ts.map tD) [some (.lst l),some (.int p),some (.int acc),z3,z4]=.nx [some (.lst l),some (.int p),some (.int (acc+fw p ts)),z3',z4']
 | [],acc,z3,z4,_=>⟨z3,z4,by rw [List.map_nil,uB,show fw p []=0 from rfl,Int.add_zero]⟩
 | t::r,acc,z3,z4,h=>by
  obtain ⟨⟨a1,a2,a3,a4⟩,a5,a6⟩:=h t (.head _)
  have sh:=aZ (i:=t.2.1) (j:=t.2.2 - p) ⋯ ⋯
  by_cases g:t.1=1
  ·obtain ⟨z3',z4',ih⟩:=jK (l:=l) (p:=p) (ts:=r) (acc:=acc - t.2.1*pw (t.2.2 - p)) (z3:=some (tD t)) (z4:=some (.int (t.2.1*pw (t.2.2 - p)))) fun t ht=>h t (.tail _ ht)
   refine ⟨z3',z4',?_⟩
   have e:fw p (t::r) = -(t.2.1*pw (t.2.2 - p))+fw p r:=by
    show tv p t+_=_
    unfold tv
    rw [if_pos g]
   rw [e,List.map_cons,jk]
   unfold tD at ih ⊢
   simp_arith [sh,eq_true g,ih]
   rw [Int.sub_eq_add_neg,Int.add_assoc]
  ·obtain ⟨z3',z4',ih⟩:=jK (l:=l) (p:=p) (ts:=r) (acc:=acc+t.2.1*pw (t.2.2 - p)) (z3:=some (tD t)) (z4:=some (.int (t.2.1*pw (t.2.2 - p)))) fun t ht=>h t (.tail _ ht)
   refine ⟨z3',z4',?_⟩
   have e:fw p (t::r)=t.2.1*pw (t.2.2 - p)+fw p r:=by
    show tv p t+_=_
    unfold tv
    rw [if_neg g]
   rw [e,List.map_cons,jk]
   unfold tD at ih ⊢
   simp_arith [sh,g,ih]
   rw [Int.add_assoc]
theorem t4 {ts:List Tm} (hl:ts.length<=100000) (h:∀ t∈ts,CV t):lL [.lst (ts.map tD)]=.ok (.tup [.int (if fw (lP ts) ts<0 then 1 else 0),.int (if fw (lP ts) ts<0 then -(fw (lP ts) ts) else fw (lP ts) ts),.int (lP ts)]):=by
 have st:∀ δ,∀ t∈ts,stC (con ↥36) (bin oIx (var 0) ⇑2) [] δ (tD t)=.ok (some (.int t.2.2)):=fun δ t _=>by
  unfold stC inC tD
  simp_arith [List.map_nil]
  unfold mC
  simp_arith []
 have hb:=sL (ts:=ts) (a := -200000) (b:=200000) ↥1 fun t ht=>⟨(h t ht).2.2.1,(h t ht).2.2.2⟩
 obtain ⟨z3',z4',e⟩:=jK (l:=ts.map tD) (p:=lP ts) (ts:=ts) (acc:=0) (z3:=none) (z4:=none) fun t ht=>⟨h t ht,sJ ht,by have:=(h t ht).2.2.2;omega⟩
 rw [Int.zero_add] at e
 unfold lL pf
 by_cases g:fw (lP ts) ts<0
 ·simp_arith [List.length_map,hl,oA (st _),bR,yx,e,g]
 ·simp_arith [List.length_map,hl,oA (st _),bR,yx,e,g]
theorem xZ (w:Wy) (bs:List Int):cA [.str w.s,.lst (bs.map .int)]=.ok (.int (nsg w bs)):=by
 unfold cA dA nsg
 by_cases g0:(0:Int)∈bs
 ·by_cases g1:(1:Int)∈bs
  ·by_cases gd:w.s=PySem.Str.ofString "down"
   ·simp_arith [a8 w,d4,g0,g1,eq_true gd]
   ·simp_arith [a8 w,d4,g0,g1,gd]
  ·simp_arith [a8 w,d4,g0,g1]
 ·by_cases g1:(1:Int)∈bs
  ·simp_arith [a8 w,d4,g0,g1]
  ·simp_arith [a8 w,d4,g0,g1]
theorem AD {δ:Dt} {ts:List Tm}:∀ t∈ts,stC (con ↥36) ↥13 [] δ (tD t)=.ok (some (.int t.1)):=fun t _=>by
 unfold stC inC tD
 simp_arith [List.map_nil]
 unfold mC
 simp_arith []
theorem iK {E F:Int} {ts:List Tm} (w:Wy) (h:Sz E F) (hl:ts.length<=1000) (hts:∀ t∈ts,CV t) (z:fw (lP ts) ts=0) :
  aE [.tup [.int E,.int F],.str w.s,.lst (ts.map tD)]=.ok (.tup [.int (nsg w (ts.map (·.1))*pw ↥4),.int 0]):=by
 have hb:=sL (ts:=ts) (a := -200000) (b:=200000) ↥1 fun t ht=>⟨(hts t ht).2.2.1,(hts t ht).2.2.2⟩
 have to:=t4 ⋯ hts
 rw [z,if_neg ↥1,if_neg ↥1] at to
 have wf:=cO (s:=0) (w:=0) (p:=lP ts) ↥1 ⟨⋯,⋯⟩
 have f0:frT 0 (lP ts)=0:=by
  unfold frT
  split
  ·exact Int.zero_mul _
  ·rfl
 rw [f0] at wf
 have sg:=bV (c:=0) h (IS w (ts.map (·.1)))
 rw [Int.add_zero] at sg
 unfold aE bM
 simp_arith [to,wf,List.length_map,show ts.length<=100000 by omega,oA AD,bR,xZ,sg]
theorem kr {E F q:Int} {ts:List Tm} (h:Sz E F) (hl:ts.length<=1000) (hts:∀ t∈ts,CV t) (hq:q<=0) (hp:∀ t∈ts,q<=t.2.2) (z:fw q ts≠0) :
  ∃ c r,(∀ w:Wy,aE [.tup [.int E,.int F],.str w.s,.lst (ts.map tD)]=.ok (.tup [.int ((if fw q ts<0 then 1 else 0)*pw ↥4+stK w E F (if fw q ts<0 then 1 else 0) c r),.int (stF w E F (if fw q ts<0 then 1 else 0) c r)]))/\At F ((if fw q ts<0 then -(fw q ts) else fw q ts)*pw ↥30) (pw (-q)) c r:=by
 have hb:=sL (ts:=ts) (a := -200000) (b:=200000) ↥1 fun t ht=>⟨(hts t ht).2.2.1,(hts t ht).2.2.2⟩
 have to:=t4 ⋯ hts
 have es:=wY hp
 have hq':q<=lP ts:=by
  cases ts with
  | nil=>exact absurd rfl z
  | cons t r=>exact yw (by simp) hp
 have nS:=Cp (p:=lP ts) fun t ht=>⟨hts t ht,sJ ht,by have:=(hts t ht).2.2.2;omega⟩
 generalize lP ts=p at *
 have pp:=af (p - q)
 generalize hS:fw p ts=S at *
 have ez:(fw q ts<0↔S<0):=by
  rw [es]
  constructor
  ·intro g
   refine Classical.byContradiction fun g' => ?_
   have:=Int.mul_nonneg (show 0<=S by omega) (Int.le_of_lt pp)
   omega
  ·exact fun g=>Int.mul_neg_of_neg_of_pos g pp
 have ea:(if fw q ts<0 then -(fw q ts) else fw q ts)=(if S<0 then -S else S)*pw (p - q):=by
  by_cases g:S<0
  ·rw [if_pos (ez.mpr g),if_pos g,es,Int.neg_mul]
  ·rw [if_neg (fun y=>g (ez.mp y)),if_neg g,es]
 have eg:(if fw q ts<0 then (1:Int) else 0)=if S<0 then 1 else 0:=by
  by_cases g:S<0
  ·rw [if_pos (ez.mpr g),if_pos g]
  ·rw [if_neg (fun y=>g (ez.mp y)),if_neg g]
 rw [ea,eg]
 have S0:S≠0:=fun y=>z (by rw [es,y,Int.zero_mul])
 have hg:(0:Int)<=(if S<0 then 1 else 0)/\(if S<0 then (1:Int) else 0)<=1:=by split<;>decide
 have nA:nb (if S<0 then -S else S)<=460000:=by
  split
  ·rw [uo];omega
  ·omega
 have A0:0<(if S<0 then -S else S):=by split<;>omega
 generalize (if S<0 then -S else S)=A at *
 generalize (if S<0 then (1:Int) else 0)=g at *
 have wf:=cO (s:=g) (w:=A) (p:=p) ⋯ ⟨⋯,⋯⟩
 have hn:0<frB p:=by
  unfold frB
  split
  ·decide
  ·exact af _
 have ht:0<frT A p:=by
  unfold frT
  split
  ·exact Int.mul_pos A0 (af _)
  ·exact A0
 have n1:nb (frT A p)<=1000000:=by
  unfold frT
  split
  ·have:=dP nA (eV (k:=p) (c:=200000) ⋯)
   omega
  ·omega
 have n2:nb (frB p)<=1000000:=by
  unfold frB
  split
  ·decide
  ·exact Nat.le_trans (eV (c:=200000) ⋯) ↥1
 obtain ⟨c,r,e,a⟩:=lC h (Int.le_of_lt ht) hn n1 n2
 refine ⟨c,r,fun w => ?_,mf hn (af _) ?_ a⟩
 ·unfold aE bM
  simp_arith [to,wf,show ¬ frT A p=0 by omega,e w g hg]
 ·have u:=BL (w:=A) hq hq'
  have e1:A*pw (p - q)*pw ↥30*frB p=A*pw (p - q)*frB p*pw ↥30:=by ac_rfl
  have e2:frT A p*pw ↥30*pw (-q)=frT A p*pw (-q)*pw ↥30:=by ac_rfl
  rw [e1,e2,u]
theorem t7 {δ:Dt} (x:Tm ⊕ Int):stC (un sF ↥5) ↥13 [] δ (xD x)=.ok (match x with | .inl _=>none | .inr s=>some (.int s)):=by
 cases x with
 | inl t =>
  unfold stC inC xD tD
  simp_arith [List.map_nil]
  unfold mC
  simp_arith []
 | inr s =>
  unfold stC inC xD
  simp_arith [List.map_nil]
  unfold mC
  simp_arith []
theorem jM {E F:Int} {ts:List Tm} (w:Wy) (hl:ts.length<=1000):aP [.tup [.int E,.int F],.str w.s,.lst (ts.map tD)]=aE [.tup [.int E,.int F],.str w.s,.lst (ts.map tD)]:=by
 have rc:∀ δ,runC (stC (un sF ↥5) ↥13 [] δ) (ts.map tD)=.ok []:=fun δ=>by
  rw [lB (o:=fun _=>none) fun d hd=>by
   obtain ⟨t,_,rfl⟩:=List.mem_map.mp hd
   exact t7 (.inl t)]
  rw [List.filterMap_eq_nil_iff.mpr fun _ _=>rfl]
 have fr:eI []=.ok (.lst []):=rfl
 have pb:∀ (a b c:Option D) (ds:List D),pub 3 [a,b,c,some (.own ds)]=[a,b,c,some (.lst ds)]:=fun _ _ _ _=>rfl
 have i0:∀ x:Int,oIn (.int x) (.lst [])=.ok (.bl false):=fun _=>rfl
 unfold aP bN
 generalize hr:aE [.tup [.int E,.int F],.str w.s,.lst (ts.map tD)]=r
 cases r with
 | ok d=>simp_arith [List.length_map,show ts.length<=100000 by omega,rc,fr,pb,i0,hr]
 | ex C=>simp_arith [List.length_map,show ts.length<=100000 by omega,rc,fr,pb,i0,hr]
 | bad =>
  simp_arith [List.length_map,show ts.length<=100000 by omega,rc,fr,pb,i0,hr]
  rfl
theorem jL {E F:Int} {xs:List (Tm ⊕ Int)} (w:Wy) (h:Sz E F) (hl:xs.length<=1000) (hs:∀ s∈mD xs,0<=s/\s<=1) (hn:mD xs≠[]) :
  aP [.tup [.int E,.int F],.str w.s,.lst (xs.map xD)]=.ok (if 0∈mD xs/\1∈mD xs then .tup [.int (pw ↥4 - pw F+pw (F - 1)),.int 16] else .tup [.int ((mD xs).getD 0 0*pw ↥4+(pw ↥4 - pw F)),.int 0]):=by
 have rc:∀ δ,runC (stC (un sF ↥5) ↥13 [] δ) (xs.map xD)=.ok ((mD xs).map D.int):=fun δ=>by
  clear hs hn hl
  induction xs with
  | nil=>rfl
  | cons x r ih =>
   rw [List.map_cons]
   unfold runC
   rw [t7,ih]
   cases x<;>rfl
 have pb:∀ (a b c:Option D) (ds:List D),pub 3 [a,b,c,some (.own ds)]=[a,b,c,some (.lst ds)]:=fun _ _ _ _=>rfl
 have l1:xs.length<=100000:=⋯
 have ee:=bb h
 have e2:=bL h
 rw [end_is h] at ee e2
 generalize mD xs=es at *
 have lp:0<(es.length:Int):=by
  cases es with
  | nil=>exact absurd rfl hn
  | cons a r=>simp only [List.length_cons];omega
 have ix:=Bb (bs:=es) (k:=0) (Int.le_refl 0) lp
 have hm:es.getD (0:Int).toNat 0∈es:=by
  have lt:0<es.length:=⋯
  show es.getD 0 0∈es
  rw [List.getD_eq_getElem?_getD,List.getElem?_eq_getElem lt]
  exact List.getElem_mem lt
 have sg:=bV (c:=pw ↥4 - pw F) h (hs _ hm)
 have e0:es.getD (0:Int).toNat 0=es.getD 0 0:=rfl
 rw [e0] at ix sg
 unfold aP bN
 by_cases g:0∈es/\1∈es
 ·rw [if_pos g]
  simp_arith [List.length_map,l1,rc,bR,pb,d4,eq_true g,eq_true g.1,eq_true g.2,e2]
 ·rw [if_neg g]
  by_cases g0:0∈es
  ·have g1:¬ 1∈es:=fun z=>g ⟨g0,z⟩
   simp_arith [List.length_map,l1,rc,bR,pb,d4,eq_true g0,g1,lp,ix,ee,sg]
  ·simp_arith [List.length_map,l1,rc,bR,pb,d4,g0,lp,ix,ee,sg]
theorem oN {E F s c:Int} (h:Sz E F) (hs:0<=s/\s<=1) (c0:0<=c) (c1:c<pw ↥4):a9 [.tup [.int E,.int F],.int ↥16]=.ok (.str (kindS E ↥15 (c%pw F))):=by
 obtain ⟨b1,b2,b3,b4⟩:=aB h hs c0 c1
 have:=oU h b1
 rw [b3,b4] at this
 exact this
theorem xY {E F s c:Int} (h:Sz E F) (hs:0<=s/\s<=1) (c0:0<=c) (c1:c<pw ↥4):aR [.tup [.int E,.int F],.int ↥16]=.ok (.tup [.int s,.int ↥15,.int (c%pw F)]):=by
 obtain ⟨b1,b2,b3,b4⟩:=aB h hs c0 c1
 have:=dJ h b1
 rw [b2,b3,b4] at this
 exact this
theorem lN {E F s c:Int} (h:Sz E F) (hs:0<=s/\s<=1) (c0:0<=c) (c1:c<pw ↥4 - pw F):aF [.tup [.int E,.int F],.int ↥16]=.ok (tD (wt E F s c)):=by
 have hQ:=af F
 obtain ⟨b1,b2,b3,b4⟩:=aB (c:=c) h hs c0 ⋯
 have wo:=tR h b1 (by rw [b3];intro z;have:=(kQ h c0 ⋯).mp z;omega)
 rw [b2,b3,b4] at wo
 have k:=(d5 (c:=c) h c0 ⋯).2.1
 have kk:=oN (c:=c) h hs c0 ⋯
 have g:¬ kindS E ↥15 (c%pw F)=PySem.Str.ofString "endless":=fun z=>by have:=k.mp z;omega
 unfold aF cI tD wt
 simp_arith [kk,g,wo]
theorem lO {E F s c:Int} (h:Sz E F) (hs:0<=s/\s<=1) (c0:c=pw ↥4 - pw F):aF [.tup [.int E,.int F],.int ↥16]=.ok (.tup [.int s,.non,.int 0]):=by
 have hQ:=af F
 have h5:=aW h
 have k:=(d5 (c:=c) h ⋯ ⋯).2.1
 have kk:=oN (c:=c) h hs ⋯ ⋯
 have pp:=xY (c:=c) h hs ⋯ ⋯
 unfold aF cI
 simp_arith [kk,eq_true (k.mpr c0),pp]
theorem Dj {E F:Int} {x:Int×Int} (h:Sz E F) (hx:rF E F x) (hn:x.2<=pw ↥4 - pw F):aF [.tup [.int E,.int F],.int (nI E F x)]=.ok (xD (xt E F x)):=by
 obtain ⟨a,b,c⟩:=hx
 unfold xt nI
 by_cases g:x.2=pw ↥4 - pw F
 ·rw [if_pos g]
  exact lO h a g
 ·rw [if_neg g]
  exact lN h a b ⋯
theorem lH {E F:Int} {x y:Int×Int} (h:Sz E F) (hx:rF E F x) (hy:rF E F y) (nx:x.2<=pw ↥4 - pw F) (ny:y.2<=pw ↥4 - pw F):bD [.tup [.int E,.int F],.int (nI E F x),.int (nI E F y)]=.ok (xD (pt E F x y)):=by
 have tx:=Dj h hx nx
 have ty:=Dj h hy ny
 have so:=DW hx.1 hy.1
 unfold xt at tx ty
 unfold pt
 unfold bD cU
 by_cases g:x.2=pw ↥4 - pw F
 ·rw [if_pos g] at tx
  rw [if_pos (.inl g)]
  by_cases g':y.2=pw ↥4 - pw F
  ·rw [if_pos g'] at ty
   unfold xD at *
   simp_arith [tx,ty,so]
  ·rw [if_neg g'] at ty
   unfold xD tD wt at *
   simp_arith [tx,ty,so]
 ·rw [if_neg g] at tx
  by_cases g':y.2=pw ↥4 - pw F
  ·rw [if_pos g'] at ty
   rw [if_pos (.inr g')]
   unfold xD tD wt at *
   simp_arith [tx,ty,so]
  ·rw [if_neg g'] at ty
   rw [if_neg (fun z=>z.elim g g')]
   obtain ⟨⟨_,a2,_,_⟩,_,_⟩:=wI (s:=0) h hx.2.1 (show x.2<_ by omega)
   obtain ⟨⟨_,b2,_,_⟩,_,_⟩:=wI (s:=0) h hy.2.1 (show y.2<_ by omega)
   have mu:=ax (MulOk.of (i:=wh F (x.2 / pw F) (x.2%pw F)) (j:=wh F (y.2 / pw F) (y.2%pw F)) a2 b2 ↥1)
   unfold xD tD wt pm at *
   simp_arith [tx,ty,so,mu]
theorem fR {E F:Int} {x y:Int×Int} (h:Sz E F) (hx:rF E F x) (hy:rF E F y):bg [.tup [.int E,.int F],.int (nI E F x),.int (nI E F y)]=.ok (.bl (decide ((x.2=0\/y.2=0)/\(x.2=pw ↥4 - pw F\/y.2=pw ↥4 - pw F)))):=by
 obtain ⟨kn,ke,k0⟩:=d5 (c:=x.2) h hx.2.1 hx.2.2
 obtain ⟨ln,le,l0⟩:=d5 (c:=y.2) h hy.2.1 hy.2.2
 have kk:=oN (c:=x.2) h hx.1 hx.2.1 hx.2.2
 have kl:=oN (c:=y.2) h hy.1 hy.2.1 hy.2.2
 simp only [<- ke,<-le,<-k0,<-l0]
 generalize kindS E (x.2 / pw F) (x.2%pw F)=K at *
 generalize kindS E (y.2 / pw F) (y.2%pw F)=L at *
 unfold nI bg cH
 by_cases g:K=PySem.Str.ofString "nought"\/L=PySem.Str.ofString "nought"
 ·simp_arith [kk,kl,iY,eq_true g,true_and]
 ·simp_arith [kk,kl,iY,g,false_and]
theorem oO {E F:Int} {xs:List ↥28} (h:Sz E F) (hx:∀ x∈xs,rF E F x) :
  PySem.Str.ofString "none"∈(xs.map (nI E F)).map (fun b=>kindS E (fld E F b) (fig F b))↔∃ x∈xs,pw ↥4 - pw F<x.2:=by
 rw [List.map_map,List.mem_map]
 constructor
 ·rintro ⟨x,m,e⟩
  obtain ⟨a,b,c⟩:=hx x m
  obtain ⟨b1,b2,b3,b4⟩:=aB h a b c
  refine ⟨x,m,(d5 h b c).1.mp ?_⟩
  rw [<- b3,<-b4]
  exact e
 ·rintro ⟨x,m,e⟩
  obtain ⟨a,b,c⟩:=hx x m
  obtain ⟨b1,b2,b3,b4⟩:=aB h a b c
  refine ⟨x,m,?_⟩
  have:=(d5 h b c).1.mpr e
  rw [<- b3,<-b4] at this
  exact this
theorem sI {E F:Int} {xs:List ↥28} (h:Sz E F) (hx:∀ x∈xs,rF E F x):∀ b∈xs.map (nI E F),a9 [.tup [.int E,.int F],.int b]=.ok (.str (kindS E (fld E F b) (fig F b))):=fun b hb=>by
 obtain ⟨x,m,rfl⟩:=List.mem_map.mp hb
 obtain ⟨a,b,c⟩:=hx x m
 exact oU h (aB h a b c).1
theorem rN {E F:Int} {st:D->R (Option D)} {xs:List ↥28} (hst:∀ x∈xs,st (.int (nI E F x))=.ok (some (xD (xt E F x)))):runC st ((xs.map (nI E F)).map D.int)=.ok ((xs.map (xt E F)).map xD):=by
 induction xs with
 | nil=>rfl
 | cons x r ih =>
  rw [List.map_cons,List.map_cons]
  unfold runC
  rw [hst x (.head _),ih fun x hx=>hst x (.tail _ hx)]
  rfl
theorem la {E F:Int} {a0 a1 a2 a3 a6:Option D}:∀ {ps:List (↥28×↥28)} {bs:List Int} {z5:Option D},(bs.length+2*ps.length<=100000)->∃ z5',forL 5 (jX 4 (var 5)) (ps.map (pD E F)) [a0,a1,a2,a3,some (.own (bs.map .int)),z5,a6]=.nx [a0,a1,a2,a3,some (.own ((bs++(fl ps).map (nI E F)).map .int)),z5',a6]
 | [],bs,z5,_=>⟨z5,by rw [List.map_nil,uB];show _=O.nx [a0,a1,a2,a3,some (D.own ((bs++[]).map .int)),z5,a6];rw [List.append_nil]⟩
 | p::r,bs,z5,hl=>by
  rw [List.length_cons] at hl
  obtain ⟨z5',ih⟩:=la (E:=E) (F:=F) (a0:=a0) (a1:=a1) (a2:=a2) (a3:=a3) (a6:=a6) (ps:=r) (bs:=bs++[nI E F p.1,nI E F p.2]) (z5:=some (pD E F p)) (by rw [List.length_append];simp;omega)
  refine ⟨z5',?_⟩
  have e:(bs++(fl (p::r)).map (nI E F))=bs++[nI E F p.1,nI E F p.2]++(fl r).map (nI E F):=by
   show bs++([nI E F p.1,nI E F p.2]++(fl r).map (nI E F))=_
   rw [List.append_assoc]
  rw [e,List.map_cons,jk,<-ih]
  have x:Gz 4 [a0,a1,a2,a3,some (.own (bs.map .int)),some (pD E F p),a6] (bs.map .int) (.ok (pD E F p))=.nx [a0,a1,a2,a3,some (.own ((bs++[nI E F p.1,nI E F p.2]).map .int)),some (pD E F p),a6]:=by
   unfold Gz pD
   simp only
   rw [if_pos ⟨rfl,by simp;omega⟩,List.map_append]
   rfl
  have y:jX 4 (var 5) [a0,a1,a2,a3,some (.own (bs.map .int)),some (pD E F p),a6]=.nx [a0,a1,a2,a3,some (.own ((bs++[nI E F p.1,nI E F p.2]).map .int)),some (pD E F p),a6]:=by
   rw [Aq,<-x]
   rfl
  show trn (jX 4 (var 5) [a0,a1,a2,a3,some (.own (bs.map .int)),some (pD E F p),a6]) (forL 5 (jX 4 (var 5)) (r.map (pD E F)))=_
  rw [y]
  rfl
theorem lJ {E F:Int} {st:D->R (Option D)} {f:↥28×↥28->D} {ps:List (↥28×↥28)} (hst:∀ p∈ps,st (pD E F p)=.ok (some (f p))):runC st (ps.map (pD E F))=.ok (ps.map f):=by
 induction ps with
 | nil=>rfl
 | cons p r ih =>
  rw [List.map_cons]
  unfold runC
  rw [hst p (.head _),ih fun x hx=>hst x (.tail _ hx)]
  rfl
theorem any_map {α:Type} {f:α->Bool} {ps:List α}:Gi [.lst (ps.map fun p=>.bl (f p))]=.ok (.bl (ps.any f)):=by
 have:boolsOf (ps.map fun p=>.bl (f p))=some (ps.map f):=by
  induction ps with
  | nil=>rfl
  | cons a r ih =>
   rw [List.map_cons,List.map_cons]
   show (boolsOf _).map _=_
   rw [ih]
   rfl
 unfold Gi
 simp only [this]
 rw [List.any_map]
 rfl
theorem nD {α:Type} {f:α->Bool} {ps:List α}:eI (ps.map fun p=>.bl (f p))=.ok (.lst (ps.map fun p=>.bl (f p))):=by
 unfold eI
 rw [if_pos]
 induction ps with
 | nil=>rfl
 | cons a r ih =>
  rw [List.map_cons]
  show (D.flat (.bl (f a))&&D.flats _)=true
  rw [ih]
  rfl
def wrP (E F:Int) (p:↥28×↥28):Prop:=(p.1.2=0\/p.2.2=0)/\(p.1.2=pw ↥4 - pw F\/p.2.2=pw ↥4 - pw F)
noncomputable instance (E F:Int) (p:↥28×↥28):Decidable (wrP E F p):=by unfold wrP;exact inferInstance
section
variable {E F:Int} {ps:List (↥28×↥28)} {xs:List ↥28}
theorem uy (w:Wy) (h:Sz E F) (hl:xs.length<=400) (hl2:ps.length<=300) (hx:∀ x∈xs++fl ps,rF E F x) (hn:∃ x∈xs++fl ps,pw ↥4 - pw F<x.2) :
  ar [.tup [.int E,.int F],.str w.s,.lst (ps.map (pD E F)),.lst ((xs.map (nI E F)).map .int)]=.ok (.tup [.int (pw ↥4 - pw F+pw (F - 1)),.int 0]):=by
 have fll:=uE ps
 have an:=tP (E:=E) (F:=F) (bs:=(xs++fl ps).map (nI E F)) (by rw [List.length_map,List.length_append];omega) (sI h hx)
 rw [decide_eq_true ((oO h hx).mpr hn),List.map_append] at an
 have e2:=bL h
 rw [end_is h] at e2
 have bl:qS [.lst ((xs.map (nI E F)).map D.int)]=.ok (.lst ((xs.map (nI E F)).map D.int)):=bR
 obtain ⟨z5,lo⟩:=la (E:=E) (F:=F) (a0:=some ↥27) (a1:=some (.str w.s)) (a2:=some (.lst (ps.map (pD E F)))) (a3:=some (.lst ((xs.map (nI E F)).map .int))) (a6:=none) (ps:=ps) (bs:=xs.map (nI E F)) (z5:=none) (by rw [List.length_map];omega)
 unfold ar bQ
 simp_arith [a8 w,bl,lo,List.length_map,show ps.length<=100000 by omega,an,e2]
theorem FF (w:Wy) (h:Sz E F) (hl:xs.length<=400) (hl2:ps.length<=300) (hx:∀ x∈xs++fl ps,rF E F x) (hn:∀ x∈xs++fl ps,x.2<=pw ↥4 - pw F) :
  (∃ p∈ps,wrP E F p)->ar [.tup [.int E,.int F],.str w.s,.lst (ps.map (pD E F)),.lst ((xs.map (nI E F)).map .int)]=.ok (.tup [.int (pw ↥4 - pw F+pw (F - 1)),.int 16]):=by
 intro hw
 have fll:=uE ps
 have an:=tP (E:=E) (F:=F) (bs:=(xs++fl ps).map (nI E F)) (by rw [List.length_map,List.length_append];omega) (sI h hx)
 rw [decide_eq_false (fun z=>by obtain ⟨x,m,y⟩:=(oO h hx).mp z;have:=hn x m;omega),List.map_append] at an
 have e2:=bL h
 rw [end_is h] at e2
 have bl:qS [.lst ((xs.map (nI E F)).map D.int)]=.ok (.lst ((xs.map (nI E F)).map D.int)):=bR
 obtain ⟨z5,lo⟩:=la (E:=E) (F:=F) (a0:=some ↥27) (a1:=some (.str w.s)) (a2:=some (.lst (ps.map (pD E F)))) (a3:=some (.lst ((xs.map (nI E F)).map .int))) (a6:=none) (ps:=ps) (bs:=xs.map (nI E F)) (z5:=none) (by rw [List.length_map];omega)
 have st:∀ δ:Dt,∀ p∈ps,stC (con ↥36) (call bg [var 1,bin oIx (var 0) ⇑0,bin oIx (var 0) ⇑1]) [0] (some ↥27::δ) (pD E F p)=.ok (some (.bl (decide (wrP E F p)))):=fun δ p m=>by
  have e:=fR h (hx p.1 (List.mem_append.mpr (.inr (nk.mpr ⟨p,m,.inl rfl⟩)))) (hx p.2 (List.mem_append.mpr (.inr (nk.mpr ⟨p,m,.inr rfl⟩))))
  unfold stC inC pD wrP
  simp_arith [List.getD_cons_zero,e]
  unfold mC
  simp_arith []
 have aw:ps.any (fun p=>decide (wrP E F p))=true:=by
  obtain ⟨p,m,q⟩:=hw
  exact List.any_eq_true.mpr ⟨p,m,decide_eq_true q⟩
 unfold ar bQ
 simp_arith [a8 w,bl,lo,List.length_map,show ps.length<=100000 by omega,an,e2,lJ (st _),nD,any_map,aw]
theorem qx {d:D} (w:Wy) (h:Sz E F) (hl:xs.length<=400) (hl2:ps.length<=300) (hx:∀ x∈xs++fl ps,rF E F x) (hn:∀ x∈xs++fl ps,x.2<=pw ↥4 - pw F) (hw:∀ p∈ps,¬ wrP E F p) (hd:aP [.tup [.int E,.int F],.str w.s,.lst ((ps.map (ptp E F)++xs.map (xt E F)).map xD)]=.ok d) :
  ar [.tup [.int E,.int F],.str w.s,.lst (ps.map (pD E F)),.lst ((xs.map (nI E F)).map .int)]=.ok d:=by
 have fll:=uE ps
 have an:=tP (E:=E) (F:=F) (bs:=(xs++fl ps).map (nI E F)) (by rw [List.length_map,List.length_append];omega) (sI h hx)
 rw [decide_eq_false (fun z=>by obtain ⟨x,m,y⟩:=(oO h hx).mp z;have:=hn x m;omega),List.map_append] at an
 have bl:qS [.lst ((xs.map (nI E F)).map D.int)]=.ok (.lst ((xs.map (nI E F)).map D.int)):=bR
 obtain ⟨z5,lo⟩:=la (E:=E) (F:=F) (a0:=some ↥27) (a1:=some (.str w.s)) (a2:=some (.lst (ps.map (pD E F)))) (a3:=some (.lst ((xs.map (nI E F)).map .int))) (a6:=none) (ps:=ps) (bs:=xs.map (nI E F)) (z5:=none) (by rw [List.length_map];omega)
 have mem1:∀ p∈ps,p.1∈xs++fl ps:=fun p m=>List.mem_append.mpr (.inr (nk.mpr ⟨p,m,.inl rfl⟩))
 have mem2:∀ p∈ps,p.2∈xs++fl ps:=fun p m=>List.mem_append.mpr (.inr (nk.mpr ⟨p,m,.inr rfl⟩))
 have st:∀ δ:Dt,∀ p∈ps,stC (con ↥36) (call bg [var 1,bin oIx (var 0) ⇑0,bin oIx (var 0) ⇑1]) [0] (some ↥27::δ) (pD E F p)=.ok (some (.bl (decide (wrP E F p)))):=fun δ p m=>by
  have e:=fR h (hx p.1 (mem1 p m)) (hx p.2 (mem2 p m))
  unfold stC inC pD wrP
  simp_arith [List.getD_cons_zero,e]
  unfold mC
  simp_arith []
 have aw:ps.any (fun p=>decide (wrP E F p))=false:=by
  rw [List.any_eq_false]
  exact fun p m=>by rw [decide_eq_true_iff];exact hw p m
 have st2:∀ δ:Dt,∀ p∈ps,stC (con ↥36) (call bD [var 1,bin oIx (var 0) ⇑0,bin oIx (var 0) ⇑1]) [0] (some ↥27::δ) (pD E F p)=.ok (some (xD (ptp E F p))):=fun δ p m=>by
  have e:=lH h (hx p.1 (mem1 p m)) (hx p.2 (mem2 p m)) (hn p.1 (mem1 p m)) (hn p.2 (mem2 p m))
  unfold stC inC pD ptp
  simp_arith [List.getD_cons_zero,e]
  unfold mC
  simp_arith []
 have st3:∀ δ:Dt,∀ x∈xs,stC (con ↥36) (call aF [var 1,var 0]) [0] (some ↥27::δ) (.int (nI E F x))=.ok (some (xD (xt E F x))):=fun δ x m=>by
  have e:=Dj h (hx x (List.mem_append.mpr (.inl m))) (hn x (List.mem_append.mpr (.inl m)))
  unfold stC inC
  simp_arith [List.getD_cons_zero,e]
  unfold mC
  simp_arith []
 have f1:eI (ps.map fun p=>xD (ptp E F p))=.ok (.lst (ps.map fun p=>xD (ptp E F p))):=by
  have:=tQ (xs:=ps.map (ptp E F))
  rw [List.map_map] at this
  unfold eI
  exact if_pos this
 have f2:eI ((xs.map (xt E F)).map xD)=.ok (.lst ((xs.map (xt E F)).map xD)):=by unfold eI;rw [if_pos tQ]
 have pb:∀ (a2 a3 a4 a5 a6 a7:Option D) (ds:List D),pub 6 [a2,a3,a4,a5,a6,a7,some (.own ds)]=[a2,a3,a4,a5,a6,a7,some (.lst ds)]:=fun _ _ _ _ _ _ _=>rfl
 have ad:bF (.lst (ps.map fun p=>xD (ptp E F p))) (.lst ((xs.map (xt E F)).map xD))=.ok (.lst ((ps.map (ptp E F)++xs.map (xt E F)).map xD)):=by
  rw [Bn (by simp;omega),List.map_append,List.map_map (f:=ptp E F)]
  rfl
 unfold ar bQ
 simp_arith [a8 w,bl,lo,List.length_map,show ps.length<=100000 by omega,show xs.length<=100000 by omega,an,lJ (st _),nD,any_map,aw,lJ (st2 _),f1,pb,rN (st3 _),f2,ad,hd]
theorem xa {V U X:Int} (h:Sz E F) (hl:xs.length<=400) (hl2:ps.length<=300) (hx:∀ x∈xs++fl ps,rF E F x) (hf:∀ x∈xs++fl ps,x.2<pw ↥4 - pw F) (hV:0<V) (eX:fw (2*lo E F) (fts E F ps xs)=X*V) (eU:pw (-(2*lo E F))=U*(V*pw ↥30)) (w:Wy) :
  ∃ x y,ar [.tup [.int E,.int F],.str w.s,.lst (ps.map (pD E F)),.lst ((xs.map (nI E F)).map .int)]=.ok (.tup [.int x,.int y])/\J6 w E F X U (nsg w ((fts E F ps xs).map (·.1))) x y:=by
 have hQ:=af F
 have l:=bX h
 have key:∀ d,aE [.tup [.int E,.int F],.str w.s,.lst ((fts E F ps xs).map tD)]=.ok d->ar [.tup [.int E,.int F],.str w.s,.lst (ps.map (pD E F)),.lst ((xs.map (nI E F)).map .int)]=.ok d:=fun d hd=>by
  refine qx w h hl hl2 hx (fun x m=>Int.le_of_lt (hf x m)) (fun p m z => ?_) ?_
  ·have a:=hf _ (Kc (xs:=xs) m)
   have b:=hf _ (Kb (xs:=xs) m)
   unfold wrP at z
   omega
  ·rw [Jv hf,jM w (by rw [yP];omega)]
   exact hd
 have ok:=Jw h hx hf
 have len:(fts E F ps xs).length<=1000:=by rw [yP];omega
 generalize fts E F ps xs=ts at *
 by_cases z:X=0
 ·have zz:fw (lP ts) ts=0:=by
   have:=wY (q:=2*lo E F) (ts:=ts) fun t ht=>(ok t ht).2
   rw [eX,z,Int.zero_mul] at this
   rcases Int.mul_eq_zero.mp this.symm with e | e
   ·exact e
   ·have:=af (lP ts - 2*lo E F);omega
  exact ⟨_,_,key _ (iK w h len (fun t ht=>(ok t ht).1) zz),fun _=>⟨rfl,rfl⟩,fun y=>absurd z y⟩
 ·have z':fw (2*lo E F) ts≠0:=by
   rw [eX]
   intro y
   rcases Int.mul_eq_zero.mp y with e | e
   ·exact z e
   ·omega
  obtain ⟨k,r,e,a⟩:=kr (ts:=ts) h len (fun t ht=>(ok t ht).1) (show 2*lo E F<=0 by omega) (fun t ht=>(ok t ht).2) z'
  rw [eX] at e a
  have ni:=iG (X:=X) hV
  have e1:(if X*V<0 then (1:Int) else 0)=if X<0 then 1 else 0:=by
   by_cases g:X<0
   ·rw [if_pos (ni.mpr g),if_pos g]
   ·rw [if_neg (fun y=>g (ni.mp y)),if_neg g]
  have e2:(if X*V<0 then -(X*V) else X*V)=(if X<0 then -X else X)*V:=by
   by_cases g:X<0
   ·rw [if_pos (ni.mpr g),if_pos g,Int.neg_mul]
   ·rw [if_neg (fun y=>g (ni.mp y)),if_neg g]
  rw [e1] at e
  rw [e2,eU,Int.mul_assoc] at a
  exact ⟨_,_,key _ (e w),fun y=>absurd y z,fun _=>⟨k,r,rfl,rfl,CT (Int.mul_pos hV (af _)) a⟩⟩
theorem wZ {b:Int} (w:Wy) (h:Sz E F) (hl:xs.length<=400) (hl2:ps.length<=300) (hx:∀ x∈xs++fl ps,rF E F x) (hn:∀ x∈xs++fl ps,x.2<=pw ↥4 - pw F) (hw:∀ p∈ps,¬ wrP E F p) (hs:∀ s∈mD (ps.map (ptp E F)++xs.map (xt E F)),0<=s/\s<=1) (hb:b∈mD (ps.map (ptp E F)++xs.map (xt E F))) :
  ar [.tup [.int E,.int F],.str w.s,.lst (ps.map (pD E F)),.lst ((xs.map (nI E F)).map .int)]=.ok (if 0∈mD (ps.map (ptp E F)++xs.map (xt E F))/\1∈mD (ps.map (ptp E F)++xs.map (xt E F)) then .tup [.int (pw ↥4 - pw F+pw (F - 1)),.int 16] else .tup [.int (b*pw ↥4+(pw ↥4 - pw F)),.int 0]):=by
 refine qx w h hl hl2 hx hn hw ?_
 have hne:mD (ps.map (ptp E F)++xs.map (xt E F))≠[]:=fun z=>by rw [z] at hb;cases hb
 rw [jL w h (by rw [List.length_append,List.length_map,List.length_map];omega) hs hne]
 generalize mD (ps.map (ptp E F)++xs.map (xt E F))=es at *
 by_cases g:0∈es/\1∈es
 ·rw [if_pos g,if_pos g]
 ·rw [if_neg g,if_neg g]
  have hm:es.getD 0 0∈es:=by
   cases es with
   | nil=>exact absurd rfl hne
   | cons a r=>exact .head _
  have q1:=hs _ hm
  have q2:=hs _ hb
  have:es.getD 0 0=b:=by
   rcases (by omega:es.getD 0 0=0\/es.getD 0 0=1) with u | u<;>rcases (by omega:b=0\/b=1) with v | v
   ·omega
   ·exact absurd ⟨u▸hm,v▸hb⟩ g
   ·exact absurd ⟨v▸hb,u▸hm⟩ g
   ·omega
  rw [this]
theorem JC (hx:∀ x∈xs++fl ps,rF E F x):∀ s∈mD (ps.map (ptp E F)++xs.map (xt E F)),0<=s/\s<=1:=fun s hs=>by
 unfold mD at hs
 obtain ⟨t,m,e⟩:=List.mem_filterMap.mp hs
 rcases List.mem_append.mp m with m | m
 ·obtain ⟨p,m',rfl⟩:=List.mem_map.mp m
  unfold ptp pt at e
  split at e
  ·rename_i g
   split at g
   ·cases g
   ·cases g;cases e
  ·rename_i g
   split at g
   ·cases g;cases e;exact rL
   ·cases g
 ·obtain ⟨x,m',rfl⟩:=List.mem_map.mp m
  unfold xt at e
  split at e
  ·rename_i g
   split at g
   ·cases g
   ·cases g;cases e
  ·rename_i g
   split at g
   ·cases g;cases e;exact (hx x (List.mem_append.mpr (.inl m'))).1
   ·cases g
end
theorem lg {E F s s' c c':Int} (w:Wy) (h:Sz E F) (hs:0<=s/\s<=1) (hs':0<=s'/\s'<=1) (c0:0<=c) (c1:c<pw ↥4) (d0:0<=c') (d1:c'<pw ↥4) :
  ∃ x y,eG [.tup [.int E,.int F],.str w.s,.int ↥16,.int (s'*pw ↥4+c')]=.ok (.tup [.int x,.int y])/\J7 w E F s c s' c' x y:=by
 have hQ:=af F
 have hL:=af ↥30
 have key:∀ d,ar [.tup [.int E,.int F],.str w.s,.lst (([]:List (↥28×↥28)).map (pD E F)),.lst (([(s,c),(s',c')].map (nI E F)).map .int)]=.ok d->eG [.tup [.int E,.int F],.str w.s,.int ↥16,.int (s'*pw ↥4+c')]=.ok d:=fun d hd=>by
  have e:ar [.tup [.int E,.int F],.str w.s,.lst [],.lst [.int ↥16,.int (s'*pw ↥4+c')]]=.ok d:=hd
  unfold eG lV
  simp_arith [e]
 have hx:∀ x∈[(s,c),(s',c')]++fl [],rF E F x:=fun x hx=>by
  rcases List.mem_cons.mp hx with e | hx
  ·subst e;exact ⟨hs,c0,c1⟩
  ·rcases List.mem_cons.mp hx with e | hx
   ·subst e;exact ⟨hs',d0,d1⟩
   ·cases hx
 have all:∀ {P:Int×Int->Prop},P (s,c)->P (s',c')->∀ x∈[(s,c),(s',c')]++fl [],P x:=fun a b x hx=>by
  rcases List.mem_cons.mp hx with e | hx
  ·subst e;exact a
  ·rcases List.mem_cons.mp hx with e | hx
   ·subst e;exact b
   ·cases hx
 unfold J7
 by_cases g1:pw ↥4 - pw F<c\/pw ↥4 - pw F<c'
 ·simp only [if_pos g1]
  refine ⟨_,_,key _ (uy (ps:=[]) (xs:=[(s,c),(s',c')]) w h (show 2<=400 by decide) (show 0<=300 by decide) hx ?_),rfl,rfl⟩
  rcases g1 with g | g
  ·exact ⟨(s,c),.head _,g⟩
  ·exact ⟨(s',c'),.tail _ (.head _),g⟩
 simp only [if_neg g1]
 have hn:∀ x∈[(s,c),(s',c')]++fl [],x.2<=pw ↥4 - pw F:=all (show c<=_ by omega) (show c'<=_ by omega)
 have inf:=fun b hb=>wZ (ps:=[]) (xs:=[(s,c),(s',c')]) (b:=b) w h (show 2<=400 by decide) (show 0<=300 by decide) hx hn (fun p hp=>nomatch hp) (JC hx) hb
 have ec:c=pw ↥4 - pw F->xt E F (s,c)=.inr s:=fun g=>if_pos g
 have ec':¬ c=pw ↥4 - pw F->xt E F (s,c)=.inl (wt E F s c):=fun g=>if_neg g
 have ed:c'=pw ↥4 - pw F->xt E F (s',c')=.inr s':=fun g=>if_pos g
 have ed':¬ c'=pw ↥4 - pw F->xt E F (s',c')=.inl (wt E F s' c'):=fun g=>if_neg g
 have es:mD ((([]:List (↥28×↥28)).map (ptp E F))++[(s,c),(s',c')].map (xt E F))=mD [xt E F (s,c),xt E F (s',c')]:=rfl
 rw [es] at inf
 by_cases g2:c=pw ↥4 - pw F
 ·simp only [if_pos g2]
  rw [ec g2] at inf
  by_cases g3:c'=pw ↥4 - pw F
  ·rw [ed g3] at inf
   have ee:mD [.inr s,.inr s']=[s,s']:=rfl
   rw [ee] at inf
   have q:=inf s (.head _)
   by_cases g4:s=s'
   ·simp only [if_neg (show ¬ (c'=pw ↥4 - pw F/\¬ s=s') from fun z=>z.2 g4)]
    rw [if_neg (by rw [<- g4];simp only [List.mem_cons,List.not_mem_nil,or_false,or_self];omega)] at q
    exact ⟨_,_,key _ q,rfl,rfl⟩
   ·simp only [if_pos (show c'=pw ↥4 - pw F/\¬ s=s' from ⟨g3,g4⟩)]
    rw [if_pos (by simp only [List.mem_cons,List.not_mem_nil,or_false];omega)] at q
    exact ⟨_,_,key _ q,rfl,rfl⟩
  ·rw [ed' g3] at inf
   have ee:mD [.inr s,.inl (wt E F s' c')]=[s]:=rfl
   rw [ee] at inf
   have q:=inf s (.head _)
   rw [if_neg (by simp only [List.mem_cons,List.not_mem_nil,or_false];omega)] at q
   simp only [if_neg (show ¬ (c'=pw ↥4 - pw F/\¬ s=s') from fun z=>g3 z.1)]
   exact ⟨_,_,key _ q,rfl,rfl⟩
 simp only [if_neg g2]
 rw [ec' g2] at inf
 by_cases g3:c'=pw ↥4 - pw F
 ·simp only [if_pos g3]
  rw [ed g3] at inf
  have ee:mD [.inl (wt E F s c),.inr s']=[s']:=rfl
  rw [ee] at inf
  have q:=inf s' (.head _)
  rw [if_neg (by simp only [List.mem_cons,List.not_mem_nil,or_false];omega)] at q
  exact ⟨_,_,key _ q,rfl,rfl⟩
 simp only [if_neg g3]
 have hf:∀ x∈[(s,c),(s',c')]++fl [],x.2<pw ↥4 - pw F:=all (show c<_ by omega) (show c'<_ by omega)
 obtain ⟨x,y,e,o⟩:=xa (ps:=[]) (xs:=[(s,c),(s',c')]) (U:=1) (V:=pw ↥30) (X:=(if s=1 then -(vl F c) else vl F c)+(if s'=1 then -(vl F c') else vl F c')) h (show 2<=400 by decide) (show 0<=300 by decide) hx hf hL (by
  show tv _ (wt E F s c)+(tv _ (wt E F s' c')+0)=_
  rw [Ck h c0,Ck h d0,Int.add_zero,Int.add_mul]) (by rw [Cu h,Int.one_mul]) w
 have en:(fts E F [] [(s,c),(s',c')]).map (·.1)=[s,s']:=rfl
 rw [en,Fh hs hs'] at o
 exact ⟨x,y,key _ e,o⟩
theorem uP {E F a b:Int} {W:PySem.Str}:eG [.tup [.int E,.int F],.str W,.int a,.int b]=ar [.tup [.int E,.int F],.str W,.lst [],.lst [.int a,.int b]]:=by
 unfold eG lV
 generalize hr:ar [.tup [.int E,.int F],.str W,.lst [],.lst [.int a,.int b]]=r
 cases r with
 | ok d=>simp_arith [hr]
 | ex C=>simp_arith [hr]
 | bad =>
  simp_arith [hr]
  rfl
theorem yF {E F s f g:Int} (h:Sz E F) (hs:0<=s/\s<=1) (hf:0<=f/\f<pw E) (hg:0<=g/\g<pw F):iX [.tup [.int E,.int F],.int s,.int f,.int g]=.ok (.int (jn E F s f g)):=by
 obtain ⟨h1,h2,h3,h4⟩:=id h
 have n1:nb (pw ↥4)<=128:=eV (c:=127) ⋯
 have n2:nb f<=15:=il hf.1 (by have:=iV h;omega)
 unfold iX kY
 simp_arith [dz h,iB h,jV (k:=F) ⋯ ⋯,show ¬ s<0 by omega,show ¬ 1<s by omega,show ¬ f<0 by omega,show ¬ pw E - 1<f by omega,show ¬ g<0 by omega,show ¬ pw F<=g by omega,
  ax (dQ hs.1 hs.2 (Nat.le_trans n1 ↥1)),aZ (i:=f) (j:=F) ⋯ ⋯,jn]
theorem vF {E F b:Int} (h:Sz E F) (hb:In E F b):gn [.tup [.int E,.int F],.int b]=.ok (.int (ng E F b)):=by
 obtain ⟨i1,i2,i3⟩:=hb.parts h
 unfold gn jf
 simp_arith [dJ h hb,yF (s:=1 - sgn E F b) h ⋯ i2 i3,LA h hb]
theorem t5 {E F a s' c':Int} (w:Wy) (h:Sz E F) (hs':0<=s'/\s'<=1) (d0:0<=c') (d1:c'<pw ↥4):iF [.tup [.int E,.int F],.str w.s,.int a,.int (s'*pw ↥4+c')]=ar [.tup [.int E,.int F],.str w.s,.lst [],.lst [.int a,.int ((1 - s')*pw ↥4+c')]]:=by
 have n:=vF h (aB h hs' d0 d1).1
 rw [Bt hs' d0 d1] at n
 unfold iF ph
 generalize hr:ar [.tup [.int E,.int F],.str w.s,.lst [],.lst [.int a,.int ((1 - s')*pw ↥4+c')]]=r
 cases r with
 | ok d=>simp_arith [a8 w,n,hr]
 | ex C=>simp_arith [a8 w,n,hr]
 | bad =>
  simp_arith [a8 w,n,hr]
  rfl
theorem i7 {E F s s' c c':Int} (w:Wy) (h:Sz E F) (hs:0<=s/\s<=1) (hs':0<=s'/\s'<=1) (c0:0<=c) (c1:c<pw ↥4) (d0:0<=c') (d1:c'<pw ↥4) :
  ∃ x y,bx [.tup [.int E,.int F],.str w.s,.int ↥16,.int (s'*pw ↥4+c')]=.ok (.tup [.int x,.int y])/\J1 w E F s c s' c' x y:=by
 have hQ:=af F
 have h5:=aW h
 have key:∀ d,ar [.tup [.int E,.int F],.str w.s,.lst ([((s,c),(s',c'))].map (pD E F)),.lst ((([]:List ↥28).map (nI E F)).map .int)]=.ok d->bx [.tup [.int E,.int F],.str w.s,.int ↥16,.int (s'*pw ↥4+c')]=.ok d:=fun d hd=>by
  have e:ar [.tup [.int E,.int F],.str w.s,.lst [.tup [.int ↥16,.int (s'*pw ↥4+c')]],.lst []]=.ok d:=hd
  unfold bx d7
  simp_arith [e]
 have all:∀ {P:Int×Int->Prop},P (s,c)->P (s',c')->∀ x∈([]:List ↥28)++fl [((s,c),(s',c'))],P x:=fun a b x hx=>by
  rcases List.mem_cons.mp hx with e | hx
  ·subst e;exact a
  ·rcases List.mem_cons.mp hx with e | hx
   ·subst e;exact b
   ·cases hx
 have hx:∀ x∈([]:List ↥28)++fl [((s,c),(s',c'))],rF E F x:=all ⟨hs,c0,c1⟩ ⟨hs',d0,d1⟩
 unfold J1
 by_cases g1:pw ↥4 - pw F<c\/pw ↥4 - pw F<c'
 ·simp only [if_pos g1]
  refine ⟨_,_,key _ (uy (ps:=[((s,c),(s',c'))]) (xs:=[]) w h (show 0<=400 by decide) (show 1<=300 by decide) hx ?_),rfl,rfl⟩
  rcases g1 with g | g
  ·exact ⟨(s,c),.head _,g⟩
  ·exact ⟨(s',c'),.tail _ (.head _),g⟩
 simp only [if_neg g1]
 have hn:∀ x∈([]:List ↥28)++fl [((s,c),(s',c'))],x.2<=pw ↥4 - pw F:=all (show c<=_ by omega) (show c'<=_ by omega)
 by_cases g2:(c=0\/c'=0)/\(c=pw ↥4 - pw F\/c'=pw ↥4 - pw F)
 ·simp only [if_pos g2]
  exact ⟨_,_,key _ (FF (ps:=[((s,c),(s',c'))]) (xs:=[]) w h (show 0<=400 by decide) (show 1<=300 by decide) hx hn ⟨_,.head _,g2⟩),rfl,rfl⟩
 simp only [if_neg g2]
 have hw:∀ p∈[((s,c),(s',c'))],¬ wrP E F p:=fun p hp z=>by
  rcases List.mem_cons.mp hp with e | hp
  ·subst e;exact g2 z
  ·cases hp
 by_cases g3:c=pw ↥4 - pw F\/c'=pw ↥4 - pw F
 ·simp only [if_pos g3]
  have ep:pt E F (s,c) (s',c')=.inr (sx s s'):=if_pos g3
  have ee:mD ([((s,c),(s',c'))].map (ptp E F)++([]:List ↥28).map (xt E F))=[sx s s']:=by
   show mD [pt E F (s,c) (s',c')]=_
   rw [ep]
   rfl
  have q:=wZ (ps:=[((s,c),(s',c'))]) (xs:=[]) (b:=sx s s') w h (show 0<=400 by decide) (show 1<=300 by decide) hx hn hw (JC hx) (by rw [ee];exact .head _)
  rw [ee,if_neg (by simp only [List.mem_cons,List.not_mem_nil,or_false];omega)] at q
  exact ⟨_,_,key _ q,rfl,rfl⟩
 simp only [if_neg g3]
 have hf:∀ x∈([]:List ↥28)++fl [((s,c),(s',c'))],x.2<pw ↥4 - pw F:=all (show c<_ by omega) (show c'<_ by omega)
 obtain ⟨x,y,e,o⟩:=xa (ps:=[((s,c),(s',c'))]) (xs:=[]) (U:=pw ↥30) (V:=1) (X:=if sx s s'=1 then -(vl F c*vl F c') else vl F c*vl F c') h (show 0<=400 by decide) (show 1<=300 by decide) hx hf ↥1 (by
  show tv _ (pm E F (s,c) (s',c'))+0=_
  rw [K6 c0 d0,Int.add_zero,Int.mul_one]) (by rw [Cu h,Int.one_mul]) w
 have en:(fts E F [((s,c),(s',c'))] []).map (·.1)=[sx s s']:=rfl
 rw [en,Fi rL] at o
 exact ⟨x,y,key _ e,o⟩
theorem Ex {E F s s' c c':Int} (h:Sz E F) (hs:0<=s/\s<=1) (hs':0<=s'/\s'<=1) (c0:0<c) (c1:c<pw ↥4 - pw F) (d0:0<c') (d1:c'<pw ↥4 - pw F) :
  ∃ k r,(∀ w:Wy,eQ [.tup [.int E,.int F],.str w.s,.tup [.int s,.int (frT (wh F ↥15 (c%pw F)) (po E F ↥15)),.int (frB (po E F ↥15))],.tup [.int s',.int (frT (wh F (c' / pw F) (c'%pw F)) (po E F (c' / pw F))),.int (frB (po E F (c' / pw F)))]]=.ok (.tup [.int (sx s s'*pw ↥4+stK w E F (sx s s') k r),.int (stF w E F (sx s s') k r)]))/\At F (vl F c*pw ↥30) (vl F c') k r:=by
 obtain ⟨f1,f2,f3,f4⟩:=lY h (Int.le_of_lt c0) c1
 obtain ⟨f1',f2',f3',f4'⟩:=lY h (Int.le_of_lt d0) d1
 have u:=lX h (Int.le_of_lt c0)
 have u':=lX h (Int.le_of_lt d0)
 have p':=BK h d0 d1
 have v':=bh (F:=F) (Int.le_of_lt d0)
 generalize frT (wh F ↥15 (c%pw F)) (po E F ↥15)=t at *
 generalize frB (po E F ↥15)=n at *
 generalize frT (wh F (c' / pw F) (c'%pw F)) (po E F (c' / pw F))=t' at *
 generalize frB (po E F (c' / pw F))=n' at *
 have m1:MulOk t n':=by walk_at "mul"
 have m2:MulOk n t':=by walk_at "mul"
 have n1:=dP f3 f4'
 have n2:=dP f4 f3'
 obtain ⟨k,r,e,a⟩:=lC h (Int.mul_nonneg f1 (Int.le_of_lt f2')) (Int.mul_pos f2 p') (Nat.le_trans n1 ↥1) (Nat.le_trans n2 ↥1)
 refine ⟨k,r,fun w => ?_,mf (Int.mul_pos f2 p') ⋯ (AU u u') a⟩
 unfold eQ hZ
 simp_arith [DW hs hs',ax m1,ax m2,e w _ rL]
theorem nq {E F s s' c c':Int} (w:Wy) (h:Sz E F) (hs:0<=s/\s<=1) (hs':0<=s'/\s'<=1) (c0:0<=c) (c1:c<pw ↥4) (d0:0<=c') (d1:c'<pw ↥4) :
  ∃ x y,dO [.tup [.int E,.int F],.str w.s,.int ↥16,.int (s'*pw ↥4+c')]=.ok (.tup [.int x,.int y]) /\
   (if pw ↥4 - pw F<c\/pw ↥4 - pw F<c' then x=pw ↥4 - pw F+pw (F - 1)/\y=0
    else if c=c'/\(c=0\/c=pw ↥4 - pw F) then x=pw ↥4 - pw F+pw (F - 1)/\y=16
    else if c=pw ↥4 - pw F then x=sx s s'*pw ↥4+(pw ↥4 - pw F)/\y=0
    else if c'=0 then x=sx s s'*pw ↥4+(pw ↥4 - pw F)/\y=8
    else if c=0\/c'=pw ↥4 - pw F then x=sx s s'*pw ↥4/\y=0
    else ∃ k r,x=sx s s'*pw ↥4+stK w E F (sx s s') k r/\y=stF w E F (sx s s') k r/\At F (vl F c*pw ↥30) (vl F c') k r):=by
 have h5:=aW h
 have hQ:=af F
 obtain ⟨kn,ke,k0⟩:=d5 (c:=c) h c0 c1
 obtain ⟨ln,le,l0⟩:=d5 (c:=c') h d0 d1
 have kk:=lS (c:=c) h hs c0 c1
 have kl:=lS (c:=c') h hs' d0 d1
 have e:=wg kk kl
 have ee:=bb h
 have e2:=bL h
 rw [end_is h] at ee e2
 have pa:=lI (c:=c) h hs c0 c1
 have pb:=lI (c:=c') h hs' d0 d1
 have sg:=bV (c:=pw ↥4 - pw F) h (rL (s:=s) (s':=s'))
 have sg0:=bV (c:=0) h (rL (s:=s) (s':=s'))
 rw [Int.add_zero] at sg0
 have so:=DW hs hs'
 have fa:c<pw ↥4 - pw F->_:=fun z=>iH (c:=c) h hs c0 z
 have fb:c'<pw ↥4 - pw F->_:=fun z=>iH (c:=c') h hs' d0 z
 have qa:=fun (z0:0<c) (z1:c<pw ↥4 - pw F) (y0:0<c') (y1:c'<pw ↥4 - pw F)=>Ex h hs hs' z0 z1 y0 y1
 generalize kindS E ↥15 (c%pw F)=K at *
 generalize kindS E (c' / pw F) (c'%pw F)=L at *
 unfold dO jj
 by_cases g1:pw ↥4 - pw F<c\/pw ↥4 - pw F<c'
 ·rw [decide_eq_true (by rw [kn,ln];exact g1)] at e
  exact ⟨pw ↥4 - pw F+pw (F - 1),0,by simp_arith [a8 w,e,e2],by rw [if_pos g1];exact ⟨rfl,rfl⟩⟩
 rw [decide_eq_false (by rw [kn,ln];exact g1)] at e
 have gK:¬ K=PySem.Str.ofString "none":=fun z=>g1 (.inl (kn.mp z))
 have gL:¬ L=PySem.Str.ofString "none":=fun z=>g1 (.inr (ln.mp z))
 by_cases g2:c=c'/\(c=0\/c=pw ↥4 - pw F)
 ·have q:K=L/\(PySem.Str.ofString "nought"=K\/PySem.Str.ofString "endless"=K):=by
   obtain ⟨z,z2 | z2⟩:=g2
   ·exact ⟨(k0.mpr z2).trans (l0.mpr (z▸z2)).symm,.inl (k0.mpr z2).symm⟩
   ·exact ⟨(ke.mpr z2).trans (le.mpr (z▸z2)).symm,.inr (ke.mpr z2).symm⟩
  exact ⟨pw ↥4 - pw F+pw (F - 1),16,by simp_arith [a8 w,e,kk,kl,eq_true q.1,iY,eq_true q.2,e2],by rw [if_neg g1,if_pos g2];exact ⟨rfl,rfl⟩⟩
 have q2:¬ (K=L/\(PySem.Str.ofString "nought"=K\/PySem.Str.ofString "endless"=K)):=by
  rintro ⟨z,z2 | z2⟩
  ·exact g2 ⟨(k0.mp z2.symm).trans (l0.mp (z▸z2.symm)).symm,.inl (k0.mp z2.symm)⟩
  ·exact g2 ⟨(ke.mp z2.symm).trans (le.mp (z▸z2.symm)).symm,.inr (ke.mp z2.symm)⟩
 have an:∀ δ2:Dt,tO (bin oEq (var 4) (var 5)) (bin oIn (var 4) (df [con (.str "nought"),con (.str "endless")])) (some ↥27::some (.str w.s)::some (.int ↥16)::some (.int (s'*pw ↥4+c'))::some (.str K)::some (.str L)::δ2)=.ok (.bl false):=fun δ2=>by
  by_cases z:K=L
  ·have z2:¬ (PySem.Str.ofString "nought"=K\/PySem.Str.ofString "endless"=K):=fun y=>q2 ⟨z,y⟩
   simp_arith [eq_true z,iY,z2]
  ·simp_arith [z]
 generalize hand:tO (bin oEq (var 4) (var 5)) (bin oIn (var 4) (df [con (.str "nought"),con (.str "endless")]))=A at *
 by_cases g3:c=pw ↥4 - pw F
 ·exact ⟨sx s s'*pw ↥4+(pw ↥4 - pw F),0,by simp_arith [a8 w,e,kk,kl,an,pa,pb,so,eq_true (ke.mpr g3),ee,sg],by rw [if_neg g1,if_neg g2,if_pos g3];exact ⟨rfl,rfl⟩⟩
 have gE:¬ K=PySem.Str.ofString "endless":=fun z=>g3 (ke.mp z)
 by_cases g4:c'=0
 ·have z:¬ K=PySem.Str.ofString "nought":=fun z=>g2 ⟨(k0.mp z).trans g4.symm,.inl (k0.mp z)⟩
  have z2:=l0.mpr g4
  have z3:¬ L=PySem.Str.ofString "endless":=by rw [z2];decide
  have z4:¬ (K=PySem.Str.ofString "nought"\/L=PySem.Str.ofString "endless"):=fun u=>u.elim z z3
  exact ⟨sx s s'*pw ↥4+(pw ↥4 - pw F),8,by simp_arith [a8 w,e,kk,kl,an,pa,pb,so,gE,z,z3,z4,eq_true z2,ee,sg],by rw [if_neg g1,if_neg g2,if_neg g3,if_pos g4];exact ⟨rfl,rfl⟩⟩
 have gN:¬ L=PySem.Str.ofString "nought":=fun z=>g4 (l0.mp z)
 by_cases g5:c=0\/c'=pw ↥4 - pw F
 ·have z:K=PySem.Str.ofString "nought"\/L=PySem.Str.ofString "endless":=g5.imp k0.mpr le.mpr
  exact ⟨sx s s'*pw ↥4,0,by simp_arith [a8 w,e,kk,kl,an,pa,pb,so,gE,eq_true z,sg0],by rw [if_neg g1,if_neg g2,if_neg g3,if_neg g4,if_pos g5];exact ⟨rfl,rfl⟩⟩
 have y1:¬ K=PySem.Str.ofString "nought":=fun z=>g5 (.inl (k0.mp z))
 have y2:¬ L=PySem.Str.ofString "endless":=fun z=>g5 (.inr (le.mp z))
 obtain ⟨k,r,eq,a⟩:=qa ⋯ ⋯ ⋯ ⋯
 have fa:=fa ⋯
 have fb:=fb ⋯
 have y3:¬ (K=PySem.Str.ofString "nought"\/L=PySem.Str.ofString "endless"):=fun u=>u.elim y1 y2
 exact ⟨sx s s'*pw ↥4+stK w E F (sx s s') k r,stF w E F (sx s s') k r,by simp_arith [a8 w,e,kk,kl,an,pa,pb,so,gE,y1,y2,y3,gN,fa,fb,eq w],by rw [if_neg g1,if_neg g2,if_neg g3,if_neg g4,if_neg g5];exact ⟨k,r,rfl,rfl,a⟩⟩
theorem wJ (i:Int):cP [.int i]=.ok ↥36:=by
 unfold cP fM
 simp_arith []
theorem Hg {a b:Int}:cD [.tup [.int a,.int b]]=.ok ↥36:=by
 unfold cD jg
 simp_arith [wJ]
theorem yr (c:Int):∃ E F,bJ [.int c]=.ok ↥27/\(2<=E/\E<=13)/\1<=F/\F<=54:=by
 unfold bJ cK
 by_cases g:c%4=0
 ·rcases (by omega:c / 4%6=0\/c / 4%6=1\/c / 4%6=2\/c / 4%6=3\/c / 4%6=4\/c / 4%6=5) with e | e | e | e | e | e
  ·exact ⟨5,10,by simp_arith [eq_true g,e],by decide⟩
  ·exact ⟨8,23,by simp_arith [eq_true g,e],by decide⟩
  ·exact ⟨11,52,by simp_arith [eq_true g,e],by decide⟩
  ·exact ⟨2,54,by simp_arith [eq_true g,e];rfl,by decide⟩
  ·exact ⟨13,54,by simp_arith [eq_true g,e];rfl,by decide⟩
  ·exact ⟨4,3,by simp_arith [eq_true g,e];rfl,by decide⟩
 by_cases g1:c%4=1
 ·exact ⟨2+c / 4%12,1+c / 48%54,by simp_arith [g,eq_true g1],⋯,⋯,⋯⟩
 ·exact ⟨2+c / 4%4,1+c / 16%5,by simp_arith [g,g1],⋯,⋯,⋯⟩
theorem Dl {E F c:Int} (hE:2<=E/\E<=13) (hF:1<=F/\F<=54):∃ E' F',cC [.tup [.int E,.int F],.int c]=.ok (.tup [.int E',.int F'])/\Sz E' F'/\E+1<=E'/\2*F+4<=F':=by
 have a0:=Int.emod_nonneg (c / 2) (show 14 - E≠0 by omega)
 have a1:=Int.emod_lt_of_pos (c / 2) (show 0<14 - E by omega)
 have b0:=Int.emod_nonneg (c / 24) (show 109 - 2*F≠0 by omega)
 have b1:=Int.emod_lt_of_pos (c / 24) (show 0<109 - 2*F by omega)
 have m2:fk (.int 2) (.int F)=.ok (.int (2*F)):=ax (by unfold MulOk;have:nb F<=6:=il ⋯ ⋯;have:nb 2=2:=rfl;omega)
 unfold cC dB
 by_cases g:c%2=0
 ·exact ⟨E+2,2*F+4,by simp_arith [eq_true g,m2,show 0<14 - E by omega],⟨⋯,⋯,⋯,⋯⟩,⋯,⋯⟩
 ·exact ⟨E+2+c / 2%(14 - E),2*F+4+c / 24%(109 - 2*F),by simp_arith [g,m2,show 0<14 - E by omega,show 0<109 - 2*F by omega],⟨⋯,⋯,⋯,⋯⟩,⋯,⋯⟩
theorem GV {Eg Fg Em Fm s c:Int} (h:Sz Eg Fg) (h':Sz Em Fm) (hE:Eg+1<=Em) (hF:2*Fg+4<=Fm) (hs:0<=s/\s<=1) (c0:0<=c) (c1:c<pw ↥23):∃ S d,Wd Eg Fg Em Fm s c S d/\aX [.tup [.int Eg,.int Fg],.tup [.int Em,.int Fm],.str ↥33,.int (s*pw ↥23+c)]=.ok (.tup [.int (S*pw (Em+Fm)+d),.int 0]):=by
 by_cases g1:pw ↥23 - pw Fg<c
 ·refine ⟨0,_,.inl ⟨g1,by decide,rfl⟩,?_⟩
  rw [Int.zero_mul,Int.zero_add]
  exact jZ .even h h' hs g1 c1
 by_cases g2:c=pw ↥23 - pw Fg
 ·exact ⟨s,_,.inr (.inl ⟨g2,rfl,rfl⟩),l5 .even h h' hs g2⟩
 ·obtain ⟨d,d0,d1,e⟩:=mT h h' ⋯ (by have:=h.2.2.1;omega) c0 (show c<pw ↥23 - pw Fg by omega)
  exact ⟨s,d,.inr (.inr ⟨⋯,rfl,d0,d1,e⟩),(qD .even h h' hs (lo_le ⋯ (by have:=h.2.2.1;omega)) c0 ⋯ d0 d1 e).1⟩
theorem JM {Eg Fg Em Fm s c:Int} (h:Sz Eg Fg) (h':Sz Em Fm) (hE:Eg+1<=Em) (hF:2*Fg+4<=Fm) (hs:0<=s/\s<=1) (c0:0<=c) (c1:c<pw (Em+Fm)):∃ x y,aX [.tup [.int Em,.int Fm],.tup [.int Eg,.int Fg],.str ↥33,.int (s*pw (Em+Fm)+c)]=.ok (.tup [.int x,.int y])/\Chg Em Fm Eg Fg s c x y:=by
 unfold Chg
 by_cases g1:pw (Em+Fm) - pw Fm<c
 ·simp only [if_pos g1]
  exact ⟨_,_,jZ .even h' h hs g1 c1,rfl,rfl⟩
 by_cases g2:c=pw (Em+Fm) - pw Fm
 ·simp only [if_neg g1,if_pos g2]
  exact ⟨_,_,l5 .even h' h hs g2,rfl,rfl⟩
 ·simp only [if_neg g1,if_neg g2]
  obtain ⟨k,r,e,a⟩:=jT h' h c0 (show c<pw (Em+Fm) - pw Fm by omega)
  refine ⟨_,_,e .even s hs,k,r,rfl,rfl,mf (af _) (af _) ?_ a⟩
  rw [(oR h h' hE hF).1]
  grind
theorem CP {t b f:Int} (z:Bor t b f):Bm (.int t) (.int b)=.ok (.int f):=by
 obtain ⟨z,v⟩:=z
 rcases z with ⟨p,q⟩ | ⟨p,q⟩ | ⟨p,q,r⟩ | ⟨p,q,r⟩ | ⟨p | p,q,r⟩
 ·subst p q
  rcases v with v | v | v | v | v | v<;>subst v<;>rfl
 ·subst p q
  rcases v with v | v | v | v | v | v<;>subst v<;>rfl
 ·subst p q r;rfl
 ·subst p q r;rfl
 ·subst p q r;rfl
 ·subst p q r;rfl
theorem Cr {E F s c:Int} (w:Wy) (h:Sz E F) (hs:0<=s/\s<=1) (c0:0<=c) (c1:c<pw ↥4):∃ x y,bE [.tup [.int E,.int F],.str w.s,.int ↥16]=.ok (.tup [.int x,.int y])/\JX w E F s c x y:=by
 unfold JX
 by_cases g1:pw ↥4 - pw F<c
 ·simp only [if_pos g1]
  exact ⟨_,_,rZ w h hs g1 c1,rfl,rfl⟩
 simp only [if_neg g1]
 by_cases g2:c=0\/(s=0/\c=pw ↥4 - pw F)
 ·simp only [if_pos g2]
  exact ⟨_,_,rY w h hs g2,rfl,rfl⟩
 simp only [if_neg g2]
 by_cases g3:s=1
 ·simp only [if_pos g3,g3]
  exact ⟨_,_,vA w h ⋯ ⋯,rfl,rfl⟩
 ·simp only [if_neg g3]
  obtain rfl:s=0:=⋯
  obtain ⟨k,r,e,a⟩:=xx w h (show 0<c by omega) ⋯
  exact ⟨_,_,e,k,r,rfl,rfl,a⟩
theorem wW {Eg Fg Em Fm s c s' c' S d S' d' k:Int} (hk:0<=k/\k<5) (h:Sz Eg Fg) (h':Sz Em Fm) (hE:Eg+1<=Em) (hF:2*Fg+4<=Fm) (hs:0<=s/\s<=1) (hs':0<=s'/\s'<=1) (c0:0<=c) (c1:c<pw ↥23) (d0:0<=c') (d1:c'<pw ↥23) (wa:Wd Eg Fg Em Fm s c S d) (wb:Wd Eg Fg Em Fm s' c' S' d') :
  ∃ x y X Y,cQ [.int k,.tup [.int Eg,.int Fg],.int (s*pw ↥23+c),.int (s'*pw ↥23+c')]=.ok (.tup [.int x,.int y])/\cQ [.int k,.tup [.int Em,.int Fm],.int (S*pw (Em+Fm)+d),.int (S'*pw (Em+Fm)+d')]=.ok (.tup [.int X,.int Y])/\aC Eg Fg Em Fm x y X Y:=by
 obtain ⟨i1,i2,i3⟩:=wa.ins h' hs
 obtain ⟨j1,j2,j3⟩:=wb.ins h' hs'
 unfold cQ ia
 rcases (by omega:k=0\/k=1\/k=2\/k=3\/k=4) with e | e | e | e | e<;>subst e
 ·obtain ⟨x,y,e1,a⟩:=lg .even h hs hs' c0 c1 d0 d1
  obtain ⟨X,Y,e2,b⟩:=lg .even h' i1 j1 i2 i3 j2 j3
  have e1:eG [_,.str ↥33,_,_]=_:=e1
  have e2:eG [_,.str ↥33,_,_]=_:=e2
  exact ⟨x,y,X,Y,by simp_arith [e1],by simp_arith [e2],add_same h h' hE hF hs hs' c0 d0 wa wb a b⟩
 ·obtain ⟨x,y,e1,a⟩:=lg .even h hs (s':=1 - s') ⋯ c0 c1 d0 d1
  obtain ⟨X,Y,e2,b⟩:=lg .even h' i1 (s':=1 - S') ⋯ i2 i3 j2 j3
  have e1:iF [_,.str ↥33,_,_]=_:=(t5 .even h hs' d0 d1).trans (uP.symm.trans e1)
  have e2:iF [_,.str ↥33,_,_]=_:=(t5 .even h' j1 j2 j3).trans (uP.symm.trans e2)
  exact ⟨x,y,X,Y,by simp_arith [e1],by simp_arith [e2],add_same h h' hE hF hs ⋯ c0 d0 wa wb.neg a b⟩
 ·obtain ⟨x,y,e1,a⟩:=i7 .even h hs hs' c0 c1 d0 d1
  obtain ⟨X,Y,e2,b⟩:=i7 .even h' i1 j1 i2 i3 j2 j3
  have e1:bx [_,.str ↥33,_,_]=_:=e1
  have e2:bx [_,.str ↥33,_,_]=_:=e2
  exact ⟨x,y,X,Y,by simp_arith [e1],by simp_arith [e2],Bv h h' hE hF hs hs' c0 d0 wa wb a b⟩
 ·obtain ⟨x,y,e1,a⟩:=nq .even h hs hs' c0 c1 d0 d1
  obtain ⟨X,Y,e2,b⟩:=nq .even h' i1 j1 i2 i3 j2 j3
  have e1:dO [_,.str ↥33,_,_]=_:=e1
  have e2:dO [_,.str ↥33,_,_]=_:=e2
  exact ⟨x,y,X,Y,by simp_arith [e1],by simp_arith [e2],BS h h' hE hF hs hs' c0 d0 wa wb a b⟩
 ·obtain ⟨x,y,e1,a⟩:=Cr .even h hs c0 c1
  obtain ⟨X,Y,e2,b⟩:=Cr .even h' i1 i2 i3
  have e1:bE [_,.str ↥33,_]=_:=e1
  have e2:bE [_,.str ↥33,_]=_:=e2
  exact ⟨x,y,X,Y,by simp_arith [e1],by simp_arith [e2],AR h h' hE hF hs c0 wa a b⟩
theorem rW {Eg Fg Em Fm a b k:Int} (hk:0<=k/\k<5) (h:Sz Eg Fg) (h':Sz Em Fm) (hE:Eg+1<=Em) (hF:2*Fg+4<=Fm) (ha:In Eg Fg a) (hb:In Eg Fg b):eR [.int k,.tup [.int Eg,.int Fg],.tup [.int Em,.int Fm],.int a,.int b]=.ok ↥36:=by
 obtain ⟨s,c,hs,c0,c1,rfl⟩:=t9 h ha
 obtain ⟨s',c',hs',d0,d1,rfl⟩:=t9 h hb
 obtain ⟨S,d,wa,e1⟩:=GV h h' hE hF hs c0 c1
 obtain ⟨S',d',wb,e2⟩:=GV h h' hE hF hs' d0 d1
 obtain ⟨x,y,X,Y,e3,e4,R,K,rfl,hR,K0,K1,z⟩:=wW hk h h' hE hF hs hs' c0 c1 d0 d1 wa wb
 obtain ⟨x2,y2,e5,g⟩:=JM h h' hE hF hR K0 K1
 obtain ⟨rfl,z2⟩:=z _ _ g
 unfold eR ib
 simp_arith [e1,e2,e3,e4,e5,Hg,CP z2]
theorem xg {E F c:Int} (h:Sz E F) (hc:nb c<=2^20):∃ b,bI [.tup [.int E,.int F],.int c]=.ok (.int b)/\In E F b:=by
 obtain ⟨k1,k2,k3,k4⟩:=id h
 have hQ:=af F
 have tb:=cu h
 have e8:=end_is h
 have hE:=af E
 have wi:=gf h
 have nE:nb (pw E - 1)<=16:=il ⋯ (by have:=iV h;omega)
 have s1:=jV (k:=E) ⋯ ⋯
 have s2:=aZ (i:=pw E - 1) (j:=F) ⋯ ⋯
 rw [e8] at s2
 have s3:=jV (k:=(F+1) / 2) ⋯ ⋯
 have s4:=jV (k:=E - 1) ⋯ ⋯
 have hh:=af ((F+1) / 2)
 have m0:=Int.emod_nonneg c (show pw ((F+1) / 2)≠0 by omega)
 have m1:=Int.emod_lt_of_pos c hh
 unfold bI cJ
 by_cases g:c%pw ((F+1) / 2)=0
 ·exact ⟨0,by simp_arith [s1,s2,s3,hh,eq_true g],⋯,by have:=af (E+F+1);omega⟩
 generalize hA:c%pw ((F+1) / 2)=a at *
 have p2:pw ((F+1) / 2)*pw ((F+1) / 2)<=pw (F+1):=by
  rw [<- au ⋯ ⋯]
  exact ay ⋯
 have aa:0<a*a:=Int.mul_pos ⋯ ⋯
 have a2:a*a<pw (F+1):=by
  have:=Int.mul_lt_mul_of_pos_left m1 (show 0<a by omega)
  have:=Int.mul_le_mul_of_nonneg_right (Int.le_of_lt m1) (Int.le_of_lt hh)
  omega
 have nA:(nb (a*a):Int)<=F+1:=um (Int.le_of_lt aa) a2 ⋯
 have nA1:=mX aa
 have na:nb a<=200:=by
  have:=um (k:=(F+1) / 2) m0 m1 ⋯
  omega
 have mu:fk (.int a) (.int a)=.ok (.int (a*a)):=ax (by unfold MulOk;omega)
 have m2:fk (.int 2) (.int (c / 7%3))=.ok (.int (2*(c / 7%3))):=ax (by unfold MulOk;have:nb (c / 7%3)<=2:=il ⋯ ⋯;have:nb 2=2:=rfl;omega)
 have pE:=af (E - 1)
 have pE2:2<=pw (E - 1):=by
  have:=ay (a:=1) (b:=E - 1) ⋯
  have:pw 1=2:=rfl
  omega
 have pE3:pw (E - 1)<=16384:=by
  have:=ay (a:=E - 1) (b:=14) ⋯
  have:pw 14=16384:=rfl
  omega
 generalize hP:2*(c / 7%3)+(pw (E - 1) - 2+F) - (F+1 - nb (a*a))=P
 have P0:0<=P:=⋯
 have nP:nb P<=20:=il P0 ⋯
 have s5:=aZ (i:=P) (j:=F) ⋯ ⋯
 have s6:=aZ (i:=a*a) (j:=F+1 - nb (a*a)) ⋯ ⋯
 have q1:=Int.mul_nonneg P0 (Int.le_of_lt hQ)
 have q2:=Int.mul_nonneg (Int.le_of_lt aa) (Int.le_of_lt (af (F+1 - nb (a*a))))
 exact ⟨min (P*pw F+a*a*pw (F+1 - nb (a*a))) (pw ↥4 - pw F - 1),by simp_arith [s1,s2,s3,s4,hh,hA,g,mu,m2,hP,s5,s6],⋯,⋯⟩
theorem Bz:Good A1:=by
 intro ns hl hb
 obtain ⟨M,eM,M1,M2⟩:=Fs (a:=4) hl ↥1
 obtain ⟨E,F,e1,hE,hF⟩:=yr (ns.getD 0 0)
 obtain ⟨Em,Fm,e2,h',wE,wF⟩:=Dl (c:=ns.getD 1 0) hE hF
 have h:Sz E F:=⟨hE.1,⋯,hF.1,⋯⟩
 have c0:=pC (ns:=ns) (j:=0) ↥1
 have c1:=pC (ns:=ns) (j:=1) ↥1
 rw [show ns.getD (0:Int).toNat 0=ns.getD 0 0 from rfl] at c0
 rw [show ns.getD (1:Int).toNat 0=ns.getD 1 0 from rfl] at c1
 unfold A1 BJ
 generalize hbody:seq (assign 4 _) _=body
 simp_arith [c0,c1,e1,e2,eM,uO (n:=2) (m:=M) (c:=2) ⋯ ↥1 ↥1]
 obtain ⟨δ',e,z3,z4,z5,z6,e'⟩:=uC (i:=3) (body:=body) (fun δ=>∃ z3 z4 z5 z6,δ=[some (.lst (ns.map .int)),some ↥27,some (.tup [.int Em,.int Fm]),z3,z4,z5,z6]) (zQ 2 M 2) (fun d hd δ ⟨z3,z4,z5,z6,e⟩=>by
  subst e
  obtain ⟨k,hk0,hk1,rfl⟩:=Er ↥1 hd
  have nc:=yN hb k.toNat
  have nd:=yN hb (k+1).toNat
  have ck:=pC (ns:=ns) (j:=k) ⋯
  have cl:=pC (ns:=ns) (j:=k+1) ⋯
  generalize ns.getD k.toNat 0=c at *
  generalize ns.getD (k+1).toNat 0=d at *
  obtain ⟨a,ea,ha⟩:=pG h (i6 (j:=5) ↥1 nc)
  obtain ⟨q,eq,hq⟩:=xg h (i6 (j:=3) ↥1 nd)
  have kk:0<=c%5/\c%5<5:=⋯
  generalize hk':c%5=k' at *
  subst hbody
  by_cases g:k'=4/\d%3=0
  ·obtain ⟨g1,g2⟩:=g
   subst g1
   obtain ⟨m,em,hm⟩:=mZ (t:=false) h hq nd
   have sm:=rW kk h h' wE wF hq hm
   refine ⟨_,.inl ?_,some (.int k),some (.int 4),some (.int q),some (.int m),rfl⟩
   simp_arith [ck,cl,hk',ea,eq,eq_true g2,em,sm]
  ·obtain ⟨m,em,hm⟩:=mZ (t:=decide (k'=3)) h ha nd
   obtain ⟨n,en,hn⟩:=vG h ha nd
   have s1:=rW kk h h' wE wF ha hm
   have s2:=rW kk h h' wE wF ha hn
   by_cases g1:k'<2
   ·refine ⟨_,.inl ?_,some (.int k),some (.int k'),some (.int a),some (.int n),rfl⟩
    simp_arith [ck,cl,hk',ea,show ¬ k'=4 by omega,em,eq_true g1,en,s2]
   ·refine ⟨_,.inl ?_,some (.int k),some (.int k'),some (.int a),some (.int m),rfl⟩
    by_cases g3:k'=4
    ·simp_arith [ck,cl,hk',ea,eq_true g3,show ¬ d%3=0 by omega,em,g1,s1]
    ·simp_arith [ck,cl,hk',ea,g3,em,g1,s1]) _ ⟨none,none,none,none,rfl⟩
 simp_arith [e]
end T
open PySem PySem.W PyProof.Rows
set_option maxHeartbeats 0 in
theorem PySem.Challenge.cw_roundmill_k64_whole_wide_holds : PySem.Challenge.rw_roundmill_k64_whole_wide.Holds := by
 w_on;o_law
 refine holds_open (q:=H.q) (loose:=[]) (Xt:=H.Xt) (XP:=XL H.q []) (Yf:=(kHook H.K H.as H.he).obs) (Ya:=(kHook H.K H.as H.he).val) (YP:=(kHook H.K H.as H.he).says) (N:=7238) H.left (kHook H.K H.as H.he).of (kHook H.K H.as H.he).keeps (fun s e=>xl_of s (Bool.and_eq_true_iff.mp e).1) XL.keeps (by rfl) (by rfl) (by rfl) (fun s e=>recFacts_of (Bool.and_eq_true_iff.mp e).2) (by rfl) (by first | assumption | decide +kernel) (by decide +kernel) ⟨rfl,rfl,rfl,rfl,rfl,by decide +kernel⟩ ?hw ?hc
 (case hw=>w_witness2)
 k_fill
 refine ES.Ab (l:=PySem.Challenge.rw_roundmill_k64_whole_wide) (k:=12) (x:="_law_script") (f:=T.A1) T.Bz rfl rfl ⟨rfl,by decide,by decide⟩ (fun w h Y=>PySem.W.kIn_of Y) ?F
 case F =>
  intro w mg fa h KX GG hmg
  refine' T.all_mk KX GG hmg ?n_Way ?pg_Way ?hd_Way ?po_Way ?sa_Way ?na_Way ?aIWay ?uIWay ?mm_Way ?kc_Way ?lIWay ?eIWay ?kIWay ?q1 ?q2 ?q3 ?q4 ?q5 ?q6 ?q7 ?q8 ?q9 ?q10 ?q11 ?q12 ?q13 ?q14 ?q15 ?q16 ?q17 ?q18 ?q19 ?q20 ?q21 ?q22 ?q23 ?q24 ?q25 ?q26 ?q27 ?q28 ?q29 ?a30 ?u30 ?l30 ?e30 ?k30 ?a31 ?u31 ?l31 ?e31 ?k31 ?a32 ?u32 ?l32 ?e32 ?k32 ?q33 ?q34 ?q35 ?q36 ?q37 ?q38 ?q39 ?q40 ?q41 ?q42 ?q43 ?q44 ?q45 ?q46 ?q47 ?q48 ?q49 ?q50 ?q51 ?q52 ?q53 ?q54 ?q55 ?q56 ?q57 ?q58 ?q59 ?q60 ?a61 ?l61 ?e61 ?k61 ?z_len ?z_min ?z_max ?z_abs ?z_list ?z_any ?z_int ?z_isinstance ?z_bool ?z_tuple ?z_range ?y_NAMES ?yl_NAMES ?y_INEXACT ?y_GREAT ?y_SMALL ?y_WRONG ?y_POLE ?n_MillError ?n_NoBits ?n_NoParts ?n_NotFinite ?n_NoWay ?n_NoFraction ?xi_NoWay ?xi_NoBits ?xi_NotFinite ?xi_NoFraction ?xi_NoParts ?v_MillError ?w_NoSize ?v_NoBits ?v_NoParts ?w_NoRank ?v_NotFinite ?v_NoWay ?w_NoFlags ?v_NoFraction ?w_Unlike ?w_Empty ?w_NoLeft ?w_NoText ?w_NoRow ?w_NoName ?w_Stopped ?i_int_NoneType ?i_int_bool ?i_int_int ?i_int_str ?i_int_tuple ?i_int_list ?i_bool_NoneType ?i_bool_bool ?i_bool_int ?i_bool_str ?i_bool_tuple ?i_bool_list ?i_tuple_NoneType ?i_tuple_bool ?i_tuple_int ?i_tuple_str ?i_tuple_tuple ?i_tuple_list
  (case n_Way | pg_Way | hd_Way | po_Way | sa_Way | na_Way | aIWay | uIWay | mm_Way | kc_Way | lIWay | eIWay | kIWay=>k_is)
  (case q1 | q2 | q3 | q4 | q5 | q6 | q7 | q8 | q9 | q10 | q11 | q12 | q13 | q14 | q15 | q16 | q17 | q18 | q19 | q20 | q21 | q22 | q23 | q24 | q25 | q26 | q27 | q28 | q29=>exact ES.JK (by k_is) (by k_is) (by k_is) (by k_is))
  (case a30 | u30 | l30 | e30 | k30 | a31 | u31 | l31 | e31 | k31 | a32 | u32 | l32 | e32 | k32=>k_is)
  (case q33 | q34 | q35 | q36 | q37 | q38 | q39 | q40 | q41 | q42 | q43 | q44 | q45 | q46 | q47 | q48 | q49 | q50 | q51 | q52 | q53 | q54 | q55 | q56 | q57 | q58 | q59 | q60=>exact ES.JK (by k_is) (by k_is) (by k_is) (by k_is))
  (case a61 | l61 | e61 | k61 | z_len | z_min | z_max | z_abs | z_list | z_any | z_int | z_isinstance | z_bool | z_tuple | z_range | y_NAMES | yl_NAMES | y_INEXACT | y_GREAT | y_SMALL | y_WRONG | y_POLE | n_MillError | n_NoBits | n_NoParts | n_NotFinite | n_NoWay | n_NoFraction=>k_is)
  (case xi_NoWay | xi_NoBits | xi_NotFinite | xi_NoFraction | xi_NoParts=>k_exc)
  (case v_MillError=>exact ⟨by k_is,by k_is,by k_is,by k_is,by k_is,⟨_,by k_is⟩⟩)
  (case w_NoSize=>k_is)
  (case v_NoBits | v_NoParts=>exact ⟨by k_is,by k_is,by k_is,by k_is,by k_is,⟨_,by k_is⟩⟩)
  (case w_NoRank=>k_is)
  (case v_NotFinite | v_NoWay=>exact ⟨by k_is,by k_is,by k_is,by k_is,by k_is,⟨_,by k_is⟩⟩)
  (case w_NoFlags=>k_is)
  (case v_NoFraction=>exact ⟨by k_is,by k_is,by k_is,by k_is,by k_is,⟨_,by k_is⟩⟩)
  (case w_Unlike | w_Empty | w_NoLeft | w_NoText | w_NoRow | w_NoName | w_Stopped=>k_is)
  (case i_int_NoneType | i_int_bool | i_int_int | i_int_str | i_int_tuple | i_int_list | i_bool_NoneType | i_bool_bool | i_bool_int | i_bool_str | i_bool_tuple | i_bool_list | i_tuple_NoneType | i_tuple_bool | i_tuple_int | i_tuple_str | i_tuple_tuple | i_tuple_list=>kit_is)
#print axioms PySem.Challenge.cw_roundmill_k64_whole_wide_holds
