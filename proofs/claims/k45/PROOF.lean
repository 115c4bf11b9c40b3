import PyProof.Rows.All
import Wide.All
import OpenK.AllK
import Wide.FinOn
import Lean
import PyProof.EqAt
import PyProof.EqKinds
import PyProof.TupleCall
import PySem.Challenge.RW_roundmill_k45_whole_kept_turn
set_option Elab.async false
set_option linter.all false
set_option genSizeOf false
set_option maxRecDepth 100000
local macro_rules (kind:=Lean.Parser.Command.declaration)
 | s=>if (s[1].isOfKind ``Lean.Parser.Command.definition||s[1].isOfKind ``Lean.Parser.Command.abbrev)&&s[0][4].getNumArgs == 0&&s[1][1][0].getId != `bmV then pure (s.setArg 0 (s[0].setArg 4 (Lean.mkNullNode #[Lean.mkNode ``Lean.Parser.Command.noncomputable #[Lean.mkAtom "noncomputable"]]))) else Lean.Macro.throwUnsupported
set_option hygiene false
local macro_rules | `(⋯)=>`(by omega)
local macro_rules | `(⇑$x)=>`(con (.int $x))
local macro_rules | `(↥$n:num)=>match n.getNat with | 0=>`(PySem.W.fnOf x qual (dq st) (ag st) (aa st) .none kV doc pm an cdv ct) | 1=>`(Life.mk [] [] [] 0 [] [] false #[] [] 0 false false false 0 [2000,10,10] false 0 true [] [] 0 false) | 2=>`(by decide) | 3=>`(E+F) | 4=>`(model X.prog X.w) | 5=>`(.type "tuple") | 6=>`(.tup [.int E,.int F]) | 7=>`(cxU X xs ksn sc C fp s H W) | 8=>`(importedModules (Program.main PySem.Challenge.pw_roundmill_k45_whole_kept_turn).body) | 9=>`(Shared.mk (hf w.params) ⟨[]⟩ (Drawn.mk 0 0 0 0) 894 os) | 10=>`(Addr×Obj) | 11=>`(bin oIx (var 0) ⇑1) | 12=>`(Int×Int) | 13=>`(nI E F) | 14=>`(vS "roundmill.errors" 187) | 15=>`(cxU X xs ksn sc s3.heap.objs.size fp s3 H3 WW) | 16=>`(cxU X [x] ksn sc C fp s H W) | 17=>`(model prog w) | 18=>`(dR I q (by simp)) | 19=>`(if g=1 then -(vl F K) else vl F K) | 20=>`(hide H os) | 21=>`(ao.refl _) | 22=>`(nc E F t n) | 23=>`(Nat.le_refl _) | 24=>`(s*pw ↥3+c) | 25=>`((false,eval e X.env)) | 26=>`((xs.map ↥13).map .int) | 27=>`(bin oIx (var 0) ⇑0) | 28=>`(.bl false) | 29=>`(s.heap.objs.size+1) | 30=>`(.ListComp elt [⟨tg,iter,ifs,0⟩] sc pos) | 31=>`(.type "builtin_function_or_method") | 32=>`(.bl true) | 33=>`(.type "BaseException") | 34=>`((∀ y∈xs,(cxU X xs ksn sc C fp s H W).env.scope.names.lookup y=some .local)) | 35=>`(x == ("__debug__":Str)) | 36=>`(some (.builtin "ValueError.__new__")) | 37=>`(.Pass ⟨0,0,0,0⟩) | 38=>`(if X<0 then 1 else 0) | 39=>`(.builtin "object.__init_subclass__") | _=>Lean.Macro.throwUnsupported
set_option hygiene true
namespace L2
open PySem PySem.Spec PyProof.Rows
abbrev Key:=Sum Int Str
def JD:Key->Value->Bool
 | .inl k,v=>Value.isInt k v
 | .inr x,v=>Value.isStrOf x v
def Rt (w:World):Key->Int
 | .inl k=>hashInt k
 | .inr x=>hashStr w x
theorem aV:∀ {k:Key} {v:Value},JD k v=true->(∃ i t,k=Sum.inl i/\v=Value.int i t)\/(∃ x t,k=Sum.inr x/\v=Value.str x t)
 | .inl i,v,h=>by
  obtain ⟨t,e⟩:=Value.isInt_shape (k:=i) (v:=v) h
  exact .inl ⟨i,t,rfl,e⟩
 | .inr x,v,h=>by
  obtain ⟨t,e⟩:=Value.isStrOf_shape (x:=x) (v:=v) h
  exact .inr ⟨x,t,rfl,e⟩
theorem JC (a b:Int):decide ((Sum.inl a:Key)=Sum.inl b)=(a == b):=by
 by_cases e:a=b
 ·subst e;simp
 ·have h:¬ (Sum.inl a:Key)=Sum.inl b:=fun q=>e (Sum.inl.inj q)
  rw [decide_eq_false h]
  exact (beq_eq_false_iff_ne.mpr e).symm
theorem Jz (a b:Str):decide ((Sum.inr a:Key)=Sum.inr b)=decide (a=b):=by
 by_cases e:a=b
 ·subst e;simp
 ·have h:¬ (Sum.inr a:Key)=Sum.inr b:=fun q=>e (Sum.inr.inj q)
  rw [decide_eq_false h,decide_eq_false e]
theorem JB (a:Int) (b:Str):decide ((Sum.inl a:Key)=Sum.inr b)=false:=decide_eq_false (fun q=>nomatch q)
theorem JA (a:Str) (b:Int):decide ((Sum.inr a:Key)=Sum.inl b)=false:=decide_eq_false (fun q=>nomatch q)
def yh (prog:Program) (w:World):PySem.KeyKind prog w Key where
 is:=JD
 hash:=Rt w
 inj:=fun v a b ha hb=>by
  rcases aV ha with ⟨i,t,rfl,rfl⟩ | ⟨x,t,rfl,rfl⟩
  ·rcases aV hb with ⟨j,u,rfl,e⟩ | ⟨y,u,rfl,e⟩
   ·injection e with e1 _;rw [e1]
   ·exact nomatch e
  ·rcases aV hb with ⟨j,u,rfl,e⟩ | ⟨y,u,rfl,e⟩
   ·exact nomatch e
   ·injection e with e1 _;rw [e1]
 byValue:=fun k v h=>by
  rcases aV h with ⟨i,t,rfl,rfl⟩ | ⟨x,t,rfl,rfl⟩<;>rfl
 pyHash:=fun hv h=>by
  rcases aV hv with ⟨i,t,rfl,rfl⟩ | ⟨x,t,rfl,rfl⟩
  ·exact wpAny_pyHash_int h
  ·exact wpAny_pyHash_str h
 eqBool:=fun hu hv h=>by
  rcases aV hu with ⟨i,t,rfl,rfl⟩ | ⟨x,t,rfl,rfl⟩
  ·rcases aV hv with ⟨j,u,rfl,rfl⟩ | ⟨y,u,rfl,rfl⟩
   ·rw [JC] at h;exact wpAny_eqBool_int h
   ·rw [JB] at h;exact SeqAt.EqAt.int_str i t y u _ _ _ _ h
  ·rcases aV hv with ⟨j,u,rfl,rfl⟩ | ⟨y,u,rfl,rfl⟩
   ·rw [JA] at h;exact SeqAt.EqAt.str_int x t j u _ _ _ _ h
   ·rw [Jz] at h;exact wpAny_eqBool_str h
 «strs»:=fun k x t v h=>by
  rcases aV h with ⟨i,u,rfl,e⟩ | ⟨y,u,rfl,e⟩
  ·exact nomatch e
  ·injection e with e1 _
   subst e1
   cases v<;>rfl
end L2
namespace L2
open PySem PySem.Spec PyProof.Rows
inductive V where
 | non | bl (b:Bool) | int (i:Int) | str (x:Str) | byt (b:Array UInt8) | flt (b:UInt64) | ref (a:Addr) | ty (n:String)
 deriving DecidableEq
def RelV:V->Value->Prop
 | .non,u=>u=Value.none
 | .bl b,u=>u=Value.bool b
 | .int i,u=>∃ t,u=Value.int i t
 | .str x,u=>∃ t,u=Value.str x t
 | .byt b,u=>∃ t,u=Value.bytes b t
 | .flt b,u=>∃ t,u=Value.float b t
 | .ref a,u=>u=Value.ref a
 | .ty n,u=>u=Value.type n
abbrev Vals:List V->List Value->Prop:=Paired RelV
theorem Vals.length {xs:List V} {us:List Value} (r:Vals xs us):xs.length=us.length:=Paired.length r
theorem Vals.get:∀ {xs:List V} {us:List Value} {i:Nat} {x:V},Vals xs us->xs[i]? = some x->∃ u,us[i]? = some u/\RelV x u
 | _,_,_,_,.nil,e=>by simp at e
 | _,_,0,_,.cons r _,e=>by simp at e;subst e;exact ⟨_,rfl,r⟩
 | _,_,i+1,x,.cons _ t,e=>by
  obtain ⟨u,h1,h2⟩:=Vals.get (i:=i) (x:=x) t (by simpa using e)
  exact ⟨u,by simpa using h1,h2⟩
theorem Vals.append:∀ {xs ys:List V} {us ws:List Value},Vals xs us->Vals ys ws->Vals (xs++ys) (us++ws)
 | _,_,_,_,.nil,s=>s
 | _,_,_,_,.cons r t,s=>.cons r (Vals.append t s)
theorem Vals.take:∀ {xs:List V} {us:List Value} (n:Nat),Vals xs us->Vals (xs.take n) (us.take n)
 | _,_,0,_=>.nil
 | _,_,_+1,.nil=>.nil
 | _,_,n+1,.cons r t=>.cons r (Vals.take n t)
theorem Vals.drop:∀ {xs:List V} {us:List Value} (n:Nat),Vals xs us->Vals (xs.drop n) (us.drop n)
 | _,_,0,r=>r
 | _,_,_+1,.nil=>.nil
 | _,_,n+1,.cons _ t=>Vals.drop n t
def zT:Option V->Option Value->Prop
 | some v,some u=>RelV v u
 | none,none=>True
 | _,_=>False
def KV {κ:Type}:List (κ×V)->List (κ×Value)->Prop:=Paired fun (p:κ×V) (q:κ×Value)=>p.1=q.1/\RelV p.2 q.2
def kV:Key->V
 | .inl i=>.int i
 | .inr x=>.str x
inductive HO where
 /-- a list -/
 | lst (xs:List V)
 /-- a tuple (never changes) -/
 | tup (xs:List V)
 /-- a dict whose keys are ints and texts;one whose keys are tuples of ints and texts (the empty one is both) -/
 | dK (kvs:List (Key×V)) | dT (kvs:List (List Key×V))
 /-- a set of ints: its members,its size -/
 | set (S:Int->Bool) (n:Nat)
 /-- an instance of the class at C,its dict at dx,its attributes -/
 | ins (C dx:Addr) (fs:List (Str×V))
 /-- the dict of the instance at x -/
 | own (x:Addr)
 /-- the dict of an exception -/
 | xd (fs:List (Str×V))
 /-- a bound method,f of x -/
 | met (f x:Addr)
 /-- a range object lo,lo+1,.. below hi -/
 | rng (lo hi:Int)
 /-- a thing that is known to the object (the script;a dict while a loop walks it): read,never written while it is so -/
 | frz (o:Obj) (u:HO)
 /-- a code object's table -/
 | tbl (ps:Array Value)
 /-- any other thing,by what is true of its one object (a def of one's own: SetO a S n:=HO.ext fun h=>..) -/
 | ext (φ:Heap->Prop)
abbrev Hp:=Addr->Option HO
def upd (H:Hp) (a:Addr) (o:HO):Hp:=fun b=>if b=a then some o else H b
theorem au {H:Hp} {a:Addr} {o:HO}:upd H a o a=some o:=by unfold upd;rw [if_pos rfl]
theorem aB {H:Hp} {a b:Addr} {o:HO} (h:b≠a):upd H a o b=H b:=by unfold upd;rw [if_neg h]
theorem bR {H:Hp} {a b:Addr} {o:HO} (h:H a=some o) (h':H b=none):a≠b:=by
 intro e;subst e;rw [h] at h';cases h'
section
variable (P:Program) (w:World)
def gW (H:Hp) (h:Heap) (a:Addr):HO->Prop
 | .lst xs=>xs.length<=sizeLine/\∃ (its:List Value) (n:Nat),Vals xs its/\h.get? a=some { cls:=.type "list",data:=.seq its.toArray n }
 | .tup xs=>xs.length<=sizeLine/\∃ its:List Value,Vals xs its/\IsTup h a its.toArray
 | .dK kvs=>kvs.length<=sizeLine/\(a == sysModules)=false/\∃ vs,KV kvs vs/\h.DictOf (yh P w) a vs
 | .dT kvs=>kvs.length<=sizeLine/\(a == sysModules)=false/\∃ xs:List (List Key×Addr×Value),
   Paired (fun (p:List Key×V) (q:List Key×Addr×Value)=>p.1=q.1/\H q.2.1=some (.tup (p.1.map kV))/\RelV p.2 q.2.2) kvs xs /\
   ∃ o es ep,h.get? a=some o/\o.ExactDict/\o.data=.dict es ep/\es.toList=xs.map (entryOfKey (tupleKind (yh P w)))/\(xs.map (·.1)).Nodup
 | .set S n=>h.SetOf (intKind P w) a S n
 | .ins C dx fs=>H dx=some (.own a)/\fs.length<=1000/\dx≠a/\h.get? a=some (PySem.W.instObj C dx) /\
   ∃ mA,h.Ns1 dx mA/\(∀ f,zT (fs.lookup f) (mA f))/\PySem.Within mA (fs.map (·.1))
 | .own _=>∃ o,h.get? a=some o
 | .xd fs=>∃ mA,h.Ns1 a mA/\∀ f,zT (fs.lookup f) (mA f)
 | .rng lo hi=>∃ t u v,h.get? a=some { cls:=.type "range",data:=.fields #[.int lo t,.int hi u,.int 1 v] }
 | .frz o u=>h.get? a=some o/\gW H h a u
 | .tbl ps=>h.get? a=some { cls:=.none,data:=.fields ps }
 | .met f x=>h.get? a=some (PySem.W.methodObj (.ref f) (.ref x))
 | .ext φ=>φ h/\(∃ o,h.get? a=some o)/\∀ h1 h2:Heap,φ h1->(∀ o,h1.get? a=some o->h2.get? a=some o)->φ h2
def HOk (H:Hp) (h:Heap):Prop:=∀ a o,H a=some o->gW P w H h a o
end
section
variable {P:Program} {w:World} {H H':Hp} {h h':Heap} {a:Addr} {o:HO}
theorem gW.lt (x:gW P w H h a o):a<h.objs.size:=by
 cases o with
 | lst xs=>obtain ⟨_,_,_,_,e⟩:=x;exact Heap.lt_size e
 | tup xs=>obtain ⟨_,_,_,p⟩:=x;exact p.lt
 | dK kvs=>obtain ⟨_,_,_,_,o,_,_,e,_⟩:=x;exact Heap.lt_size e
 | dT kvs=>obtain ⟨_,_,_,_,o,_,_,e,_⟩:=x;exact Heap.lt_size e
 | set S n=>obtain ⟨o,_,_,_,e,_⟩:=x;exact Heap.lt_size e
 | ins C dx fs=>obtain ⟨_,_,_,e,_⟩:=x;exact Heap.lt_size e
 | own y=>obtain ⟨_,e⟩:=x;exact Heap.lt_size e
 | xd fs=>obtain ⟨_,⟨_,_,_,e,_⟩,_⟩:=x;exact Heap.lt_size e
 | rng lo hi=>obtain ⟨_,_,_,e⟩:=x;exact Heap.lt_size e
 | frz ob u=>obtain ⟨e,_⟩:=x;exact Heap.lt_size e
 | tbl ps=>exact Heap.lt_size (show h.get? a=some _ from x)
 | met f y=>exact Heap.lt_size (show h.get? a=some _ from x)
 | ext φ=>obtain ⟨_,⟨_,e⟩,_⟩:=x;exact Heap.lt_size e
theorem Paired.mapP {α β:Type} {F G:α->β->Prop}:∀ {l₁:List α} {l₂:List β},Paired F l₁ l₂->(∀ a b,F a b->G a b)->Paired G l₁ l₂
 | _,_,.nil,_=>.nil
 | _,_,.cons r t,f=>.cons (f _ _ r) (Paired.mapP t f)
theorem gW.stay (x:gW P w H h a o) (k:∀ b u,(b=a\/H b=some (.own a))->h.get? b=some u->h'.get? b=some u)
  (ho:∀ b,H b=some (.own a)->H' b=some (.own a)) (ht:∀ b xs,H b=some (.tup xs)->H' b=some (.tup xs)):gW P w H' h' a o:=by
 induction o with
 | lst xs=>obtain ⟨z,its,n,r,e⟩:=x;exact ⟨z,its,n,r,k _ _ (.inl rfl) e⟩
 | tup xs=>obtain ⟨z,its,r,ob,e,c⟩:=x;exact ⟨z,its,r,ob,k _ _ (.inl rfl) e,c⟩
 | dK kvs=>obtain ⟨z,y,vs,r,ob,es,ep,e,c⟩:=x;exact ⟨z,y,vs,r,ob,es,ep,k _ _ (.inl rfl) e,c⟩
 | dT kvs =>
  obtain ⟨z,y,xs,r,ob,es,ep,e,c⟩:=x
  exact ⟨z,y,xs,Paired.mapP r fun p q z=>⟨z.1,ht _ _ z.2.1,z.2.2⟩,ob,es,ep,k _ _ (.inl rfl) e,c⟩
 | set S n=>obtain ⟨ob,es,ep,t,e,c⟩:=x;exact ⟨ob,es,ep,t,k _ _ (.inl rfl) e,c⟩
 | ins C dx fs =>
  obtain ⟨d,z,ne,e,mA,⟨od,es,ep,e2,c⟩,r⟩:=x
  exact ⟨ho _ d,z,ne,k _ _ (.inl rfl) e,mA,⟨od,es,ep,k _ _ (.inr d) e2,c⟩,r⟩
 | own y=>obtain ⟨ob,e⟩:=x;exact ⟨ob,k _ _ (.inl rfl) e⟩
 | xd fs=>obtain ⟨mA,⟨od,es,ep,e,c⟩,r⟩:=x;exact ⟨mA,⟨od,es,ep,k _ _ (.inl rfl) e,c⟩,r⟩
 | rng lo hi=>obtain ⟨t,u,v,e⟩:=x;exact ⟨t,u,v,k _ _ (.inl rfl) e⟩
 | frz ob u ih=>obtain ⟨e,q⟩:=x;exact ⟨k _ _ (.inl rfl) e,ih q⟩
 | tbl ps =>
  have e:h.get? a=some { cls:=.none,data:=.fields ps }:=x
  show h'.get? a=some { cls:=.none,data:=.fields ps }
  exact k a _ (.inl rfl) e
 | met f y =>
  have e:h.get? a=some (PySem.W.methodObj (.ref f) (.ref y)):=x
  show h'.get? a=some (PySem.W.methodObj (.ref f) (.ref y))
  exact k a _ (.inl rfl) e
 | ext φ=>obtain ⟨p,⟨o,e⟩,st⟩:=x;exact ⟨st _ _ p fun o q=>k _ _ (.inl rfl) q,⟨o,k _ _ (.inl rfl) e⟩,st⟩
theorem HOk.lt (x:HOk P w H h) (e:H a=some o):a<h.objs.size:=(x a o e).lt
theorem HOk.fresh (x:HOk P w H h) (e:h.objs.size<=a):H a=none:=by
 cases q:H a with
 | none=>rfl
 | some u=>exact absurd (Nat.lt_of_lt_of_le (x.lt q) e) (Nat.lt_irrefl _)
theorem HOk.kept (x:HOk P w H h) (k:∀ b u,h.get? b=some u->h'.get? b=some u):HOk P w H h':=fun a o e =>
 (x a o e).stay (fun b u _ q=>k b u q) (fun _ q=>q) fun _ _ q=>q
theorem HOk.laid (x:HOk P w H h) (k:∀ b u,h.get? b=some u->h'.get? b=some u) (hp:h.objs.size<=a) (new:gW P w (upd H a o) h' a o):HOk P w (upd H a o) h':=fun b u e=>by
 have hn:=x.fresh hp
 by_cases hb:b=a
 ·subst hb;rw [au] at e;cases e;exact new
 ·rw [aB hb] at e
  exact (x b u e).stay (fun c v _ q=>k c v q) (fun c q=>by rw [aB (bR q hn)];exact q) fun c xs q=>by rw [aB (bR q hn)];exact q
end
def Rd (H:Hp) (a:Addr) (u:HO):Prop:=H a=some u\/∃ o,H a=some (.frz o u)
theorem Rd.ok {P:Program} {w:World} {H:Hp} {h:Heap} {a:Addr} {u:HO} (r:Rd H a u) (x:HOk P w H h):gW P w H h a u:=by
 rcases r with r | ⟨o,r⟩
 ·exact x a u r
 ·obtain ⟨_,q⟩:=x a _ r
  exact q
def Mut:Option HO->Prop
 | some (.lst _)=>True
 | some (.dK _)=>True
 | some (.dT _)=>True
 | some (.set _ _)=>True
 | some (.ins _ _ _)=>True
 | some (.ext _)=>True
 | _=>False
section
variable {P:Program} {w:World} {H:Hp} {h h':Heap} {x e:Addr} {o':HO}
theorem HOk.write (ok:HOk P w H h) (mu:Mut (H x)) (he:e=x\/H e=some (.own x)) (k:∀ b u,b≠e->h.get? b=some u->h'.get? b=some u) (heo:∃ u,h'.get? e=some u)
  (new:gW P w (upd H x o') h' x o'):HOk P w (upd H x o') h':=fun b u q=>by
 have nown:∀ c y,H c=some (.own y)->c≠x:=fun c y r z=>by subst z;rw [r] at mu;exact mu
 have ntup:∀ c xs,H c=some (.tup xs)->c≠x:=fun c xs r z=>by subst z;rw [r] at mu;exact mu
 by_cases hb:b=x
 ·subst hb;rw [au] at q;cases q;exact new
 ·rw [aB hb] at q
  by_cases hbe:b=e
  ·have q':H b=some (.own x):=by
    rcases he with z | z
    ·exact absurd (hbe.trans z) hb
    ·rw [hbe];exact z
   rw [q] at q';cases q'
   obtain ⟨v,hv⟩:=heo
   exact ⟨v,by rw [hbe];exact hv⟩
  ·refine (ok b u q).stay (fun c v hc r=>k c v ?_ r) (fun c r=>by rw [aB (nown c b r)];exact r) fun c xs r=>by rw [aB (ntup c xs r)];exact r
   rcases hc with rfl | hc
   ·exact hbe
   ·rintro rfl
    rcases he with z | z
    ·exact nown c b hc z
    ·rw [hc] at z;cases z;exact hb rfl
end
structure Un (fs ex:List Addr) (H H':Hp) (h h':Heap):Prop where
 keep:∀ b o,h.get? b=some o->H b=none->b∉fs->b∉ex->h'.get? b=some o
 slot:∀ b o,h.get? b=some o->H b=none->b∈fs->b∉ex->∃ sl,h'.get? b=some { o with slots:=sl }
 free:∀ b o,h.get? b=some o->H b=none->b∉ex->H' b=none
 there:∀ b o,h.get? b=some o->b∉ex->∃ o',h'.get? b=some o'
 tups:∀ b xs,H b=some (.tup xs)->H' b=some (.tup xs)
 frzs:∀ b o u,H b=some (.frz o u)->H' b=some (.frz o u)
 tbls:∀ b ps,H b=some (.tbl ps)->∃ more,H' b=some (.tbl (ps++more))
section
variable {fs fs' ex ex':List Addr} {H H1 H2:Hp} {h h1 h2 h':Heap} {a x e:Addr} {o:HO}
theorem Un.any (u:Un fs ex H H1 h h1) {b:Addr} {ob:Obj} (q:h.get? b=some ob) (n:H b=none) (hx:b∉ex):∃ sl,h1.get? b=some { ob with slots:=sl }:=by
 by_cases hb:b∈fs
 ·exact u.slot b ob q n hb hx
 ·exact ⟨ob.slots,u.keep b ob q n hb hx⟩
theorem Un.kept (k:∀ b u,h.get? b=some u->h'.get? b=some u):Un fs ex H H h h' :=
 ⟨fun b ob q _ _ _=>k b ob q,fun b ob q _ _ _=>⟨ob.slots,k b ob q⟩,fun _ _ _ n _=>n,fun b ob q _=>⟨ob,k b ob q⟩,fun _ _ q=>q,fun _ _ _ q=>q,fun _ ps q=>⟨#[],by rw [q];simp⟩⟩
theorem Un.refl:Un fs ex H H h h:=Un.kept fun _ _ q=>q
theorem Un.laid (k:∀ b u,h.get? b=some u->h'.get? b=some u) (hp:h.objs.size<=a) (hn:H a=none):Un fs ex H (upd H a o) h h' where
 keep:=fun b u q _ _ _=>k b u q
 slot:=fun b u q _ _ _=>⟨u.slots,k b u q⟩
 free:=fun b u q n _=>by rw [aB (Nat.ne_of_lt (Nat.lt_of_lt_of_le (Heap.lt_size q) hp))];exact n
 there:=fun b u q _=>⟨u,k b u q⟩
 tups:=fun b xs q=>by rw [aB (bR q hn)];exact q
 frzs:=fun b u xs q=>by rw [aB (bR q hn)];exact q
 tbls:=fun b ps q=>⟨#[],by rw [aB (bR q hn),q];simp⟩
theorem Un.write (mu:Mut (H x)) (he:e=x\/H e=some (.own x)) (k:∀ b u,b≠e->h.get? b=some u->h'.get? b=some u) (heo:∃ u,h'.get? e=some u):Un fs ex H (upd H x o) h h':=by
 have hx:∀ b,H b=none->b≠x:=fun b n z=>by subst z;rw [n] at mu;exact mu
 have hb:∀ b,H b=none->b≠e:=fun b n z=>by
  subst z
  rcases he with r | r
  ·exact hx b n r
  ·rw [n] at r;cases r
 have hm:∀ b u,H b=some u->¬ Mut (some u)->b≠x:=fun b u q nm z=>by subst z;rw [q] at mu;exact nm mu
 refine ⟨fun b u q n _ _=>k b u (hb b n) q,fun b u q n _ _=>⟨u.slots,k b u (hb b n) q⟩,fun b u q n _=>by rw [aB (hx b n)];exact n,fun b u q _ => ?_,
  fun b xs q=>by rw [aB (hm b _ q fun z=>z)];exact q,fun b u xs q=>by rw [aB (hm b _ q fun z=>z)];exact q,fun b ps q=>⟨#[],by rw [aB (hm b _ q fun z=>z),q];simp⟩⟩
 by_cases hbe:b=e
 ·subst hbe;exact heo
 ·exact ⟨u,k b u hbe q⟩
end
def trk (h:Heap) (H:Hp):List Addr:=(List.range h.objs.size).filter fun a=>(H a).isSome
def BO (h:Heap) (H:Hp):Heap:=PySem.W.hideAll h (trk h H)
theorem yC (h:Heap) (H:Hp):(BO h H).objs.size=h.objs.size:=PySem.W.hideAll_size _ _
theorem BN {h:Heap} {H:Hp} {b:Addr} {o:Obj} (e:h.get? b=some o) (n:H b=none):(BO h H).get? b=some o :=
 PySem.W.hideAll_get _ e fun hm=>by
  have q:(H b).isSome=true:=(List.mem_filter.mp hm).2
  rw [n] at q;simp at q
theorem Fp {h:Heap} {H:Hp} {b:Addr} {o:Obj} (e:(BO h H).get? b=some o):h.get? b=some o/\H b=none:=by
 have e':h.get? b=some o:=PySem.W.of_hideAll (trk h H) e
 refine ⟨e',?_⟩
 cases q:H b with
 | none=>rfl
 | some x =>
  have hm:b∈trk h H:=List.mem_filter.mpr ⟨List.mem_range.mpr (Heap.lt_size e'),by simp [q]⟩
  have z:(BO h H).get? b=none:=PySem.W.hideAll_none (trk h H) hm
  rw [z] at e;cases e
def G1 (g h:Heap) (L:Addr):List ↥10:=(List.range h.objs.size).filterMap fun a=>if a=L\/(g.get? a).isSome=true then none else (h.get? a).map fun o=>(a,o)
def rest (g h:Heap) (L d:Addr):List ↥10:=(G1 g h L).filter fun p=>decide (p.1≠d)
end L2
namespace L2
open PySem PySem.Spec PyProof.Rows
structure Mod (K:PySem.W.Frag) (mg:Str->Option Value) (base:Heap):Prop where
 kin:K.In base
 glob:base.Ns mainGlobals mg
 blt:∃ mb,base.Ns builtinsNs mb/\∀ x:Str,x≠"__name__"->mb x=bootBuiltins x
 nolimit:base.NoLimit
structure Cx where
 prog:Program
 w:World
 K:PySem.W.Frag
 mg:Str->Option Value
 base:Heap
 A:Around
 N:List Str
 s₀:Shared
 H₀:Hp
 env:Env
 outer:List Env
 stack:List Env
 ex:List Addr
 fn:Str->Bool
 calm:Bool
 pn:List ↥10
 xe:Value->Shared->Prop
def frs (l:List Env):List Addr:=l.filterMap (·.frame)
abbrev Cx.fs (X:Cx):List Addr:=frs X.outer
def Vis (sc:Scope) (x:Str):Prop:=sc.names.lookup x=some .local\/sc.names.lookup x=some .cell\/sc.names.lookup x=some .free
def Loc (sc:Scope) (x:Str):Prop:=sc.names.lookup x=some .local\/sc.names.lookup x=some .cell
def Look (env:Env) (h:Heap) (m:Str->Option Value) (x:Str) (u:Value):Prop :=
 (env.kindOf x=some .local/\m x=some u)\/((env.kindOf x=some .cell\/env.kindOf x=some .free)/\∃ c,env.cells.lookup x=some c/\h.IsCell c (some u))
structure Cx.Ok (X:Cx):Prop where
 mod:Mod X.K X.mg X.base
 kind:X.env.scope.kind=.function
 glob:X.env.globals=mainGlobals
 blt:X.env.builtins=builtinsNs
 above:X.s₀.heap.objs.size<=X.env.locals
 inj:∀ x y c,X.env.cells.lookup x=some c->X.env.cells.lookup y=some c->x=y
 has:∀ x,(X.env.kindOf x=some .cell\/X.env.kindOf x=some .free)->∃ c,X.env.cells.lookup x=some c
 cab:∀ x c,X.fn x=true->X.env.cells.lookup x=some c->X.s₀.heap.objs.size<=c
 hd:X.calm=true->X.A.handled=none
 frames:X.A.frames=some X.stack
 stk:X.stack=X.outer\/(X.stack=X.env::X.outer/\X.env.frame=some X.env.locals)
 exf:∀ b∈X.ex,b≠X.env.locals/\∀ x c,X.env.cells.lookup x=some c->c≠b
 bs:∀ b o,X.base.get? b=some o->X.s₀.heap.get? b=some o/\X.H₀ b=none
 bsz:X.base.objs.size<=X.s₀.heap.objs.size
 noex:∀ b o,X.base.get? b=some o->b∉X.ex
 exfs:∀ b∈X.ex,b∉X.fs
 funs:X.s₀.heap.FunFrames X.base X.outer
 frf:∀ b∈X.fs,X.H₀ b=none
structure Inv (X:Cx) (pins:List ↥10) (σ:List (Option V)) (H:Hp) (s:Shared):Prop where
 ok:X.Ok
 os:s.os=X.s₀.os
 bare:AllBare s.gens
 base:Un X.fs X.ex X.H₀ H X.s₀.heap s.heap
 loc:∃ m,s.heap.Ns X.env.locals m/\∀ (i:Nat) (x:Str) (v:V),X.N[i]? = some x->σ[i]? = some (some v)->Vis X.env.scope x->∃ u,RelV v u/\Look X.env s.heap m x u
 cell:∀ x c,X.env.cells.lookup x=some c->∃ v,s.heap.IsCell c v
 free:H X.env.locals=none
 freeC:∀ x c,X.env.cells.lookup x=some c->H c=none
 pin:∀ p∈X.pn++pins,s.heap.get? p.1=some p.2/\H p.1=none/\p.1≠X.env.locals/\p.1∉X.fs/\∀ v,p.2.data ≠ .cell v
 hok:HOk X.prog X.w H s.heap
 len:σ.length=X.N.length
section
variable {X:Cx} {pins:List ↥10} {σ:List (Option V)} {H H':Hp} {s:Shared} {h':Heap}
theorem Cx.Ok.nofr (ok:X.Ok) {b:Addr} {o:Obj} (e:X.base.get? b=some o):b∉X.fs:=fun hb=>by
 have:=(ok.funs.mem hb).1
 rw [e] at this;cases this
theorem Inv.bs (I:Inv X pins σ H s):∀ b o,X.base.get? b=some o->s.heap.get? b=some o/\H b=none:=fun b o e =>
 ⟨I.base.keep b o (I.ok.bs b o e).1 (I.ok.bs b o e).2 (I.ok.nofr e) (I.ok.noex b o e),I.base.free b o (I.ok.bs b o e).1 (I.ok.bs b o e).2 (I.ok.noex b o e)⟩
theorem Inv.bk (I:Inv X pins σ H s):∀ b o,X.base.get? b=some o->s.heap.get? b=some o:=fun b o e=>(I.bs b o e).1
theorem Inv.mod (I:Inv X pins σ H s):Mod X.K X.mg X.base:=I.ok.mod
theorem Inv.kIn (I:Inv X pins σ H s):X.K.In s.heap:=I.ok.mod.kin.keeps I.bk
theorem Inv.lt (I:Inv X pins σ H s):X.env.locals<s.heap.objs.size:=let ⟨_,hn,_⟩:=I.loc;hn.lt
theorem Inv.sz (I:Inv X pins σ H s):X.s₀.heap.objs.size<=s.heap.objs.size:=Nat.le_trans I.ok.above (Nat.le_of_lt I.lt)
theorem Inv.nofs (I:Inv X pins σ H s) {a:Addr} (h:s.heap.objs.size<=a):a∉X.fs:=fun hb=>by
 obtain ⟨_,o,ho,_⟩:=I.ok.funs.mem hb
 exact absurd (Nat.lt_of_lt_of_le (Heap.lt_size ho) (Nat.le_trans I.sz h)) (Nat.lt_irrefl _)
theorem Inv.cne (I:Inv X pins σ H s):∀ x c,X.env.cells.lookup x=some c->c≠X.env.locals:=fun x c e z=>by
 obtain ⟨v,o,ho,hd⟩:=I.cell x c e
 obtain ⟨m,⟨o',es,ep,ho',hd',_⟩,_⟩:=I.loc
 rw [z,ho'] at ho;cases ho;rw [hd'] at hd;cases hd
theorem Inv.funs (I:Inv X pins σ H s):s.heap.FunFrames X.base X.outer:=by
 have all:∀ (l:List Env),(∀ b∈frs l,b∈X.fs)->X.s₀.heap.FunFrames X.base l->s.heap.FunFrames X.base l:=by
  intro l
  induction l with
  | nil=>intro _ _;trivial
  | cons env r ih =>
   intro hs hl
   obtain ⟨hk,⟨L,o,hf,hn,ho,hd⟩,hr⟩:=hl
   have hL:L∈X.fs:=hs L (by unfold frs;rw [List.filterMap_cons,hf];exact List.mem_cons_self)
   obtain ⟨sl,e⟩:=I.base.slot L o ho (I.ok.frf L hL) hL fun z=>I.ok.exfs L z hL
   exact ⟨hk,⟨L,_,hf,hn,e,hd⟩,ih (fun b hb=>hs b (by unfold frs;rw [List.filterMap_cons,hf];exact List.mem_cons_of_mem _ hb)) hr⟩
 exact all X.outer (fun _ hb=>hb) I.ok.funs
theorem Inv.stack (I:Inv X pins σ H s):s.heap.FunFrames X.base X.stack:=by
 rcases I.ok.stk with e | ⟨e,hf⟩
 ·rw [e];exact I.funs
 ·rw [e]
  obtain ⟨m,hn,_⟩:=I.loc
  refine .cons (by rw [I.ok.kind];decide) hf hn ?_ I.funs
  exact Heap.get?_none_of_le (Nat.le_trans I.ok.bsz I.ok.above)
theorem Inv.stkSub (I:Inv X pins σ H s):∀ b∈frs X.stack,b∈X.env.locals::X.fs:=fun b hb=>by
 rcases I.ok.stk with e | ⟨e,hf⟩
 ·rw [e] at hb;exact List.mem_cons_of_mem _ hb
 ·rw [e] at hb
  unfold frs at hb
  rw [List.filterMap_cons,hf] at hb
  exact hb
theorem Inv.stkFree (I:Inv X pins σ H s):∀ b∈frs X.stack,H b=none:=fun b hb=>by
 rcases List.mem_cons.mp (I.stkSub b hb) with e | hb
 ·rw [e];exact I.free
 ·obtain ⟨_,o,ho,_⟩:=I.ok.funs.mem hb
  exact I.base.free b o ho (I.ok.frf b hb) fun z=>I.ok.exfs b z hb
theorem Inv.step {g':Array GenState} {t':Nat} {d':Drawn} {ch:List Addr} (I:Inv X pins σ H s)
  (hch:∀ b∈ch,(b∈X.ex\/X.s₀.heap.objs.size<=b)/\b≠X.env.locals/\(∀ x c,X.env.cells.lookup x=some c->c≠b)/\∀ p∈X.pn++pins,p.1≠b)
  (keep:∀ b o,b≠X.env.locals->b∉X.fs->b∉ch->s.heap.get? b=some o->H b=none->h'.get? b=some o)
  (slot:∀ b o,b≠X.env.locals->b∈X.fs->b∉ch->s.heap.get? b=some o->H b=none->∃ sl,h'.get? b=some { o with slots:=sl }) (free:∀ b o,b∉ch->s.heap.get? b=some o->H b=none->H' b=none)
  (there:∀ b o,b∉ch->s.heap.get? b=some o->∃ o',h'.get? b=some o')
  (tups:∀ b xs,H b=some (.tup xs)->H' b=some (.tup xs)) (frzs:∀ b o u,H b=some (.frz o u)->H' b=some (.frz o u)) (tbls:∀ b ps,H b=some (.tbl ps)->∃ more,H' b=some (.tbl (ps++more)))
  (ns:∀ m,s.heap.Ns X.env.locals m->h'.Ns X.env.locals m) (hok:HOk X.prog X.w H' h') (hg:AllBare g') :
  Inv X pins σ H' { s with heap:=h',gens:=g',drawn:=d',toks:=t' }:=by
 have neL:∀ b o,X.s₀.heap.get? b=some o->b≠X.env.locals:=fun b o e=>Nat.ne_of_lt (Nat.lt_of_lt_of_le (Heap.lt_size e) I.ok.above)
 have neC:∀ b o,X.s₀.heap.get? b=some o->b∉X.ex->b∉ch:=fun b o e hx hb=>by
  rcases (hch b hb).1 with z | z
  ·exact hx z
  ·exact absurd (Nat.lt_of_lt_of_le (Heap.lt_size e) z) (Nat.lt_irrefl _)
 have cellK:∀ x c,X.env.cells.lookup x=some c->∀ v,s.heap.IsCell c v->h'.IsCell c v:=fun x c e v ⟨o,ho,hd⟩=>by
  have nch:c∉ch:=fun z=>(hch c z).2.2.1 x c e rfl
  by_cases hc:c∈X.fs
  ·obtain ⟨sl,q⟩:=slot c o (I.cne x c e) hc nch ho (I.freeC x c e)
   exact ⟨_,q,hd⟩
  ·exact ⟨o,keep c o (I.cne x c e) hc nch ho (I.freeC x c e),hd⟩
 refine ⟨I.ok,I.os,hg,⟨fun b o e n hb hx => ?_,fun b o e n hb hx => ?_,fun b o e n hx => ?_,fun b o e hx => ?_,fun b xs e=>tups b xs (I.base.tups b xs e),fun b o xs e=>frzs b o xs (I.base.frzs b o xs e),fun b ps e => ?_⟩,?_,fun x c e => ?_,?_,fun x c e => ?_,fun p hp => ?_,hok,I.len⟩
 ·exact keep b o (neL b o e) hb (neC b o e hx) (I.base.keep b o e n hb hx) (I.base.free b o e n hx)
 ·obtain ⟨sl,e1⟩:=I.base.slot b o e n hb hx
  obtain ⟨sl',e2⟩:=slot b _ (neL b o e) hb (neC b o e hx) e1 (I.base.free b o e n hx)
  exact ⟨sl',e2⟩
 ·obtain ⟨o',e1⟩:=I.base.there b o e hx
  exact free b o' (neC b o e hx) e1 (I.base.free b o e n hx)
 ·obtain ⟨o',e1⟩:=I.base.there b o e hx
  exact there b o' (neC b o e hx) e1
 ·obtain ⟨m1,e1⟩:=I.base.tbls b ps e
  obtain ⟨m2,e2⟩:=tbls b _ e1
  exact ⟨m1++m2,by rw [e2,Array.append_assoc]⟩
 ·obtain ⟨m,hn,hl⟩:=I.loc
  refine ⟨m,ns m hn,fun i x v e1 e2 e3 => ?_⟩
  obtain ⟨u,r,l⟩:=hl i x v e1 e2 e3
  refine ⟨u,r,?_⟩
  rcases l with l | ⟨k,c,e,z⟩
  ·exact .inl l
  ·exact .inr ⟨k,c,e,cellK x c e _ z⟩
 ·obtain ⟨v,z⟩:=I.cell x c e
  exact ⟨v,cellK x c e v z⟩
 ·obtain ⟨m,⟨o,_,_,ho,_⟩,_⟩:=I.loc
  exact free _ o (fun z=>(hch _ z).2.1 rfl) ho I.free
 ·obtain ⟨v,o,ho,hd⟩:=I.cell x c e
  exact free c o (fun z=>(hch c z).2.2.1 x c e rfl) ho (I.freeC x c e)
 ·obtain ⟨e,n,ne,nf,d⟩:=I.pin p hp
  have nch:p.1∉ch:=fun z=>(hch p.1 z).2.2.2 p hp rfl
  exact ⟨keep p.1 p.2 ne nf nch e n,free p.1 p.2 nch e n,ne,nf,d⟩
theorem Inv.un {t':Nat} (I:Inv X pins σ H s) (u:Un X.fs [] H H' s.heap h') (hok:HOk X.prog X.w H' h'):Inv X pins σ H' { s with heap:=h',toks:=t' }:=by
 obtain ⟨m,⟨o,es,ep,ho,r⟩,_⟩:=id I.loc
 obtain ⟨sl,hL⟩:=u.any ho I.free (by simp)
 exact I.step (g':=s.gens) (d':=s.drawn) (ch:=[]) (fun _ z=>nomatch z) (fun b o _ hb _ e n=>u.keep b o e n hb (by simp)) (fun b o _ hb _ e n=>u.slot b o e n hb (by simp)) (fun b o _ e n=>u.free b o e n (by simp)) (fun b o _ e=>u.there b o e (by simp)) u.tups u.frzs u.tbls (fun m' hm=>by
  obtain ⟨o',es',ep',ho',r'⟩:=hm
  rw [ho] at ho';cases ho'
  exact ⟨_,es',ep',hL,r'⟩) hok I.bare
theorem Inv.call {g':Array GenState} {t':Nat} {d':Drawn} {ch:List Addr} (I:Inv X pins σ H s) (u:Un (frs X.stack) ch H H' s.heap h') (hok:HOk X.prog X.w H' h') (hg:AllBare g')
  (hch:∀ b∈ch,(b∈X.ex\/X.s₀.heap.objs.size<=b)/\b≠X.env.locals/\(∀ x c,X.env.cells.lookup x=some c->c≠b)/\∀ p∈X.pn++pins,p.1≠b) :
  Inv X pins σ H' { s with heap:=h',gens:=g',drawn:=d',toks:=t' }:=by
 obtain ⟨m,⟨o,es,ep,ho,r⟩,_⟩:=id I.loc
 obtain ⟨sl,hL⟩:=u.any ho I.free fun z=>(hch _ z).2.1 rfl
 exact I.step (ch:=ch) hch (fun b o hL hb hc e n=>u.keep b o e n (fun z=>(List.mem_cons.mp (I.stkSub b z)).elim hL hb) hc) (fun b o _ _ hc e n=>u.any e n hc) (fun b o hc e n=>u.free b o e n hc) (fun b o hc e=>u.there b o e hc) u.tups u.frzs u.tbls (fun m' hm=>by
  obtain ⟨o',es',ep',ho',r'⟩:=hm
  rw [ho] at ho';cases ho'
  exact ⟨_,es',ep',hL,r'⟩) hok hg
theorem Inv.turned {t':Nat} {it:Addr} (I:Inv X pins σ H s) (k:∀ b o,b≠it->s.heap.get? b=some o->h'.get? b=some o) (hn:H it=none) (hL:it≠X.env.locals)
  (h1:it∈X.ex\/X.s₀.heap.objs.size<=it) (h2:∀ x c,X.env.cells.lookup x=some c->c≠it) (h3:∀ p∈X.pn++pins,p.1≠it):Inv X pins σ H { s with heap:=h',toks:=t' }:=by
 have nit:∀ b u,H b=some u->b≠it:=fun b u e z=>by rw [z,hn] at e;cases e
 refine I.step (g':=s.gens) (d':=s.drawn) (ch:=[it]) (fun b hb => ?_) (fun b o _ _ hc e _=>k b o (fun z=>hc (by simp [z])) e) (fun b o _ _ hc e _=>⟨o.slots,k b o (fun z=>hc (by simp [z])) e⟩) (fun _ _ _ _ n=>n)
  (fun b o hc e=>⟨o,k b o (fun z=>hc (by simp [z])) e⟩) (fun _ _ e=>e) (fun _ _ _ e=>e) (fun b ps e=>⟨#[],by rw [e];simp⟩) (fun m hm => ?_) (fun b u e => ?_) I.bare
 ·have e:b=it:=by simpa using hb
  subst e
  exact ⟨h1,hL,h2,h3⟩
 ·obtain ⟨o,es,ep,ho,r⟩:=hm
  exact ⟨o,es,ep,k _ o (Ne.symm hL) ho,r⟩
 ·refine (I.hok b u e).stay (fun c v hc q=>k c v ?_ q) (fun _ q=>q) fun _ _ q=>q
  rcases hc with z | z
  ·rw [z];exact nit b u e
  ·exact nit c _ z
theorem Inv.tok (I:Inv X pins σ H s) (t:Nat):Inv X pins σ H { s with toks:=t }:=I.un (h':=s.heap) (t':=t) Un.refl I.hok
theorem Inv.kept {t':Nat} (I:Inv X pins σ H s) (k:∀ b u,s.heap.get? b=some u->h'.get? b=some u):Inv X pins σ H { s with heap:=h',toks:=t' }:=I.un (Un.kept k) (I.hok.kept k)
theorem Inv.laid {a:Addr} {o:HO} {t':Nat} (I:Inv X pins σ H s) (k:∀ b u,s.heap.get? b=some u->h'.get? b=some u) (hp:s.heap.objs.size<=a) (new:gW X.prog X.w (upd H a o) h' a o) :
  Inv X pins σ (upd H a o) { s with heap:=h',toks:=t' }:=I.un (Un.laid k hp (I.hok.fresh hp)) (I.hok.laid k hp new)
theorem Inv.write {x e:Addr} {o:HO} {t':Nat} (I:Inv X pins σ H s) (mu:Mut (H x)) (he:e=x\/H e=some (.own x)) (k:∀ b u,b≠e->s.heap.get? b=some u->h'.get? b=some u) (heo:∃ u,h'.get? e=some u)
  (new:gW X.prog X.w (upd H x o) h' x o):Inv X pins σ (upd H x o) { s with heap:=h',toks:=t' }:=I.un (Un.write mu he k heo) (I.hok.write mu he k heo new)
theorem Inv.pins_of {pins':List ↥10} (I:Inv X pins σ H s) (h:∀ p∈pins',s.heap.get? p.1=some p.2/\H p.1=none/\p.1≠X.env.locals/\p.1∉X.fs/\∀ v,p.2.data ≠ .cell v):Inv X pins' σ H s :=
 ⟨I.ok,I.os,I.bare,I.base,I.loc,I.cell,I.free,I.freeC,fun p hp=>(List.mem_append.mp hp).elim (fun z=>I.pin p (List.mem_append_left _ z)) (h p),I.hok,I.len⟩
theorem oO {N:List Str} (hN:N.Nodup) {i j:Nat} {x:Str} (a:N[i]? = some x) (b:N[j]? = some x):i=j:=by
 obtain ⟨h1,e1⟩:=List.getElem?_eq_some_iff.mp a
 obtain ⟨h2,e2⟩:=List.getElem?_eq_some_iff.mp b
 exact (List.getElem_inj hN).mp (e1.trans e2.symm)
theorem wR {M:Model} {A:Around} {E:Value->Shared->Prop} {i:Nat} {x:Str} {v:V} {u:Value} {Q:Unit->Shared->Prop} (I:Inv X pins σ H s) (hN:X.N.Nodup) (hi:X.N[i]? = some x) (hx:Loc X.env.scope x) (r:RelV v u)
  (h:∀ s',Inv X pins (σ.set i (some v)) H s'->(∃ a,Heap.SameBut a s.heap s'.heap/\(a=X.env.locals\/X.env.cells.lookup x=some a))->Q () s') (hf:X.fn x=true\/X.env.scope.names.lookup x=some .local:=by first | exact .inl rfl | exact .inr rfl | assumption):wpAny M A (storeName X.env x u) Q E s:=by
 obtain ⟨m,hn,hl⟩:=id I.loc
 have hcls:(X.env.scope.kind == .class||(X.env.scope.kind == .module&&X.env.locals != X.env.globals))=false:=by rw [I.ok.kind];rfl
 have hiσ:i<σ.length:=by rw [I.len];exact (List.getElem?_eq_some_iff.mp hi).1
 have cne:=I.cne
 have tracked:∀ {a:Addr} {h':Heap},(∃ o,s.heap.get? a=some o/\H a=none)->Heap.SameBut a s.heap h'->HOk X.prog X.w H h':=fun {a h'} ha hs b ob e=>by
  obtain ⟨_,_,hfree⟩:=ha
  refine (I.hok b ob e).stay (fun c w' hc q=>(hs.2 c ?_).trans q) (fun _ q=>q) fun _ _ q=>q
  rintro rfl
  rcases hc with rfl | hc
  ·rw [hfree] at e;cases e
  ·rw [hfree] at hc;cases hc
 rcases hx with hk | hk
 ·refine wpAny_storeName_local hk hn (fun h' hn' hs => ?_) hcls
  obtain ⟨oL,_,_,hoL,_⟩:=id hn
  refine h _ ⟨I.ok,I.os,I.bare,⟨fun b o e n hb hx => ?_,fun b o e n hb hx => ?_,I.base.free,fun b o e hx => ?_,I.base.tups,I.base.frzs,I.base.tbls⟩,⟨_,hn',fun j y v' e1 e2 e3 => ?_⟩,fun y c e => ?_,I.free,I.freeC,fun p hp => ?_,tracked ⟨oL,hoL,I.free⟩ hs,by simpa using I.len⟩ ⟨_,hs,.inl rfl⟩
  ·exact (hs.2 b (Nat.ne_of_lt (Nat.lt_of_lt_of_le (Heap.lt_size e) I.ok.above))).trans (I.base.keep b o e n hb hx)
  ·obtain ⟨sl,e1⟩:=I.base.slot b o e n hb hx
   exact ⟨sl,(hs.2 b (Nat.ne_of_lt (Nat.lt_of_lt_of_le (Heap.lt_size e) I.ok.above))).trans e1⟩
  ·obtain ⟨o',e1⟩:=I.base.there b o e hx
   exact ⟨o',(hs.2 b (Nat.ne_of_lt (Nat.lt_of_lt_of_le (Heap.lt_size e) I.ok.above))).trans e1⟩
  ·by_cases hj:j=i
   ·subst hj
    rw [hi] at e1;cases e1
    rw [List.getElem?_set_self hiσ] at e2
    cases e2
    exact ⟨u,r,.inl ⟨hk,by simp⟩⟩
   ·rw [List.getElem?_set_ne (Ne.symm hj)] at e2
    obtain ⟨u',r',q⟩:=hl j y v' e1 e2 e3
    refine ⟨u',r',?_⟩
    rcases q with ⟨k,e⟩ | ⟨k,c,e,z⟩
    ·refine .inl ⟨k,?_⟩
     have:y≠x:=fun e=>hj (oO hN e1 (e▸hi))
     simp [this,e]
    ·exact .inr ⟨k,c,e,z.sameBut hs (cne y c e)⟩
  ·obtain ⟨w',z⟩:=I.cell y c e
   exact ⟨w',z.sameBut hs (cne y c e)⟩
  ·obtain ⟨e,n,ne,nf,d⟩:=I.pin p hp
   exact ⟨(hs.2 p.1 ne).trans e,n,ne,nf,d⟩
 ·have hfn:X.fn x=true:=by
   rcases hf with z | z
   ·exact z
   ·rw [z] at hk;cases hk
  obtain ⟨c,hc⟩:=I.ok.has x (.inl hk)
  obtain ⟨w',z⟩:=I.cell x c hc
  refine wpAny_storeName_cell I.ok.kind hk hc z (fun h' hc' hs => ?_)
  obtain ⟨oc,hoc,hocd⟩:=id z
  refine h { s with heap:=h' } ⟨I.ok,I.os,I.bare,⟨fun b o e n hb hx => ?_,fun b o e n hb hx => ?_,I.base.free,fun b o e hx => ?_,I.base.tups,I.base.frzs,I.base.tbls⟩,⟨m,hn.sameBut hs (Ne.symm (cne x c hc)),fun j y v' e1 e2 e3 => ?_⟩,fun y c' e => ?_,I.free,I.freeC,fun p hp => ?_,tracked ⟨oc,hoc,I.freeC x c hc⟩ hs,by simpa using I.len⟩ ⟨c,hs,.inr hc⟩
  ·exact (hs.2 b (Nat.ne_of_lt (Nat.lt_of_lt_of_le (Heap.lt_size e) (I.ok.cab x c hfn hc)))).trans (I.base.keep b o e n hb hx)
  ·obtain ⟨sl,e1⟩:=I.base.slot b o e n hb hx
   exact ⟨sl,(hs.2 b (Nat.ne_of_lt (Nat.lt_of_lt_of_le (Heap.lt_size e) (I.ok.cab x c hfn hc)))).trans e1⟩
  ·obtain ⟨o',e1⟩:=I.base.there b o e hx
   exact ⟨o',(hs.2 b (Nat.ne_of_lt (Nat.lt_of_lt_of_le (Heap.lt_size e) (I.ok.cab x c hfn hc)))).trans e1⟩
  ·by_cases hj:j=i
   ·subst hj
    rw [hi] at e1;cases e1
    rw [List.getElem?_set_self hiσ] at e2
    cases e2
    exact ⟨u,r,.inr ⟨.inl hk,c,hc,hc'⟩⟩
   ·rw [List.getElem?_set_ne (Ne.symm hj)] at e2
    obtain ⟨u',r',q⟩:=hl j y v' e1 e2 e3
    refine ⟨u',r',?_⟩
    rcases q with q | ⟨k,c',e,z'⟩
    ·exact .inl q
    ·refine .inr ⟨k,c',e,z'.sameBut hs ?_⟩
     rintro rfl
     exact hj (oO hN e1 (I.ok.inj _ _ _ e hc▸hi))
  ·by_cases hcc:c'=c
   ·subst hcc;exact ⟨_,hc'⟩
   ·obtain ⟨w2,z2⟩:=I.cell y c' e
    exact ⟨w2,z2.sameBut hs hcc⟩
  ·obtain ⟨e,n,ne,nf,d⟩:=I.pin p hp
   refine ⟨(hs.2 p.1 ?_).trans e,n,ne,nf,d⟩
   intro q
   rw [q,hoc] at e
   have q':oc=p.2:=Option.some.inj e
   exact d w' (by rw [<- q'];exact hocd)
theorem j1 {M:Model} {A:Around} {E:Value->Shared->Prop} {i:Nat} {x:Str} {v:V} {u:Value} {Q:Unit->Shared->Prop} (I:Inv X pins σ H s) (hN:X.N.Nodup) (hi:X.N[i]? = some x) (hx:Loc X.env.scope x) (r:RelV v u)
  (h:∀ s',Inv X pins (σ.set i (some v)) H s'->Q () s') (hf:X.fn x=true\/X.env.scope.names.lookup x=some .local:=by first | exact .inl rfl | exact .inr rfl | assumption):wpAny M A (storeName X.env x u) Q E s :=
 wR I hN hi hx r (fun s' I' _=>h s' I') hf
theorem Inv.call' {s':Shared} {ch:List Addr} (I:Inv X pins σ H s) (ho:s'.os=s.os) (u:Un (frs X.stack) ch H H' s.heap s'.heap) (hok:HOk X.prog X.w H' s'.heap) (hg:AllBare s'.gens)
  (hch:∀ b∈ch,(b∈X.ex\/X.s₀.heap.objs.size<=b)/\b≠X.env.locals/\(∀ x c,X.env.cells.lookup x=some c->c≠b)/\∀ p∈X.pn++pins,p.1≠b):Inv X pins σ H' s':=by
 obtain ⟨h',g',d',t',o'⟩:=s'
 have e:o'=s.os:=ho
 subst e
 exact I.call (g':=g') (t':=t') (d':=d') u hok hg hch
end
abbrev XK:=Value->Option Addr->Hp->Prop
abbrev St:=List (Option V)
abbrev VK:=V->Hp->Prop
abbrev TE:=St->Hp->VK->Prop
abbrev TT:=St->Hp->(Bool->Hp->Prop)->Prop
abbrev TA:=St->Hp->(List V->Hp->Prop)->Prop
structure Ends where
 nx:St->Hp->Prop
 rt:VK
 bk:St->Hp->Prop:=fun _ _=>False
 ct:St->Hp->Prop:=fun _ _=>False
abbrev TS:=Ends->St->Hp->Prop
def EP (X:Cx) (pins:List ↥10) (σ:St) (Q:VK) (u:Value) (s':Shared):Prop:=∃ v H',Inv X pins σ H' s'/\RelV v u/\Q v H'
def TP (X:Cx) (pins:List ↥10) (σ:St) (Q:Bool->Hp->Prop) (b:Bool) (s':Shared):Prop:=∃ H',Inv X pins σ H' s'/\Q b H'
def AP (X:Cx) (pins:List ↥10) (σ:St) (Q:List V->Hp->Prop) (us:List Value) (s':Shared):Prop:=∃ vs H',Inv X pins σ H' s'/\Vals vs us/\Q vs H'
def SP (X:Cx) (pins:List ↥10) (D:Ends) (f:Flow) (s':Shared):Prop :=
 match f with
 | .next=>∃ σ' H',Inv X pins σ' H' s'/\D.nx σ' H'
 | .brk=>∃ σ' H',Inv X pins σ' H' s'/\D.bk σ' H'
 | .cont=>∃ σ' H',Inv X pins σ' H' s'/\D.ct σ' H'
 | .ret u=>∃ v σ' H',Inv X pins σ' H' s'/\RelV v u/\D.rt v H'
def PE (X:Cx) (e:Expr) (t:TE):Prop :=
 ∀ (pins:List ↥10) (s:Shared) (σ:St) (H:Hp) (Q:VK),Inv X pins σ H s->t σ H Q->wpAny ↥4 X.A (eval e X.env) (EP X pins σ Q) X.xe s
def PT (X:Cx) (e:Expr) (t:TT):Prop :=
 ∀ (pins:List ↥10) (s:Shared) (σ:St) (H:Hp) (Q:Bool->Hp->Prop),Inv X pins σ H s->t σ H Q->wpAny ↥4 X.A (isTrue e X.env (eval e X.env)) (TP X pins σ Q) X.xe s
def PW (X:Cx) (e:Expr) (t:TT):Prop :=
 ∀ (whole:Sem Value) (pins:List ↥10) (s:Shared) (σ:St) (H:Hp) (Q:Bool->Hp->Prop),Inv X pins σ H s->t σ H Q->wpAny ↥4 X.A (isTrue e X.env whole) (TP X pins σ Q) X.xe s
theorem PW.pt {X:Cx} {e:Expr} {t:TT} (h:PW X e t):PT X e t:=h _
def PA (X:Cx) (es:List Expr) (t:TA):Prop :=
 ∀ (pos:Pos) (pins:List ↥10) (s:Shared) (σ:St) (H:Hp) (Q:List V->Hp->Prop),Inv X pins σ H s->t σ H Q->wpAny ↥4 X.A (spliced (backTo pos (starEach es X.env))) (AP X pins σ Q) X.xe s
def PS (X:Cx) (st:Stmt) (t:TS):Prop :=
 ∀ (pins:List ↥10) (s:Shared) (σ:St) (H:Hp) (D:Ends),Inv X pins σ H s->t D σ H->wpAny ↥4 X.A (exec st X.env) (SP X pins D) X.xe s
def PSs (X:Cx) (st:List Stmt) (t:TS):Prop :=
 ∀ (pins:List ↥10) (s:Shared) (σ:St) (H:Hp) (D:Ends),Inv X pins σ H s->t D σ H->wpAny ↥4 X.A (execs st X.env) (SP X pins D) X.xe s
theorem thn {α:Type} {t:Sem α} {Q Q':α->Shared->Prop} {M:Model} {A:Around} {E:Value->Shared->Prop} {s:Shared} (h:wpAny M A t Q E s) (hQ:∀ a s,Q a s->Q' a s):wpAny M A t Q' E s:=wpAny_mono h hQ fun _ _ x=>x
end L2
namespace L2
open PySem PySem.Spec PyProof.Rows
section
variable {X:Cx}
theorem bin {a b:Expr} {ta tb:TE} (ha:PE X a ta) (hb:PE X b tb) {pins:List ↥10} {s:Shared} {σ:St} {H:Hp} {R:V->V->Hp->Prop} (I:Inv X pins σ H s) (h:ta σ H fun x H1=>tb σ H1 fun y H2=>R x y H2)
  {α:Type} {Q:α->Shared->Prop} {f:Value->Value->Sem α}
  (hf:∀ v u s2 x y H2,Inv X pins σ H2 s2->RelV x v->RelV y u->R x y H2->wpAny ↥4 X.A (f v u) Q X.xe s2) :
  wpAny ↥4 X.A (eval a X.env) (fun v s₁=>wpAny ↥4 X.A (eval b X.env) (fun u s₂=>wpAny ↥4 X.A (f v u) Q X.xe s₂) X.xe s₁) X.xe s:=by
 refine thn (ha pins s σ H _ I h) fun v s1 ⟨x,H1,I1,r1,q1⟩ => ?_
 refine thn (hb pins s1 σ H1 _ I1 q1) fun u s2 ⟨y,H2,I2,r2,q2⟩ => ?_
 exact hf v u s2 x y H2 I2 r1 r2 q2
def MG (i:Nat):TE:=fun σ H Q=>∃ v,σ[i]? = some (some v)/\Q v H
def tC (v:V):TE:=fun _ H Q=>Q v H
theorem ip {i:Nat} {x:Str} {pos:Pos} (hN:X.N[i]? = some x) (hv:Vis X.env.scope x) (hd:↥35=false:=by decide) (hcd:(x == ("__classdict__":Str))=false:=by decide):PE X (.Name x pos) (MG i):=by
 intro pins s σ H Q I h
 obtain ⟨v,e,h⟩:=h
 obtain ⟨m,hn,hl⟩:=I.loc
 obtain ⟨u,r,l⟩:=hl i x v hN e hv
 have fin:EP X pins σ Q u s:=⟨v,H,I,r,h⟩
 rcases l with ⟨hk,hm⟩ | ⟨hk,c,hc,hcell⟩
 ·exact wpAny_Name (wpAny_loadName_local I.ok.kind hk hn hm fin) hd
 ·rcases hk with hk | hk
  ·exact wpAny_Name (wpAny_loadName_cell I.ok.kind hk hc hcell fin) hd
  ·exact wpAny_Name (wpAny_loadName_free I.ok.kind hk hc hcell fin hcd) hd
theorem xv {i j pos}:PE X (.Constant (.int i) j pos) (tC (.int i)):=fun _ _ _ H _ I h=>wpAny_Constant_int ⟨.int i,H,I.tok _,⟨_,rfl⟩,h⟩
theorem LJ {b j pos}:PE X (.Constant (.bool b) j pos) (tC (.bl b)):=fun _ _ _ H _ I h=>Constant_bool ⟨.bl b,H,I,rfl,h⟩
theorem IM {j pos}:PE X (.Constant .none j pos) (tC .non):=fun _ _ _ H _ I h=>Constant_none ⟨.non,H,I,rfl,h⟩
theorem CN {x j pos}:PE X (.Constant (.str x) j pos) (tC (.str x)):=fun _ _ _ H _ I h=>Calls.Constant_str ⟨.str x,H,I.tok _,⟨_,rfl⟩,h⟩
def Gl (X:Cx) (x:Str):Prop:=X.env.kindOf x=some .globalImplicit
theorem je {E:Value->Shared->Prop} {pins:List ↥10} {s:Shared} {σ:St} {H:Hp} {x:Str} {u:Value} {pos:Pos} {Q:Value->Shared->Prop} (I:Inv X pins σ H s) (hg:Gl X x) (hm:X.mg x=some u) (h:Q u s)
  (hd:↥35=false:=by decide):wpAny ↥4 X.A (eval (.Name x pos) X.env) Q E s :=
 Calls.Name_function_global I.ok.kind hg (Calls.loadGlobal_global (by rw [I.ok.glob];exact I.mod.glob.keeps I.bk) hm h) hd
theorem ql {E:Value->Shared->Prop} {pins:List ↥10} {s:Shared} {σ:St} {H:Hp} {x:Str} {u:Value} {pos:Pos} {Q:Value->Shared->Prop} (I:Inv X pins σ H s) (hg:Gl X x) (hm:X.mg x=none) (hv:bootBuiltins x=some u) (h:Q u s)
  (hn:x≠"__name__":=by decide) (hd:↥35=false:=by decide):wpAny ↥4 X.A (eval (.Name x pos) X.env) Q E s:=by
 obtain ⟨mb,h1,h2⟩:=I.mod.blt
 exact Calls.Name_function_global I.ok.kind hg (Calls.loadGlobal_builtin (by rw [I.ok.glob];exact I.mod.glob.keeps I.bk) hm (by rw [I.ok.blt];exact h1.keeps I.bk) ((h2 x hn).trans hv) h) hd
theorem rO {x:Str} {v:V} {u:Value} {pos:Pos} (hg:Gl X x) (hm:X.mg x=some u) (r:RelV v u) (hd:↥35=false:=by decide):PE X (.Name x pos) (tC v) :=
 fun _ _ _ H _ I h=>je I hg hm ⟨v,H,I,r,h⟩ hd
theorem EX {x:Str} {v:V} {u:Value} {pos:Pos} (hg:Gl X x) (hm:X.mg x=none) (hv:bootBuiltins x=some u) (r:RelV v u) (hn:x≠"__name__":=by decide) (hd:↥35=false:=by decide):PE X (.Name x pos) (tC v) :=
 fun _ _ _ H _ I h=>ql I hg hm hv ⟨v,H,I,r,h⟩ hn hd
variable {a b:Expr} {ta tb:TE} {pos:Pos}
def tB (t:TE):TT:=fun σ H Q=>t σ H fun x H1=>∃ c,x=.bl c/\Q c H1
theorem ID {e:Expr} {t:TE} (h:PE X e t) (he:∀ whole,isTrue e X.env whole=(do let v<-whole;standAt e.pos;holding [v] (truthy v)):=by intro _;rfl):PT X e (tB t):=by
 intro pins s σ H Q I hw
 refine isTrue_plain (thn (h pins s σ H _ I hw) fun v s1 ⟨x,H1,I1,r1,q1⟩ => ?_) (he _)
 obtain ⟨d,rfl,q⟩:=q1
 cases r1
 exact wpAny_truthy_bool ⟨H1,I1,q⟩
variable {tA tB':TT} {rest:List Expr}
def P5 (t u:TT):TT:=fun σ H Q=>t σ H fun c H1=>if c=true then u σ H1 Q else Q false H1
def tOr (t u:TT):TT:=fun σ H Q=>t σ H fun c H1=>if c=true then Q true H1 else u σ H1 Q
def PU (t:TT):TT:=fun σ H Q=>t σ H fun c H1=>Q (!c) H1
theorem EL (ha:PT X a tA):PW X (.BoolOp .And [a] pos) tA:=by
 intro wh pins s σ H Q I h
 refine isTrue_and (thn (ha pins s σ H Q I h) fun c s1 e => ?_)
 cases c with
 | true=>exact isTrue_and_nil e
 | false=>exact e
theorem IB (ha:PT X a tA):PW X (.BoolOp .Or [a] pos) tA:=by
 intro wh pins s σ H Q I h
 refine isTrue_or (thn (ha pins s σ H Q I h) fun c s1 e => ?_)
 cases c with
 | false=>exact isTrue_or_nil e
 | true=>exact e
theorem IC (ha:PT X a tA) (hb:PW X (.BoolOp .And (b::rest) pos) tB'):PW X (.BoolOp .And (a::b::rest) pos) (P5 tA tB'):=by
 intro wh pins s σ H Q I h
 refine isTrue_and (thn (ha pins s σ H _ I h) fun c s1 ⟨H1,I1,q1⟩ => ?_)
 cases c with
 | true=>exact hb wh pins s1 σ H1 Q I1 q1
 | false=>exact ⟨H1,I1,q1⟩
theorem LA (ha:PT X a tA) (hb:PW X (.BoolOp .Or (b::rest) pos) tB'):PW X (.BoolOp .Or (a::b::rest) pos) (tOr tA tB'):=by
 intro wh pins s σ H Q I h
 refine isTrue_or (thn (ha pins s σ H _ I h) fun c s1 ⟨H1,I1,q1⟩ => ?_)
 cases c with
 | true=>exact ⟨H1,I1,q1⟩
 | false=>exact hb wh pins s1 σ H1 Q I1 q1
theorem IE (ha:PT X a tA):PT X (.UnaryOp .Not a pos) (PU tA):=by
 intro pins s σ H Q I h
 exact isTrue_not (ha pins s σ H (fun c H1=>Q (!c) H1) I h)
def Lm (ta tb:TE):TE:=fun σ H Q=>ta σ H fun x H1=>∃ c,x=.bl c/\if c=true then tb σ H1 Q else Q ↥28 H1
def PR (ta tb:TE):TE:=fun σ H Q=>ta σ H fun x H1=>∃ c,x=.bl c/\if c=true then Q ↥32 H1 else tb σ H1 Q
def Lh (ta:TE):TE:=fun σ H Q=>ta σ H fun x H1=>∃ c,x=.bl c/\Q (.bl (!c)) H1
theorem IK {op} {t:TE} (h:PE X a t):PE X (.BoolOp op [a] pos) t:=fun pins s σ H Q I hw=>BoolOp_one (h pins s σ H Q I hw)
theorem IS (ha:PE X a ta) (hb:PE X (.BoolOp .And (b::rest) pos) tb):PE X (.BoolOp .And (a::b::rest) pos) (Lm ta tb):=by
 intro pins s σ H Q I h
 refine BoolOp_and (thn (ha pins s σ H _ I h) fun v s1 ⟨x,H1,I1,r1,q1⟩ => ?_)
 obtain ⟨c,rfl,q1⟩:=q1
 cases r1
 refine wpAny_truthy_bool ?_
 cases c with
 | true=>exact hb pins s1 σ H1 Q I1 q1
 | false=>exact ⟨.bl false,H1,I1,rfl,q1⟩
theorem LH (ha:PE X a ta) (hb:PE X (.BoolOp .Or (b::rest) pos) tb):PE X (.BoolOp .Or (a::b::rest) pos) (PR ta tb):=by
 intro pins s σ H Q I h
 refine BoolOp_or (thn (ha pins s σ H _ I h) fun v s1 ⟨x,H1,I1,r1,q1⟩ => ?_)
 obtain ⟨c,rfl,q1⟩:=q1
 cases r1
 refine wpAny_truthy_bool ?_
 cases c with
 | false=>exact hb pins s1 σ H1 Q I1 q1
 | true=>exact ⟨.bl true,H1,I1,rfl,q1⟩
theorem IL (ha:PE X a ta):PE X (.UnaryOp .Not a pos) (Lh ta):=by
 intro pins s σ H Q I h
 refine UnaryOp_ (thn (ha pins s σ H _ I h) fun v s1 ⟨x,H1,I1,r1,q1⟩ => ?_)
 obtain ⟨c,rfl,q1⟩:=q1
 cases r1
 exact not_of (wpAny_truthy_bool ⟨.bl (!c),H1,I1,rfl,q1⟩)
def tIf (t:TT) (ta tb:TE):TE:=fun σ H Q=>t σ H fun c H1=>if c=true then ta σ H1 Q else tb σ H1 Q
theorem A4 {c:Expr} (hc:PT X c tA) (ha:PE X a ta) (hb:PE X b tb):PE X (.IfExp c a b pos) (tIf tA ta tb):=by
 intro pins s σ H Q I h
 refine wpAny_IfExp (thn (hc pins s σ H _ I h) fun d s1 ⟨H1,I1,q1⟩ => ?_)
 cases d with
 | true=>exact ha pins s1 σ H1 Q I1 q1
 | false=>exact hb pins s1 σ H1 Q I1 q1
end
end L2
namespace L2
open PySem PySem.Spec PyProof.Rows
def SqL (K:PySem.W.Frag) (H:Hp) (a:Addr) (xs:List V):Prop :=
 Rd H a (.lst xs) \/
  ∃ (o:Obj) (its:Array Value) (n:Nat),K.lookup a=some o/\o.cls=.type "list"/\o.dict=none/\o.data=.seq its n/\its.size<=sizeLine/\Vals xs its.toList
def SqT (K:PySem.W.Frag) (H:Hp) (a:Addr) (xs:List V):Prop :=
 Rd H a (.tup xs) \/
  ∃ (o:Obj) (its:Array Value) (n:Nat),K.lookup a=some o/\o.cls=.type "tuple"/\o.data=.seq its n/\its.size<=sizeLine/\Vals xs its.toList
def RX:Value->Option V
 | .none=>some .non
 | .bool b=>some (.bl b)
 | .int i _=>some (.int i)
 | .str x _=>some (.str x)
 | .bytes b _=>some (.byt b)
 | .float b _=>some (.flt b)
 | .ref a=>some (.ref a)
 | .type n=>some (.ty n)
 | _=>none
theorem RelV.abs {x:V} {u:Value} (r:RelV x u):RX u=some x:=by
 cases x with
 | non=>cases r;rfl
 | bl _=>cases r;rfl
 | int _=>obtain ⟨t,rfl⟩:=r;rfl
 | str _=>obtain ⟨t,rfl⟩:=r;rfl
 | byt _=>obtain ⟨t,rfl⟩:=r;rfl
 | flt _=>obtain ⟨t,rfl⟩:=r;rfl
 | ref _=>cases r;rfl
 | ty _=>cases r;rfl
theorem RelV.inj {x y:V} {u:Value} (r:RelV x u) (q:RelV y u):x=y:=Option.some.inj (r.abs.symm.trans q.abs)
theorem Vals.inj:∀ {xs ys:List V} {us:List Value},Vals xs us->Vals ys us->xs=ys
 | _,_,_,.nil,.nil=>rfl
 | _,_,_,.cons r t,.cons r' t'=>by rw [r.inj r',Vals.inj t t']
section
variable {X:Cx} {pins:List ↥10} {σ:St} {H:Hp} {s:Shared} {a:Addr} {xs ys:List V}
theorem SqL.of {K:PySem.W.Frag} (h:H a=some (.lst xs)):SqL K H a xs:=.inl (.inl h)
theorem SqT.of {K:PySem.W.Frag} (h:H a=some (.tup xs)):SqT K H a xs:=.inl (.inl h)
theorem Inv.list (I:Inv X pins σ H s) (h:SqL X.K H a xs):∃ its:List Value,Vals xs its/\PlainL s.heap a its.toArray/\xs.length<=sizeLine:=by
 rcases h with h | ⟨o,its,n,hk,hc,hd,hs,hz,r⟩
 ·obtain ⟨z,its,n,r,e⟩:=h.ok I.hok
  exact ⟨its,r,⟨_,n,e,rfl,rfl,rfl⟩,z⟩
 ·refine ⟨its.toList,r,⟨o,n,I.kIn a o hk,hc,hd,by simpa using hs⟩,?_⟩
  have e:=r.length
  simp only [Array.length_toList] at e
  omega
theorem Inv.tuple (I:Inv X pins σ H s) (h:SqT X.K H a xs):∃ its:List Value,Vals xs its/\IsTup s.heap a its.toArray/\xs.length<=sizeLine:=by
 rcases h with h | ⟨o,its,n,hk,hc,hs,hz,r⟩
 ·obtain ⟨z,its,r,p⟩:=h.ok I.hok
  exact ⟨its,r,p,z⟩
 ·refine ⟨its.toList,r,⟨o,I.kIn a o hk,hc,n,by simpa using hs⟩,?_⟩
  have e:=r.length
  simp only [Array.length_toList] at e
  omega
theorem Inv.list_inj (I:Inv X pins σ H s) (h:SqL X.K H a xs) (h':SqL X.K H a ys):xs=ys:=by
 obtain ⟨its,r,⟨o,n,e,_,_,d⟩,_⟩:=I.list h
 obtain ⟨its',r',⟨o',n',e',_,_,d'⟩,_⟩:=I.list h'
 rw [e] at e';cases e'
 rw [d] at d'
 injection d' with d1 _
 have:its=its':=by simpa using congrArg Array.toList d1
 subst this
 exact r.inj r'
theorem Inv.tuple_inj (I:Inv X pins σ H s) (h:SqT X.K H a xs) (h':SqT X.K H a ys):xs=ys:=by
 obtain ⟨its,r,⟨o,e,_,n,d⟩,_⟩:=I.tuple h
 obtain ⟨its',r',⟨o',e',_,n',d'⟩,_⟩:=I.tuple h'
 rw [e] at e';cases e'
 rw [d] at d'
 injection d' with d1 _
 have:its=its':=by simpa using congrArg Array.toList d1
 subst this
 exact r.inj r'
end
abbrev Cx.wish (X:Cx) (E:Value->Shared->Prop):Cx:={ X with xe:=E }
abbrev Cx.nox (X:Cx):Cx:=X.wish fun _ _=>False
theorem Cx.Ok.wish {X:Cx} (ok:X.Ok) (E:Value->Shared->Prop):(X.wish E).Ok :=
 ⟨ok.mod,ok.kind,ok.glob,ok.blt,ok.above,ok.inj,ok.has,ok.cab,ok.hd,ok.frames,ok.stk,ok.exf,ok.bs,ok.bsz,ok.noex,ok.exfs,ok.funs,ok.frf⟩
theorem Cx.Ok.unwish {X:Cx} {E:Value->Shared->Prop} (ok:(X.wish E).Ok):X.Ok :=
 ⟨ok.mod,ok.kind,ok.glob,ok.blt,ok.above,ok.inj,ok.has,ok.cab,ok.hd,ok.frames,ok.stk,ok.exf,ok.bs,ok.bsz,ok.noex,ok.exfs,ok.funs,ok.frf⟩
section
variable {X:Cx} {pins:List ↥10} {σ:St} {H:Hp} {s:Shared} {E:Value->Shared->Prop}
theorem Inv.wish (I:Inv X pins σ H s) (E:Value->Shared->Prop):Inv (X.wish E) pins σ H s:=⟨I.ok.wish E,I.os,I.bare,I.base,I.loc,I.cell,I.free,I.freeC,I.pin,I.hok,I.len⟩
theorem Inv.unwish (I:Inv (X.wish E) pins σ H s):Inv X pins σ H s:=⟨I.ok.unwish,I.os,I.bare,I.base,I.loc,I.cell,I.free,I.freeC,I.pin,I.hok,I.len⟩
theorem SP.unwish {D:Ends} {f:Flow} {s':Shared} (h:SP (X.wish E) pins D f s'):SP X pins D f s':=by
 cases f with
 | next=>obtain ⟨σ',H',I,q⟩:=h;exact ⟨σ',H',I.unwish,q⟩
 | brk=>obtain ⟨σ',H',I,q⟩:=h;exact ⟨σ',H',I.unwish,q⟩
 | cont=>obtain ⟨σ',H',I,q⟩:=h;exact ⟨σ',H',I.unwish,q⟩
 | ret u=>obtain ⟨v,σ',H',I,r,q⟩:=h;exact ⟨v,σ',H',I.unwish,r,q⟩
theorem PSs.nox {st:List Stmt} {t:TS} (h:PSs X.nox st t):PSs X st t:=fun pins s σ H D I hw =>
 wpAny_mono (h pins s σ H D (I.wish _) hw) (fun _ _ q=>q.unwish) fun _ _ z=>False.elim z
end
section
variable {X:Cx} {st:Stmt} {rest:List Stmt} {t u:TS} {e:Expr} {te:TE} {pos:Pos}
def Li:TS:=fun D σ H=>D.nx σ H
def PN (t u:TS):TS:=fun D σ H=>t { D with nx:=u D } σ H
theorem xl:PSs X [] Li:=fun _ _ σ H _ I h=>wpAny_execs_nil ⟨σ,H,I,h⟩
theorem dG (h1:PS X st t) (h2:PSs X rest u):PSs X (st::rest) (PN t u):=by
 intro pins s σ H D I h
 refine wpAny_execs_cons (thn (h1 pins s σ H { D with nx:=u D } I h) fun f s1 q => ?_)
 cases f with
 | next =>
  obtain ⟨σ',H',I',q⟩:=q
  exact h2 pins s1 σ' H' D I' q
 | ret v=>exact q
 | brk=>exact q
 | cont=>exact q
theorem oG (h1:PS X st t):PSs X [st] t:=by
 intro pins s σ H D I h
 refine wpAny_execs_cons (thn (h1 pins s σ H D I h) fun f s1 q => ?_)
 cases f with
 | next=>exact wpAny_execs_nil q
 | ret v=>exact q
 | brk=>exact q
 | cont=>exact q
theorem Inv.quiet {pins:List ↥10} {σ:St} {H:Hp} {s:Shared} (I:Inv X pins σ H s):interactive X.env=false:=by simp [interactive,I.ok.kind]
def Lk (te:TE):TS:=fun D σ H=>te σ H fun _ H1=>D.nx σ H1
theorem jb (he:PE X e te) (hs:swapsWith e none pos.line X.env=pure false:=by rfl):PS X (.Expr e pos) (Lk te):=by
 intro pins s σ H D I h
 exact wpAny_Expr_any (thn (he pins s σ H _ I h) fun v s1 ⟨x,H1,I1,r1,q1⟩=>⟨σ,H1,I1,q1⟩) I.quiet hs
def PQ (te:TE):TS:=fun D σ H=>te σ H D.rt
theorem xn (he:PE X e te):PS X (.Return (some e) pos) (PQ te):=by
 intro pins s σ H D I h
 exact wpAny_Return_some (thn (he pins s σ H _ I h) fun v s1 ⟨x,H1,I1,r1,q1⟩=>⟨x,σ,H1,I1,r1,q1⟩)
def PY (c:TT) (t u:TS):TS:=fun D σ H=>c σ H fun b H1=>if b=true then t D σ H1 else u D σ H1
theorem EM {c:Expr} {a b:List Stmt} {tc:TT} (hc:PT X c tc) (ha:PSs X a t) (hb:PSs X b u):PS X (.If c a b pos) (PY tc t u):=by
 intro pins s σ H D I h
 refine wpAny_If (thn (hc pins s σ H _ I h) fun d s1 ⟨H1,I1,q1⟩ => ?_)
 cases d with
 | true=>exact ha pins s1 σ H1 D I1 q1
 | false=>exact hb pins s1 σ H1 D I1 q1
def HX:TS:=fun _ _ _=>False
theorem xm {sts:List Stmt}:PSs X sts HX:=fun _ _ _ _ _ _ h=>h.elim
end
abbrev TG:=V->St->Hp->(St->Hp->Prop)->Prop
abbrev TGs:=List V->St->Hp->(St->Hp->Prop)->Prop
def PG (X:Cx) (target:Expr) (t:TG):Prop :=
 ∀ (pins:List ↥10) (s:Shared) (σ:St) (H:Hp) (v:V) (u:Value) (Q:St->Hp->Prop),Inv X pins σ H s->RelV v u->t v σ H Q ->
  wpAny ↥4 X.A (assign target X.env u) (fun _ s'=>∃ σ' H',Inv X pins σ' H' s'/\Q σ' H') X.xe s
section
variable {X:Cx} {pos:Pos}
def sD (i:Nat):TG:=fun v σ H Q=>Q (σ.set i (some v)) H
theorem rN {i:Nat} {x:Str} (hN:X.N.Nodup) (hi:X.N[i]? = some x) (hx:Loc X.env.scope x) (hf:X.fn x=true\/X.env.scope.names.lookup x=some .local:=by first | exact .inl rfl | exact .inr rfl | assumption):PG X (.Name x pos) (sD i):=by
 intro pins s σ H v u Q I r h
 exact wpAny_assign_Name (j1 I hN hi hx r (fun s' I'=>⟨_,H,I',h⟩) hf)
def RE:TGs:=fun vs σ H Q=>vs=[]/\Q σ H
def Mi (t:TG) (u:TGs):TGs:=fun vs σ H Q=>∃ v r,vs=v::r/\t v σ H fun σ' H'=>u r σ' H' Q
def P2 (te:TE) (g:TG):TS:=fun D σ H=>te σ H fun x H1=>g x σ H1 D.nx
theorem p7 {i:Nat} {x:Str} {e:Expr} {te:TE} {pos':Pos} (hN:X.N.Nodup) (hi:X.N[i]? = some x) (hx:Loc X.env.scope x) (he:PE X e te) (hs:swapsWith e (some (.Name x pos')) pos.line X.env=pure false:=by rfl) (hf:X.fn x=true\/X.env.scope.names.lookup x=some .local:=by first | exact .inl rfl | exact .inr rfl | assumption) :
  PS X (.Assign [.Name x pos'] e pos) (P2 te (sD i)):=by
 intro pins s σ H D I h
 refine wpAny_Assign_Name (thn (he pins s σ H _ I h) fun v s1 ⟨y,H1,I1,r1,q1⟩ => ?_) hs
 exact j1 I1 hN hi hx r1 (fun s2 I2=>⟨_,H1,I2,q1⟩) hf
end
section
variable {X:Cx} {pos:Pos}
end
structure It where
 go:Nat->Hp->Prop
 yld:Nat->Hp->V->Hp->Prop
 stop:Nat->Hp->Prop
def wa (X:Cx) (pins:List ↥10) (H:Hp) (b:Addr):Prop :=
 H b=none/\b≠X.env.locals/\b∉X.fs/\(b∈X.ex\/X.s₀.heap.objs.size<=b)/\(∀ x c,X.env.cells.lookup x=some c->c≠b)/\∀ p∈X.pn++pins,p.1≠b
theorem Inv.fpOk {X:Cx} {pins:List ↥10} {σ:St} {H H':Hp} {s:Shared} {b:Addr} (I:Inv X pins σ H s) (hb:s.heap.objs.size<=b) (hn:H' b=none):wa X pins H' b:=by
 refine ⟨hn,Nat.ne_of_gt (Nat.lt_of_lt_of_le I.lt hb),I.nofs hb,.inr (Nat.le_trans I.sz hb),fun x c e z => ?_,fun p hp z => ?_⟩
 ·obtain ⟨v,q⟩:=I.cell x c e
  exact absurd (Nat.lt_of_lt_of_le q.lt (by rw [z];exact hb)) (Nat.lt_irrefl _)
 ·exact absurd (Nat.lt_of_lt_of_le (Heap.lt_size (I.pin p hp).1) (by rw [z];exact hb)) (Nat.lt_irrefl _)
structure Turn (P:Program) (w:World) (K:PySem.W.Frag) (tg:Expr) (J:It) (fp:List Addr) (it:Addr) (tn:Nat->Heap->Prop):Prop where
 mem:it∈fp
 obj:∀ i h,tn i h->∀ b∈fp,∃ o,h.get? b=some o/\∀ v,o.data ≠ .cell v
 keep:∀ i h h',tn i h->(∀ b∈fp,∀ o,h.get? b=some o->h'.get? b=some o)->tn i h'
 item:∀ (X:Cx),X.prog=P->X.w=w->X.K=K->X.calm=true->∀ (i:Nat) (pins:List ↥10) (s:Shared) (σ:St) (H:Hp) (E:Value->Shared->Prop),Inv X pins σ H s->(∀ b∈fp,wa X pins H b)->tn i s.heap->J.go i H ->
  wpAny (model P w) X.A (pyNext (.ref it)) (fun r s1=>∃ u,r=some u /\
   wpAny (model P w) X.A (letOwnedTupleGo tg (.ref it) u) (fun _ s2=>∃ x H',Inv X pins σ H' s2/\RelV x u/\J.yld i H x H'/\tn (i+1) s2.heap/\∀ b∈fp,H' b=none) E s1) E s
 done:∀ (X:Cx),X.prog=P->X.w=w->X.K=K->X.calm=true->∀ (i:Nat) (pins:List ↥10) (s:Shared) (σ:St) (H:Hp) (E:Value->Shared->Prop),Inv X pins σ H s->(∀ b∈fp,wa X pins H b)->tn i s.heap->J.stop i H ->
  wpAny (model P w) X.A (pyNext (.ref it)) (fun r s1=>r=none/\Inv X pins σ H s1) E s
 self:∀ (A:Around) (i:Nat) (s:Shared) (Q:Value->Shared->Prop) (E:Value->Shared->Prop),tn i s.heap->Q (.ref it) s->wpAny (model P w) A (pyIter (.ref it)) Q E s
abbrev TI:=St->Hp->(It->Hp->Prop)->Prop
def PIE (X:Cx) (pins:List ↥10) (σ:St) (tg:Expr) (R:It->Hp->Prop) (itv:Value) (s2:Shared):Prop :=
 ∃ (it:Addr) (fp:List Addr) (tn:Nat->Heap->Prop) (J:It) (H':Hp),itv=.ref it/\Inv X pins σ H' s2/\Turn X.prog X.w X.K tg J fp it tn/\tn 0 s2.heap/\(∀ b∈fp,wa X pins H' b)/\R J H'
def PI (X:Cx) (tg iter:Expr) (wi:TI):Prop :=
 ∀ (pins:List ↥10) (s:Shared) (σ:St) (H:Hp) (R:It->Hp->Prop),Inv X pins σ H s->wi σ H R ->
  wpAny ↥4 X.A (eval iter X.env) (fun v s1=>wpAny ↥4 X.A (pyIter v) (PIE X pins σ tg R) X.xe s1) X.xe s
theorem Gg {M:Model} {A:Around} {E:Value->Shared->Prop} {s:Shared} {tg:Expr} {it:Addr} {u:Value} {o:Obj} {n:String} {vs:Array Value} {Q:Unit->Shared->Prop} (ho:s.heap.get? it=some o) (hc:o.cls=.type n) (hd:o.data=.fields vs)
  (hn:["enumerate","zip","dict_itemiterator","dict_reverseitemiterator","odict_iterator","itertools.zip_longest","itertools.pairwise"].contains n=false) (hQ:Q () s):wpAny M A (letOwnedTupleGo tg (.ref it) u) Q E s:=by
 unfold letOwnedTupleGo
 cases tg<;>first
  | exact wpAny_pure hQ
  | (cases u<;>first
    | exact wpAny_pure hQ
    | (refine wpAny_bind (wpAny_load ho ?_)
       rw [hc,hd]
       show wpAny M A (if (["enumerate","zip","dict_itemiterator","dict_reverseitemiterator","odict_iterator","itertools.zip_longest","itertools.pairwise"].contains n&&vs[0]? == some (rawInt _))=true then _ else _) Q E s
       rw [if_neg (by intro h;rw [hn,Bool.false_and] at h;cases h)]
       exact wpAny_pure hQ))
def Itl (K:PySem.W.Frag) (a:Addr):It :=
 ⟨fun i H=>∃ xs x,SqL K H a xs/\xs[i]? = some x,fun i H x H'=>H'=H/\∀ xs,SqL K H a xs->xs[i]? = some x,fun i H=>∃ xs,SqL K H a xs/\xs.length<=i⟩
def Itt (K:PySem.W.Frag) (a:Addr):It :=
 ⟨fun i H=>∃ xs x,SqT K H a xs/\xs[i]? = some x,fun i H x H'=>H'=H/\∀ xs,SqT K H a xs->xs[i]? = some x,fun i H=>∃ xs,SqT K H a xs/\xs.length<=i⟩
def Itr (lo:Int) (n:Nat):It:=⟨fun i _=>i<n,fun i H x H'=>H'=H/\x=.int (lo+i),fun i _=>n<=i⟩
theorem wK {P:Program} {w:World} {K:PySem.W.Frag} {tg:Expr} (a it:Addr):Turn P w K tg (Itl K a) [it] it (fun i h=>h.IsListIter it a i) where
 mem:=by simp
 obj:=fun i h st b hb=>by
  have e:b=it:=by simpa using hb
  subst e
  obtain ⟨o,e,c,d⟩:=st
  exact ⟨o,e,fun v z=>by rw [d] at z;cases z⟩
 keep:=fun i h h' st k=>st.at fun o e=>k it (by simp) o e
 item:=by
  intro X hP hw hK hc i pins s σ H E I hf st hg
  subst hP hw hK
  obtain ⟨xs,x,hq,hx⟩:=hg
  obtain ⟨its,rv,p,hz⟩:=I.list hq
  obtain ⟨u,hu,ru⟩:=rv.get hx
  obtain ⟨f0,f1,f2,f3,f4,f5⟩:=hf it (by simp)
  refine wpAny_pyNext_list_item st p.isList (x:=u) (by simpa using hu) fun h' st' sb => ?_
  have I1:Inv X pins σ H { s with heap:=h' }:=I.turned (t':=s.toks) (fun b o hb e=>(sb.2 b hb).trans e) f0 f1 f3 f4 f5
  obtain ⟨o,e,c,d⟩:=id st'
  exact ⟨u,rfl,Gg (s:={ s with heap:=h' }) e c d ↥2 ⟨x,H,I1,ru,⟨rfl,fun ys hy=>by rw [I.list_inj hy hq];exact hx⟩,st',fun b hb=>(hf b hb).1⟩⟩
 done:=by
  intro X hP hw hK hc i pins s σ H E I hf st hg
  subst hP hw hK
  obtain ⟨xs,hq,hx⟩:=hg
  obtain ⟨its,rv,p,hz⟩:=I.list hq
  obtain ⟨f0,f1,f2,f3,f4,f5⟩:=hf it (by simp)
  have hl:=rv.length
  exact wpAny_pyNext_list_end (I.ok.hd hc) st p.isList (by simp;omega) fun h' eb=>⟨rfl,I.turned (t':=s.toks) (fun b o hb e=>eb b o hb e) f0 f1 f3 f4 f5⟩
 self:=fun _ _ _ _ _ st h=>wpAny_pyIter_listiter st h
theorem ve {P:Program} {w:World} {K:PySem.W.Frag} {tg:Expr} (a it:Addr):Turn P w K tg (Itt K a) [it] it (fun i h=>h.IsTupleIter it a i) where
 mem:=by simp
 obj:=fun i h st b hb=>by
  have e:b=it:=by simpa using hb
  subst e
  obtain ⟨o,e,c,d⟩:=st
  exact ⟨o,e,fun v z=>by rw [d] at z;cases z⟩
 keep:=fun i h h' st k=>st.at fun o e=>k it (by simp) o e
 item:=by
  intro X hP hw hK hc i pins s σ H E I hf st hg
  subst hP hw hK
  obtain ⟨xs,x,hq,hx⟩:=hg
  obtain ⟨its,rv,p,hz⟩:=I.tuple hq
  obtain ⟨u,hu,ru⟩:=rv.get hx
  obtain ⟨f0,f1,f2,f3,f4,f5⟩:=hf it (by simp)
  refine wpAny_pyNext_tuple_item st (show s.heap.IsTuple a its.toArray from p) (x:=u) (by simpa using hu) fun h' st' sb => ?_
  have I1:Inv X pins σ H { s with heap:=h' }:=I.turned (t':=s.toks) (fun b o hb e=>(sb.2 b hb).trans e) f0 f1 f3 f4 f5
  obtain ⟨o,e,c,d⟩:=id st'
  exact ⟨u,rfl,Gg (s:={ s with heap:=h' }) e c d ↥2 ⟨x,H,I1,ru,⟨rfl,fun ys hy=>by rw [I.tuple_inj hy hq];exact hx⟩,st',fun b hb=>(hf b hb).1⟩⟩
 done:=by
  intro X hP hw hK hc i pins s σ H E I hf st hg
  subst hP hw hK
  obtain ⟨xs,hq,hx⟩:=hg
  obtain ⟨its,rv,p,hz⟩:=I.tuple hq
  obtain ⟨f0,f1,f2,f3,f4,f5⟩:=hf it (by simp)
  have hl:=rv.length
  exact wpAny_pyNext_tuple_end (I.ok.hd hc) st (show s.heap.IsTuple a its.toArray from p) (by simp;omega) fun h' eb=>⟨rfl,I.turned (t':=s.toks) (fun b o hb e=>eb b o hb e) f0 f1 f3 f4 f5⟩
 self:=fun _ _ _ _ _ st h=>wpAny_pyIter_tupleiter st h
theorem vf {P:Program} {w:World} {K:PySem.W.Frag} {tg:Expr} (it:Addr) (lo:Int) (n:Nat):Turn P w K tg (Itr lo n) [it] it (fun i h=>IsRangeIter h it (lo+(i:Nat)*1) ((n:Int) - (i:Nat)) 1) where
 mem:=by simp
 obj:=fun i h st b hb=>by
  have e:b=it:=by simpa using hb
  subst e
  exact ⟨_,st,fun v z=>by
   have z':Data.fields _=Data.cell v:=z
   cases z'⟩
 keep:=fun i h h' st k=>k it (by simp) _ st
 item:=by
  intro X hP hw hK hc i pins s σ H E I hf st hg
  subst hP hw hK
  obtain ⟨f0,f1,f2,f3,f4,f5⟩:=hf it (by simp)
  have W:=Walks.range (prog:=X.prog) (w:=X.w) (I.ok.hd hc) it lo 1 n
  refine W.item i s _ _ hg st fun v h' tk hv st' kk => ?_
  obtain ⟨t,rfl⟩:=hv
  have I1:Inv X pins σ H { s with heap:=h',toks:=tk }:=I.turned (fun b o hb e=>kk b o (by simpa using hb) e) f0 f1 f3 f4 f5
  refine ⟨_,rfl,Gg (s:={ s with heap:=h',toks:=tk }) (n:="range_iterator") st' rfl rfl ↥2 ⟨.int (lo+i),H,I1,⟨t,?_⟩,⟨rfl,rfl⟩,st',fun b hb=>(hf b hb).1⟩⟩
  rw [Int.mul_one]
 done:=by
  intro X hP hw hK hc i pins s σ H E I hf st hg
  subst hP hw hK
  obtain ⟨f0,f1,f2,f3,f4,f5⟩:=hf it (by simp)
  exact wpAny_pyNext_range_end (I.ok.hd hc) st (by have:n<=i:=hg;omega) fun h' eb=>⟨rfl,I.turned (t':=s.toks) (fun b o hb e=>eb b o hb e) f0 f1 f3 f4 f5⟩
 self:=fun _ _ _ _ _ st h=>wpAny_pyIter_rangeiter st h
end L2
namespace L2
open PySem PySem.Spec PyProof.Rows
section
variable {X:Cx} {tg:Expr}
def Mh (K:PySem.W.Frag) (tl:TE):TI:=fun σ H R=>tl σ H fun x H1=>∃ a,x=.ref a/\(∃ xs,SqL K H1 a xs)/\R (Itl K a) H1
def RD (K:PySem.W.Frag) (tl:TE):TI:=fun σ H R=>tl σ H fun x H1=>∃ a,x=.ref a/\(∃ xs,SqT K H1 a xs)/\R (Itt K a) H1
theorem ER {l:Expr} {tl:TE} (hl:PE X l tl):PI X tg l (Mh X.K tl):=by
 intro pins s σ H R I h
 refine thn (hl pins s σ H _ I h) fun v s1 ⟨x,H1,I1,r1,q1⟩ => ?_
 obtain ⟨a,e,⟨xs,hq⟩,q⟩:=q1
 subst e
 cases r1
 obtain ⟨its,rv,p,hz⟩:=I1.list hq
 refine wpAny_pyIter_list p.isList ?_
 refine ⟨s1.heap.objs.size,[s1.heap.objs.size],_,_,H1,rfl,I1.kept (t':=s1.toks) fun b o e=>Heap.get?_push_of_some _ e,wK a _,⟨_,Heap.get?_push_size _ rfl,rfl,rfl⟩,fun b hb => ?_,q⟩
 have e:b=s1.heap.objs.size:=by simpa using hb
 subst e
 exact I1.fpOk ↥23 (I1.hok.fresh ↥23)
theorem IJ {l:Expr} {tl:TE} (hl:PE X l tl):PI X tg l (RD X.K tl):=by
 intro pins s σ H R I h
 refine thn (hl pins s σ H _ I h) fun v s1 ⟨x,H1,I1,r1,q1⟩ => ?_
 obtain ⟨a,e,⟨xs,hq⟩,q⟩:=q1
 subst e
 cases r1
 obtain ⟨its,rv,p,hz⟩:=I1.tuple hq
 refine wpAny_pyIter_tuple (show s1.heap.IsTuple a its.toArray from p) ?_
 refine ⟨s1.heap.objs.size,[s1.heap.objs.size],_,_,H1,rfl,I1.kept (t':=s1.toks) fun b o e=>Heap.get?_push_of_some _ e,ve a _,⟨_,Heap.get?_push_size _ rfl,rfl,rfl⟩,fun b hb => ?_,q⟩
 have e:b=s1.heap.objs.size:=by simpa using hb
 subst e
 exact I1.fpOk ↥23 (I1.hok.fresh ↥23)
theorem AY {pins:List ↥10} {σ:St} {H:Hp} {s:Shared} {R:It->Hp->Prop} {E:Value->Shared->Prop} {lo hi:Int} {t u v:Tok} {tk:Nat} (I:Inv X pins σ H s) (h1 : -(2^62)<=lo) (h2:lo<2^62) (h3 : -(2^62)<=hi) (h4:hi<2^62)
  (q:R (Itr lo (hi - lo).toNat) H):wpAny ↥4 X.A (pyIter (.ref s.heap.objs.size)) (PIE X pins σ tg R) E { s with heap:=s.heap.push { cls:=.type "range",data:=.fields #[.int lo t,.int hi u,.int 1 v] },toks:=tk }:=by
 refine wpAny_pyIter_range (IsRange.new ..) (small_one h1 h2 h3 h4) ?_
 have I1:Inv X pins σ H { s with heap:=s.heap.push { cls:=.type "range",data:=.fields #[.int lo t,.int hi u,.int 1 v] },toks:=tk }:=I.kept fun b o e=>Heap.get?_push_of_some _ e
 refine ⟨(s.heap.push { cls:=.type "range",data:=.fields #[.int lo t,.int hi u,.int 1 v] }).objs.size,[(s.heap.push { cls:=.type "range",data:=.fields #[.int lo t,.int hi u,.int 1 v] }).objs.size],_,_,H,rfl,
  I1.kept (t':=tk) fun b o e=>Heap.get?_push_of_some _ e,vf _ lo (hi - lo).toNat,?_,fun b hb => ?_,q⟩
 ·have e1:lo+((0:Nat):Int)*1=lo:=by simp
  have e2:(((hi - lo).toNat:Nat):Int) - ((0:Nat):Int)=Builtin.Range.rangeSize lo hi 1:=by rw [rangeSize_one];split<;>omega
  show IsRangeIter _ _ (lo+((0:Nat):Int)*1) ((((hi - lo).toNat:Nat):Int) - ((0:Nat):Int)) 1
  rw [e1,e2]
  exact Heap.get?_push_size _ rfl
 ·have e:b=(s.heap.push { cls:=.type "range",data:=.fields #[.int lo t,.int hi u,.int 1 v] }).objs.size:=by simpa using hb
  subst e
  exact I1.fpOk ↥23 (I1.hok.fresh ↥23)
def Mg (ta:TA):TI:=fun σ H R=>ta σ H fun vs H1=>∃ i j:Int,vs=[.int i,.int j]/\(-(2^62)<=i/\i<2^62 /\ -(2^62)<=j/\j<2^62)/\R (Itr i (j - i).toNat) H1
theorem xr {a b:Expr} {ta:TA} {p pos:Pos} (hg:Gl X "range") (hm:X.mg "range"=none) (ha:PA X [a,b] ta) (hs:starEach [a,b] X.env=[(false,eval a X.env),(false,eval b X.env)]:=by rfl) (hs2:starEach [b] X.env=[(false,eval b X.env)]:=by rfl) :
  PI X tg (.Call (.Name "range" p) [a,b] [] pos) (Mg ta):=by
 intro pins s σ H R I h
 refine Call_ (ql I hg hm boot_range (PyProof.Rows.callWith_type1 (thn (ha pos pins s σ H _ I h) fun us s1 ⟨vs,H1,I1,r1,q1⟩ => ?_) (by rw [hs,hs2]) (by rw [hs2];rfl)))
 obtain ⟨i,j,e,⟨q1,q2,q3,q4⟩,q⟩:=q1
 subst e
 cases r1 with
 | cons r rr =>
  cases rr with
  | cons r' rr =>
   cases rr
   obtain ⟨t,rfl⟩:=r
   obtain ⟨t',rfl⟩:=r'
   exact call_range_2 (AY I1 q1 q2 q3 q4 q)
def PZ (wi:TI) (g:TG) (tb:TS):TS:=fun D σ H=>wi σ H fun J H1=>∃ W:Nat->Nat->St->Hp->Prop,(∃ m,W 0 m σ H1)/\∀ i m σ H,W i m σ H ->
 (J.stop i H/\D.nx σ H)\/(J.go i H/\∃ N:St->Hp->Prop,(∀ σ' H',N σ' H'->∃ m',m'<m/\W (i+1) m' σ' H')/\∀ x H',J.yld i H x H'->g x σ H' fun σ2 H2=>tb { D with nx:=N,ct:=N,bk:=D.nx } σ2 H2)
def mV (fp:List Addr) (h:Heap):List ↥10:=fp.filterMap fun b=>(h.get? b).map fun o=>(b,o)
theorem cZ {fp:List Addr} {h:Heap} {b:Addr} {o:Obj} (hb:b∈fp) (e:h.get? b=some o):(b,o)∈mV fp h:=List.mem_filterMap.mpr ⟨b,hb,by rw [e];rfl⟩
theorem qg {fp:List Addr} {h:Heap} {p:Addr×Obj} (hp:p∈mV fp h):p.1∈fp/\h.get? p.1=some p.2:=by
 obtain ⟨b,hb,e⟩:=List.mem_filterMap.mp hp
 cases q:h.get? b with
 | none=>rw [q] at e;cases e
 | some o =>
  rw [q] at e
  have e':(b,o)=p:=Option.some.inj e
  subst e'
  exact ⟨hb,q⟩
theorem Inv.pinned {pins:List ↥10} {σ:St} {H:Hp} {s:Shared} {fp:List Addr} (I:Inv X pins σ H s) (hf:∀ b∈fp,wa X pins H b) (ho:∀ b∈fp,∃ o,s.heap.get? b=some o/\∀ v,o.data ≠ .cell v):Inv X (pins++mV fp s.heap) σ H s :=
 I.pins_of fun p hp=>(List.mem_append.mp hp).elim (fun z=>I.pin p (List.mem_append_right _ z)) fun z=>by
  obtain ⟨hb,e⟩:=qg z
  obtain ⟨f0,f1,f2,_⟩:=hf p.1 hb
  obtain ⟨o,e',d⟩:=ho p.1 hb
  rw [e] at e';cases e'
  exact ⟨e,f0,f1,f2,d⟩
theorem Inv.unpinned {pins pl:List ↥10} {σ:St} {H:Hp} {s:Shared} (I:Inv X (pins++pl) σ H s):Inv X pins σ H s:=I.pins_of fun p hp=>I.pin p (List.mem_append_right _ (List.mem_append_left _ hp))
theorem IG {iter:Expr} {body:List Stmt} {wi:TI} {g:TG} {tb:TS} {pos:Pos} (hp:PassesOwn ↥4 X.A X.env X.xe) (hc:X.calm=true) (hi:PI X tg iter wi) (hg:PG X tg g) (hb:PSs X body tb)
  (hs:∀ x,foldedSetIterable iter X.env x=pure x:=by intro _;rfl):PS X (.For tg iter body [] pos) (PZ wi g tb):=by
 intro pins s σ H D I h
 refine wpAny_For (thn (hi pins s σ H _ I h) fun v s1 h1=>thn h1 fun itv s2 h2 => ?_) hs
 obtain ⟨it,fp,tn,J,H2,e,I2,T,st2,f2,W,⟨m0,w0⟩,turn⟩:=h2
 subst e
 have stat:∀ {H':Hp},(∀ b∈fp,H' b=none)->∀ b∈fp,wa X pins H' b:=fun hn b hb=>⟨hn b hb,(f2 b hb).2⟩
 refine codeAny_forLoop_any (fun n s'=>∃ i σ' H',Inv X pins σ' H' s'/\tn i s'.heap/\(∀ b∈fp,H' b=none)/\W i n σ' H') ?_ m0 ⟨0,σ,H2,I2,st2,fun b hb=>(f2 b hb).1,w0⟩
 rintro n s3 ⟨i,σ3,H3,I3,st3,fr3,w3⟩
 rcases turn i n σ3 H3 w3 with ⟨stop,qn⟩ | ⟨go,N,hN,step⟩
 ·refine wpAny_passesOwn hp (thn (T.done X rfl rfl rfl hc i pins s3 σ3 H3 X.xe I3 (stat fr3) st3 stop) fun r s4 ⟨hr,I4⟩ => ?_)
  subst hr
  exact wpAny_execs_nil ⟨σ3,H3,I4,qn⟩
 ·refine wpAny_passesOwn hp (thn (T.item X rfl rfl rfl hc i pins s3 σ3 H3 X.xe I3 (stat fr3) st3 go) fun r s4 ⟨u,hr,h4⟩ => ?_)
  subst hr
  refine wpAny_passesOwn hp (thn h4 fun _ s5 ⟨x,H5,I5,r5,y5,st5,fr5⟩ => ?_)
  have I5':=I5.pinned (stat fr5) (T.obj _ _ st5)
  refine wpAny_passesOwn hp (thn (hg _ s5 σ3 H5 x u _ I5' r5 (step x H5 y5)) fun _ s6 ⟨σ6,H6,I6,q6⟩ => ?_)
  refine wpAny_passesOwn hp (thn (hb _ s6 σ6 H6 _ I6 q6) fun f s7 q7 => ?_)
  have again:∀ {σ7:St} {H7:Hp},Inv X (pins++mV fp s5.heap) σ7 H7 s7->N σ7 H7->∃ m,m<n/\∃ i σ' H',Inv X pins σ' H' s7/\tn i s7.heap/\(∀ b∈fp,H' b=none)/\W i m σ' H':=fun {σ7 H7} I7 n7=>by
   obtain ⟨m',hm,w7⟩:=hN σ7 H7 n7
   refine ⟨m',hm,i+1,σ7,H7,I7.unpinned,T.keep _ _ _ st5 fun b hb o e=>(I7.pin (b,o) (List.mem_append_right _ (List.mem_append_right _ (cZ hb e)))).1,fun b hb => ?_,w7⟩
   obtain ⟨o,e,d⟩:=T.obj _ _ st5 b hb
   exact (I7.pin (b,o) (List.mem_append_right _ (List.mem_append_right _ (cZ hb e)))).2.1
  cases f with
  | next=>obtain ⟨σ7,H7,I7,n7⟩:=q7;exact again I7 n7
  | cont=>obtain ⟨σ7,H7,I7,n7⟩:=q7;exact again I7 n7
  | brk=>obtain ⟨σ7,H7,I7,q7⟩:=q7;exact ⟨σ7,H7,I7.unpinned,q7⟩
  | ret v=>obtain ⟨x7,σ7,H7,I7,r7,q7⟩:=q7;exact ⟨x7,σ7,H7,I7.unpinned,r7,q7⟩
end
end L2
namespace L2
open PySem PySem.Spec PyProof.Rows
abbrev R2:=V->V->Hp->VK->Prop
def OpR (X:Cx) (f:Value->Value->Sem Value) (r:R2):Prop :=
 ∀ (pins:List ↥10) (s:Shared) (σ:St) (H:Hp) (x y:V) (v u:Value) (Q:VK),Inv X pins σ H s->RelV x v->RelV y u->r x y H Q ->
  wpAny ↥4 X.A (f v u) (EP X pins σ Q) X.xe s
def UnR (X:Cx) (f:Value->Sem Value) (r:V->Hp->VK->Prop):Prop :=
 ∀ (pins:List ↥10) (s:Shared) (σ:St) (H:Hp) (x:V) (v:Value) (Q:VK),Inv X pins σ H s->RelV x v->r x H Q ->
  wpAny ↥4 X.A (f v) (EP X pins σ Q) X.xe s
def fk (X:Cx) (f:Value) (r:List V->Hp->VK->Prop):Prop :=
 ∀ (pins:List ↥10) (s:Shared) (σ:St) (H:Hp) (xs:List V) (us:List Value) (Q:VK),Inv X pins σ H s->Vals xs us->r xs H Q ->
  wpAny ↥4 X.A (call f us) (EP X pins σ Q) X.xe s
def tOp (r:R2) (ta tb:TE):TE:=fun σ H Q=>ta σ H fun x H1=>tb σ H1 fun y H2=>r x y H2 Q
def tUn (r:V->Hp->VK->Prop) (ta:TE):TE:=fun σ H Q=>ta σ H fun x H1=>r x H1 Q
def rI (C:Int->Int->Prop) (g:Int->Int->V):R2:=fun x y H Q=>∃ i j,x=.int i/\y=.int j/\C i j/\Q (g i j) H
def rI0 (g:Int->Int->V):R2:=fun x y H Q=>∃ i j,x=.int i/\y=.int j/\Q (g i j) H
def rU (g:Int->V):V->Hp->VK->Prop:=fun x H Q=>∃ i,x=.int i/\Q (g i) H
section
variable {X:Cx} {a b c:Expr} {ta tb tc:TE} {pos:Pos}
theorem Mx (ha:PE X a ta) (hb:PE X b tb) {pins:List ↥10} {s:Shared} {σ:St} {H:Hp} {R:V->V->Hp->Prop} (I:Inv X pins σ H s)
  (h:ta σ H fun x H1=>tb σ H1 fun y H2=>R x y H2) {Q:Value->Shared->Prop} {f:Value->Value->Sem Value}
  (hf:∀ v u s2 x y H2,Inv X pins σ H2 s2->RelV x v->RelV y u->R x y H2->wpAny ↥4 X.A (f v u) Q X.xe s2) :
  wpAny ↥4 X.A (eval a X.env) (fun v s₁=>wpAny ↥4 X.A (eval b X.env) (fun u s₂=>wpAny ↥4 X.A (f v u) Q X.xe s₂) X.xe s₁) X.xe s:=by
 refine thn (ha pins s σ H _ I h) fun v s1 ⟨x,H1,I1,r1,q1⟩ => ?_
 refine thn (hb pins s1 σ H1 _ I1 q1) fun u s2 ⟨y,H2,I2,r2,q2⟩ => ?_
 exact hf v u s2 x y H2 I2 r1 r2 q2
theorem LI {op:Operator} {r:R2} (ho:OpR X (binaryOp op) r) (ha:PE X a ta) (hb:PE X b tb):PE X (.BinOp a op b pos) (tOp r ta tb):=by
 intro pins s σ H Q I h
 exact wpAny_BinOp (Mx ha hb I h fun v u s2 x y H2 I2 rx ry q=>ho pins s2 σ H2 x y v u Q I2 rx ry q)
theorem LG {op:UnaryOp} {r:V->Hp->VK->Prop} (ho:UnR X (unaryOp op) r) (ha:PE X a ta):PE X (.UnaryOp op a pos) (tUn r ta):=by
 intro pins s σ H Q I h
 exact UnaryOp_ (thn (ha pins s σ H _ I h) fun v s1 ⟨x,H1,I1,r1,q1⟩=>ho pins s1 σ H1 x v Q I1 r1 q1)
theorem opI {f:Value->Value->Sem Value} {C:Int->Int->Prop} {g:Int->Int->Int}
  (rule:∀ (i j:Int) (t u:Tok) (s:Shared) (Q:Value->Shared->Prop) (E:Value->Shared->Prop),C i j->Q (.int (g i j) s.toks) { s with toks:=s.toks+1 }->wpAny ↥4 X.A (f (.int i t) (.int j u)) Q E s) :
  OpR X f (rI C fun i j=>.int (g i j)):=by
 intro pins s σ H x y v u Q I rx ry h
 obtain ⟨i,j,rfl,rfl,hc,q⟩:=h
 obtain ⟨t,rfl⟩:=rx
 obtain ⟨t',rfl⟩:=ry
 exact rule i j t t' s _ _ hc ⟨.int (g i j),H,I.tok _,⟨_,rfl⟩,q⟩
theorem Jl {f:Value->Value->Sem Value} {g:Int->Int->Int}
  (rule:∀ (i j:Int) (t u:Tok) (s:Shared) (Q:Value->Shared->Prop) (E:Value->Shared->Prop),Q (.int (g i j) s.toks) { s with toks:=s.toks+1 }->wpAny ↥4 X.A (f (.int i t) (.int j u)) Q E s) :
  OpR X f (rI0 fun i j=>.int (g i j)):=by
 intro pins s σ H x y v u Q I rx ry h
 obtain ⟨i,j,rfl,rfl,q⟩:=h
 obtain ⟨t,rfl⟩:=rx
 obtain ⟨t',rfl⟩:=ry
 exact rule i j t t' s _ _ ⟨.int (g i j),H,I.tok _,⟨_,rfl⟩,q⟩
theorem KA {f:Value->Value->Sem Value} {g:Int->Int->Bool}
  (rule:∀ (i j:Int) (t u:Tok) (s:Shared) (Q:Value->Shared->Prop) (E:Value->Shared->Prop),Q (.bool (g i j)) s->wpAny ↥4 X.A (f (.int i t) (.int j u)) Q E s) :
  OpR X f (rI0 fun i j=>.bl (g i j)):=by
 intro pins s σ H x y v u Q I rx ry h
 obtain ⟨i,j,rfl,rfl,q⟩:=h
 obtain ⟨t,rfl⟩:=rx
 obtain ⟨t',rfl⟩:=ry
 exact rule i j t t' s _ _ ⟨.bl (g i j),H,I,rfl,q⟩
theorem vd (k:Nat):(0:Int)<=2^k:=by
 rw [two_pow_cast]
 exact Int.natCast_nonneg _
theorem Jk:OpR X (binaryOp .Add) (rI0 fun i j=>.int (i+j)):=Jl fun _ _ _ _ _ _ _ q=>add_int q
theorem Jc:OpR X (binaryOp .Sub) (rI0 fun i j=>.int (i - j)):=Jl fun _ _ _ _ _ _ _ q=>sub_int q
theorem Jf:OpR X (binaryOp .Mod) (rI (fun _ j=>0<j) fun i j=>.int (i%j)):=opI fun i j _ _ _ _ _ hc q=>by
 have h1:(0:Int)<j:=hc
 exact mod_int' ⋯ (by rw [Int.fmod_eq_emod_of_nonneg i ⋯];exact q)
theorem Jd:OpR X (binaryOp .RShift) (rI (fun _ j=>0<=j) fun i j=>.int (i / 2^j.toNat)):=opI fun i j _ _ _ _ _ hc q =>
 rshift_int hc (by rw [Int.fdiv_eq_ediv_of_nonneg i (vd _)];exact q)
theorem Jj:OpR X (binaryOp .BitAnd) (rI0 fun i j=>.int (Builtin.bitAnd i j)):=Jl fun _ _ _ _ _ _ _ q=>and_int q
theorem LM:OpR X (binaryOp .BitOr) (rI0 fun i j=>.int (Builtin.bitOr i j)):=Jl fun _ _ _ _ _ _ _ q=>or_int q
theorem Jb:OpR X (binaryOp .BitXor) (rI0 fun i j=>.int (Builtin.bitXor i j)):=Jl fun _ _ _ _ _ _ _ q=>xor_int q
theorem unI {f:Value->Sem Value} {g:Int->Int}
  (rule:∀ (i:Int) (t:Tok) (s:Shared) (Q:Value->Shared->Prop) (E:Value->Shared->Prop),Q (.int (g i) s.toks) { s with toks:=s.toks+1 }->wpAny ↥4 X.A (f (.int i t)) Q E s) :
  UnR X f (rU fun i=>.int (g i)):=by
 intro pins s σ H x v Q I rx h
 obtain ⟨i,rfl,q⟩:=h
 obtain ⟨t,rfl⟩:=rx
 exact rule i t s _ _ ⟨.int (g i),H,I.tok _,⟨_,rfl⟩,q⟩
theorem Hv:UnR X (unaryOp .USub) (rU fun i=>.int (-i)):=unI fun _ _ _ _ _ q=>neg_int q
end
def Ky:V->V->Bool
 | .non,.non=>true | .non,.int _=>true | .int _,.non=>true | .non,.bl _=>true | .bl _,.non=>true | .non,.str _=>true | .str _,.non=>true
 | .int _,.int _=>true | .bl _,.bl _=>true | .str _,.str _=>true | .byt _,.byt _=>true
 | .int _,.str _=>true | .str _,.int _=>true | .bl _,.str _=>true | .str _,.bl _=>true
 | _,_=>false
def rEq:R2:=fun x y H Q=>Ky x y=true/\Q (.bl (decide (x=y))) H
def rNe:R2:=fun x y H Q=>Ky x y=true/\Q (.bl (!decide (x=y))) H
theorem sM {i j:Int}:decide (V.int i=V.int j)=(i == j):=by
 rw [Bool.eq_iff_iff]
 simp
theorem yV {i j:Bool}:decide (V.bl i=V.bl j)=(i == j):=by
 rw [Bool.eq_iff_iff]
 simp
theorem sL {i j:Str}:decide (V.str i=V.str j)=(i == j):=by
 rw [Bool.eq_iff_iff]
 simp
theorem yU {i j:Array UInt8}:decide (V.byt i=V.byt j)=(i.toList == j.toList):=by
 rw [Bool.eq_iff_iff]
 cases i
 cases j
 simp
section
variable {X:Cx} {a b c:Expr} {ta tb tc:TE} {pos:Pos}
theorem dR {pins:List ↥10} {σ:St} {H:Hp} {s:Shared} {Q:VK} {k k':Bool} (I:Inv X pins σ H s) (q:Q (.bl k) H) (e:k=k'):EP X pins σ Q (.bool k') s:=by
 subst e
 exact ⟨.bl k,H,I,rfl,q⟩
theorem LS:OpR X (compareOp .Eq) rEq:=by
 intro pins s σ H x y v u Q I rx ry h
 obtain ⟨hs,q⟩:=h
 cases x with
 | non =>
  cases rx
  cases y with
  | non=>cases ry;exact PySem.EqNone.eq_none_none ↥18
  | bl j=>cases ry;exact PySem.EqNone.eq_none_bool ↥18
  | int j=>obtain ⟨t',rfl⟩:=ry;exact PySem.EqNone.eq_none_int ↥18
  | str j=>obtain ⟨t',rfl⟩:=ry;exact PySem.EqNone.eq_none_str ↥18
  | _=>exact absurd (show false=true from hs) Bool.false_ne_true
 | bl i =>
  cases rx
  cases y with
  | non=>cases ry;exact PySem.EqNone.eq_bool_none ↥18
  | bl j=>cases ry;exact eq_bool (dR I q yV)
  | str j=>obtain ⟨t',rfl⟩:=ry;exact PySem.EqMixed.eq_bool_str ↥18
  | _=>exact absurd (show false=true from hs) Bool.false_ne_true
 | int i =>
  obtain ⟨t,rfl⟩:=rx
  cases y with
  | non=>cases ry;exact PySem.EqNone.eq_int_none ↥18
  | int j=>obtain ⟨t',rfl⟩:=ry;exact eq_int (dR I q sM)
  | str j=>obtain ⟨t',rfl⟩:=ry;exact PySem.EqMixed.eq_int_str ↥18
  | _=>exact absurd (show false=true from hs) Bool.false_ne_true
 | str i =>
  obtain ⟨t,rfl⟩:=rx
  cases y with
  | non=>cases ry;exact PySem.EqNone.eq_str_none ↥18
  | bl j=>cases ry;exact PySem.EqMixed.eq_str_bool ↥18
  | int j=>obtain ⟨t',rfl⟩:=ry;exact PySem.EqMixed.eq_str_int ↥18
  | str j=>obtain ⟨t',rfl⟩:=ry;exact eq_str (dR I q sL)
  | _=>exact absurd (show false=true from hs) Bool.false_ne_true
 | byt i =>
  obtain ⟨t,rfl⟩:=rx
  cases y with
  | byt j=>obtain ⟨t',rfl⟩:=ry;exact PySem.W.eq_bytes (dR I q yU)
  | _=>exact absurd (show false=true from hs) Bool.false_ne_true
 | _=>cases y<;>exact absurd (show false=true from hs) Bool.false_ne_true
theorem LN:OpR X (compareOp .NotEq) rNe:=by
 intro pins s σ H x y v u Q I rx ry h
 obtain ⟨hs,q⟩:=h
 cases x with
 | non =>
  cases rx
  cases y with
  | non=>cases ry;exact PySem.EqNone.ne_none_none ↥18
  | bl j=>cases ry;exact PySem.EqNone.ne_none_bool ↥18
  | int j=>obtain ⟨t',rfl⟩:=ry;exact PySem.EqNone.ne_none_int ↥18
  | str j=>obtain ⟨t',rfl⟩:=ry;exact PySem.EqNone.ne_none_str ↥18
  | _=>exact absurd (show false=true from hs) Bool.false_ne_true
 | bl i =>
  cases rx
  cases y with
  | non=>cases ry;exact PySem.EqNone.ne_bool_none ↥18
  | bl j=>cases ry;exact ne_bool (dR I q (congrArg not yV))
  | str j=>obtain ⟨t',rfl⟩:=ry;exact PySem.EqMixed.ne_bool_str ↥18
  | _=>exact absurd (show false=true from hs) Bool.false_ne_true
 | int i =>
  obtain ⟨t,rfl⟩:=rx
  cases y with
  | non=>cases ry;exact PySem.EqNone.ne_int_none ↥18
  | int j=>obtain ⟨t',rfl⟩:=ry;exact ne_int (dR I q (congrArg not sM))
  | str j=>obtain ⟨t',rfl⟩:=ry;exact PySem.EqMixed.ne_int_str ↥18
  | _=>exact absurd (show false=true from hs) Bool.false_ne_true
 | str i =>
  obtain ⟨t,rfl⟩:=rx
  cases y with
  | non=>cases ry;exact PySem.EqNone.ne_str_none ↥18
  | bl j=>cases ry;exact PySem.EqMixed.ne_str_bool ↥18
  | int j=>obtain ⟨t',rfl⟩:=ry;exact PySem.EqMixed.ne_str_int ↥18
  | str j=>obtain ⟨t',rfl⟩:=ry;exact ne_str (dR I q (congrArg not sL))
  | _=>exact absurd (show false=true from hs) Bool.false_ne_true
 | byt i =>
  obtain ⟨t,rfl⟩:=rx
  cases y with
  | byt j=>obtain ⟨t',rfl⟩:=ry;exact PySem.W.ne_bytes (dR I q (congrArg not yU))
  | _=>exact absurd (show false=true from hs) Bool.false_ne_true
 | _=>cases y<;>exact absurd (show false=true from hs) Bool.false_ne_true
theorem LO:OpR X (compareOp .Lt) (rI0 fun i j=>.bl (decide (i<j))):=KA fun _ _ _ _ _ _ _ q=>lt_int q
theorem LP:OpR X (compareOp .LtE) (rI0 fun i j=>.bl (decide (i<=j))):=KA fun _ _ _ _ _ _ _ q=>le_int q
theorem LQ:OpR X (compareOp .Gt) (rI0 fun i j=>.bl (decide (j<i))):=KA fun _ _ _ _ _ _ _ q=>gt_int q
theorem LR:OpR X (compareOp .GtE) (rI0 fun i j=>.bl (decide (j<=i))):=KA fun _ _ _ _ _ _ _ q=>ge_int q
theorem xC:OpR X (compareOp .In) (fun x y H Q=>∃ i j,x=.str i/\y=.str j/\Q (.bl (!(Builtin.Str.occurrences j i 0 j.length 1).isEmpty)) H):=by
 intro pins s σ H x y v u Q I rx ry h
 obtain ⟨i,j,rfl,rfl,q⟩:=h
 obtain ⟨t,rfl⟩:=rx
 obtain ⟨t',rfl⟩:=ry
 exact in_str (dR I q rfl)
theorem Jh:OpR X (compareOp .Is) (fun x y H Q=>y=.non/\Q (.bl (decide (x=.non))) H):=by
 intro pins s σ H x y v u Q I rx ry h
 obtain ⟨rfl,q⟩:=h
 cases ry
 refine is_none_gen (dR I q ?_)
 cases x<;>first
  | (cases rx;rfl)
  | (obtain ⟨t,rfl⟩:=rx;rfl)
theorem E6:OpR X (compareOp .IsNot) (fun x y H Q=>y=.non/\Q (.bl (!decide (x=.non))) H):=by
 intro pins s σ H x y v u Q I rx ry h
 obtain ⟨rfl,q⟩:=h
 cases ry
 refine isnot_none_gen (dR I q ?_)
 cases x<;>first
  | (cases rx;rfl)
  | (obtain ⟨t,rfl⟩:=rx;rfl)
def isObj:HO->Bool
 | .lst _=>true
 | .ins _ _ _=>true
 | _=>false
theorem kU {pins:List ↥10} {s:Shared} {σ:St} {H:Hp} {a:Addr} {o:HO} (I:Inv X pins σ H s) (h:H a=some o) (p:isObj o=true):∃ ob,s.heap.get? a=some ob/\ob.cls ≠ .type "tuple":=by
 cases o with
 | lst xs =>
  obtain ⟨_,its,n,_,e⟩:xs.length<=sizeLine/\∃ (its:List Value) (n:Nat),Vals xs its/\s.heap.get? a=some { cls:=.type "list",data:=.seq its.toArray n }:=I.hok a _ h
  exact ⟨_,e,(by show Value.type "list" ≠ .type "tuple";decide +kernel)⟩
 | ins C dx fs =>
  have x:=I.hok a _ h
  obtain ⟨_,_,_,e,_⟩:=x
  exact ⟨_,e,(by show Value.ref C ≠ .type "tuple";exact fun z=>by cases z)⟩
 | _=>exact absurd (show false=true from p) Bool.false_ne_true
theorem gG (b:Expr) {op:CmpOp} (h:op ≠ .In:=by decide) (h2:op ≠ .NotIn:=by decide):behindInMarks op b=false:=by
 have e1:(op == CmpOp.In)=false:=by cases op<;>first | rfl | exact absurd rfl h
 have e2:(op == CmpOp.NotIn)=false:=by cases op<;>first | rfl | exact absurd rfl h2
 cases b<;>simp [behindInMarks,e1,e2]
theorem EW {op:CmpOp} {r:R2} (ho:OpR X (compareOp op) r) (ha:PE X a ta) (hb:PE X b tb) (hm:behindInMarks op b=false):PE X (.Compare a [op] [b] pos) (tOp r ta tb):=by
 intro pins s σ H Q I h
 exact wpAny_Compare1 (Mx ha hb I h fun v u s2 x y H2 I2 rx ry q=>ho pins s2 σ H2 x y v u Q I2 rx ry q) hm
def HW (t:TE):TT:=fun σ H Q=>t σ H fun x H'=>∃ k,x=.bl k/\Q k H'
theorem rL {op:CmpOp} {r:R2} (ho:OpR X (compareOp op) r) (ha:PE X a ta) (hb:PE X b tb) (hm:behindInMarks op b=false):PT X (.Compare a [op] [b] pos) (HW (tOp r ta tb)):=by
 intro pins s σ H Q I h
 refine wpAny_isTrue_Compare1 (thn (ha pins s σ H _ I h) fun v s1 ⟨x,H1,I1,r1,q1⟩=>thn (hb pins s1 σ H1 _ I1 q1) fun u s2 ⟨y,H2,I2,r2,q2⟩ =>
  thn (ho pins s2 σ H2 x y v u _ I2 r1 r2 q2) fun c s3 ⟨z,H3,I3,r3,k,e,q3⟩ => ?_) hm
 subst e
 cases r3
 exact wpAny_truthy_bool ⟨H3,I3,q3⟩
def HY (r r':R2) (ta tb tc:TE):TE:=fun σ H Q=>ta σ H fun x H1=>tb σ H1 fun y H2=>r x y H2 fun z H3=>∃ k,z=.bl k /\
 (if k=true then tc σ H3 fun w' H4=>r' y w' H4 Q else Q ↥28 H3)
theorem AZ {op op':CmpOp} {r r':R2} (ho:OpR X (compareOp op) r) (ho':OpR X (compareOp op') r') (ha:PE X a ta) (hb:PE X b tb) (hc:PE X c tc)
  (hm:lastMarks [op,op'] [b,c]=false:=by with_unfolding_all rfl):PT X (.Compare a [op,op'] [b,c] pos) (HW (HY r r' ta tb tc)):=by
 intro pins s σ H Q I h
 refine isTrue_chain (thn (ha pins s σ H _ I h) fun v s1 ⟨x,H1,I1,r1,q1⟩=>test_link (thn (hb pins s1 σ H1 _ I1 q1) fun u s2 ⟨y,H2,I2,r2,q2⟩ =>
  thn (ho pins s2 σ H2 x y v u _ I2 r1 r2 q2) fun d s3 ⟨z,H3,I3,r3,k,e,q3⟩ => ?_)) hm
 subst e
 cases r3
 refine wpAny_truthy_bool ?_
 cases k with
 | false =>
  obtain ⟨k',e',q'⟩:=q3
  cases e'
  exact ite_ff ⟨H3,I3,q'⟩
 | true =>
  refine ite_tt (test_last (thn (hc pins s3 σ H3 _ I3 q3) fun w' s4 ⟨z',H4,I4,r4,q4⟩=>thn (ho' pins s4 σ H4 y z' u w' _ I4 r2 r4 q4) fun d' s5 ⟨z2,H5,I5,r5,k2,e2,q5⟩ => ?_))
  subst e2
  cases r5
  exact wpAny_truthy_bool ⟨H5,I5,q5⟩
theorem qk:(sizeLine:Nat)<2^63:=by rw [sizeLine_eq];decide
theorem vx:OpR X (binaryOp .Add) (fun x y H Q=>∃ i j,x=.str i/\y=.str j/\i.length+j.length<=sizeLine/\Q (.str (i++j)) H):=by
 intro pins s σ H x y v u Q I rx ry h
 obtain ⟨i,j,rfl,rfl,hz,q⟩:=h
 obtain ⟨t,rfl⟩:=rx
 obtain ⟨t',rfl⟩:=ry
 exact add_str (fun t' tk=>⟨.str (i++j),H,I.tok _,⟨_,rfl⟩,q⟩) hz
theorem vals1 {x:V} {us:List Value} (r:Vals [x] us):∃ u,us=[u]/\RelV x u:=by
 cases r with
 | cons r1 r2=>cases r2;exact ⟨_,rfl,r1⟩
theorem vals2 {x y:V} {us:List Value} (r:Vals [x,y] us):∃ u w',us=[u,w']/\RelV x u/\RelV y w':=by
 cases r with
 | cons r1 r2 =>
  cases r2 with
  | cons r3 r4=>cases r4;exact ⟨_,_,rfl,r1,r3⟩
theorem B5:fk X (.builtin "abs") (fun xs H Q=>∃ i,xs=[.int i]/\Q (.int (if i<0 then -i else i)) H):=by
 intro pins s σ H xs us Q I r h
 obtain ⟨i,rfl,q⟩:=h
 obtain ⟨u,rfl,t,rfl⟩:=vals1 r
 exact call_abs_int fun u tk=>⟨.int (if i<0 then -i else i),H,I.tok _,⟨_,rfl⟩,q⟩
theorem zc (hc:X.calm=true):fk X (.builtin "max") (fun xs H Q=>∃ i j,xs=[.int i,.int j]/\Q (.int (if j>i then j else i)) H):=by
 intro pins s σ H xs us Q I r h
 obtain ⟨i,j,rfl,q⟩:=h
 obtain ⟨u,w',rfl,⟨t,rfl⟩,⟨t',rfl⟩⟩:=vals2 r
 refine max_two_ints (I.ok.hd hc) fun h' tk k=>⟨_,H,I.kept k,?_,q⟩
 by_cases hj:j>i
 ·rw [if_pos hj,if_pos hj];exact ⟨_,rfl⟩
 ·rw [if_neg hj,if_neg hj];exact ⟨_,rfl⟩
theorem zb (hc:X.calm=true):fk X (.builtin "min") (fun xs H Q=>∃ i j,xs=[.int i,.int j]/\Q (.int (if j<i then j else i)) H):=by
 intro pins s σ H xs us Q I r h
 obtain ⟨i,j,rfl,q⟩:=h
 obtain ⟨u,w',rfl,⟨t,rfl⟩,⟨t',rfl⟩⟩:=vals2 r
 refine min_two_ints (I.ok.hd hc) fun h' tk k=>⟨_,H,I.kept k,?_,q⟩
 by_cases hj:j<i
 ·rw [if_pos hj,if_pos hj];exact ⟨_,rfl⟩
 ·rw [if_neg hj,if_neg hj];exact ⟨_,rfl⟩
end
end L2
namespace L2
open PySem PySem.Spec PyProof.Rows
structure ObjM (h:Heap) (x dx C:Addr) (mA:Str->Option Value):Prop where
 obj:h.get? x=some (PySem.W.instObj C dx)
 ns:h.Ns1 dx mA
 ne:dx≠x
theorem yo {h:Heap} {dx:Addr} {mA:Str->Option Value} (n:h.Ns1 dx mA):∃ od,h.get? dx=some od/\∀ name,PySem.W.lookIn name od=some (mA name):=by
 obtain ⟨o,es,ep,ho,hd,hk,_,hm⟩:=n
 refine ⟨o,ho,fun name => ?_⟩
 have e:=hm name
 unfold nsFind findBy at e
 rw [<- Array.find?_toList] at e
 unfold PySem.W.lookIn
 rw [hd]
 dsimp only
 split
 ·rename_i y q
  rw [q] at e
  exact congrArg some e
 ·rename_i q
  rw [q] at e
  have a:es.toList.any (·.refKey)=false:=by
   rw [List.any_eq_false]
   intro y hy
   obtain ⟨z,t,hkey⟩:=hk y (Array.mem_toList_iff.mp hy)
   simp [DictEntry.refKey,hkey]
  have a':¬ es.toList.any (·.refKey)=true:=by rw [a];exact Bool.false_ne_true
  rw [if_neg a']
  exact congrArg some e
theorem ObjM.look {h:Heap} {x dx C:Addr} {mA:Str->Option Value} (I:ObjM h x dx C mA):∃ od,PySem.W.InstAt h x (PySem.W.instObj C dx) C (some od)/\∀ name,PySem.W.lookIn name od=some (mA name) :=
 let ⟨od,ho,hl⟩:=yo I.ns
 ⟨od,⟨I.obj,rfl,rfl,ho⟩,hl⟩
section
variable {prog:Program} {w:World} {A:Around} {E:Value->Shared->Prop} {s:Shared} {K:PySem.W.Frag} {x dx C f:Addr} {mA:Str->Option Value} {name:Str} {v:Value}
theorem get_map {expr:Bool} {Q:Value->Shared->Prop} (X:K.In s.heap) (I:ObjM s.heap x dx C mA) (hg:PySem.W.plainGet K C name=true) (hh:PySem.W.hasDictIn K C=true)
  (ha:PySem.W.findIn K (.ref C) name=some none) (hv:mA name=some v) (hv':PySem.W.handedIn v=true) (h:Q v { s with toks:=s.toks+1 }) :
  wpAny ↥17 A (getAttr (.ref x) name expr) Q E s:=by
 obtain ⟨od,J,hl⟩:=I.look
 exact PySem.W.get_value X J (PySem.W.plainGet_of hg).1 (PySem.W.findObj_own hh ha rfl (by rw [hl,hv])) hv' h
theorem BP {pl:Sem Bool} {Q:Value×List Value->Shared->Prop} (X:K.In s.heap) (I:ObjM s.heap x dx C mA) (hg:PySem.W.plainGet K C name=true)
  (hf:PySem.W.findIn K (.ref C) name=some (some (.ref f))) (ht:PySem.W.isFn K (.ref f)=true) (hv:mA name=none) (h:Q (.ref f,[.ref x]) s) :
  wpAny ↥17 A (getMethod (.ref x) name pl) Q E s:=by
 obtain ⟨od,J,hl⟩:=I.look
 exact PySem.W.method_fn X J (PySem.W.plainGet_of hg).1 (PySem.W.plainGet_of hg).2 hf (beq_iff_eq.mp ht) (by show (PySem.W.lookIn name od).map (·.isSome)=some false;rw [hl,hv];rfl) h
theorem Ez {ns:List Str} {Q:Unit->Shared->Prop} (X:K.In s.heap) (I:ObjM s.heap x dx C mA)
  (hs:PySem.W.findIn K (.ref C) "__setattr__"=some (some (.builtin "object.__setattr__"))) (hp:PySem.W.plainOver K C=true) (ht:PySem.W.takerIn K C name=some none) (hh:PySem.W.hasDictIn K C=true)
  (hw:PySem.Within mA ns) (hsz:ns.length<=sizeLine)
  (h:∀ h',ObjM h' x dx C (fun y=>if y=name then some v else mA y)->Heap.SameBut dx s.heap h'->Q () { s with heap:=h',toks:=s.toks+2 }) :
  wpAny ↥17 A (setAttr (.ref x) name v) Q E s:=by
 obtain ⟨od,J,hl⟩:=I.look
 refine PySem.W.set_plain X J hs (PySem.W.osa_open (s:={ s with toks:=s.toks+1 }) (r:=none) X J hp ht fun b => ?_)
 obtain ⟨cd,hc,hd'⟩:=PySem.W.any_some hh
 have hx:s.heap.get? x=some ⟨.ref C,some dx,.plain,#[]⟩:=I.obj
 refine wpAny_bind (wpAny_pure (wpAny_bind (wpAny_bind (wpAny_loadPart hx (wpAny_bind (PySem.W.Looks.here (s:={ s with toks:=s.toks+1 }) (PySem.W.looks_clsIn X hc) ?_))))))
 rw [hd']
 refine wpAny_pure (a:=some dx) (wpAny_bind (wpAny_pure (wpAny_bind ?_)))
 refine wpAny_nsSet1 (s:={ s with toks:=s.toks+1 }) I.ns fun h' hn2 hs2 => ?_
 obtain ⟨oD,esD,epD,hoD,hdD,hcD⟩:=hn2.count (PySem.Within.cons name v hw)
 refine wpAny_bind (wpAny_lookBehind hoD (by rw [hdD];exact pastItsLine_dict (Nat.le_trans hcD (by rw [List.length_cons];omega))) ?_)
 exact wpAny_pure (h _ ⟨(hs2.2 _ (Ne.symm I.ne)).trans I.obj,hn2,I.ne⟩ hs2)
theorem BD {R:Result->Shared->Prop} {vs:List Value} {kw:List (Str×Value)} (X:K.In s.heap) (hm:PySem.W.makesIn K C=true)
  (hi:PySem.W.findIn K (.ref C) "__init__"=some (some (.ref f))) (hf:PySem.W.typeIn K (.ref f)=some (.type "function"))
  (h:codeAny ↥17 (A.under (.builtin "type.__call__" ⟨.ref C::vs,kw⟩)) (.call (.ref f) ⟨.ref ↥29::vs,kw⟩) (PySem.W.InitBack ↥29 R)
   { s with heap:=(s.heap.push PySem.W.emptyDict).push (PySem.W.instObj C s.heap.objs.size) }) :
  codeAny ↥17 A (.call (.ref C) ⟨vs,kw⟩) R s:=by
 obtain ⟨hh,g,d,t,os⟩:=s
 exact PySem.W.make_core (PySem.W.makes_of X hm) (PySem.W.looks_findIn X hi) (fun self=>PySem.W.bind_fn X self hf) (.inl rfl) h
end
def qW (f:Str) (v:V):List (Str×V)->List (Str×V)
 | []=>[(f,v)]
 | (g,x)::r=>if g=f then (g,v)::r else (g,x)::qW f v r
theorem lj (f g:Str) (v:V):∀ fs:List (Str×V),(qW f v fs).lookup g=if g=f then some v else fs.lookup g
 | []=>by
  show List.lookup g [(f,v)]=_
  by_cases h:g=f
  ·have hb:(g == f)=true:=beq_iff_eq.mpr h
   simp only [List.lookup,hb,if_pos h]
  ·have hb:(g == f)=false:=beq_eq_false_iff_ne.mpr h
   simp only [List.lookup,hb,if_neg h]
 | (k,x)::r=>by
  have ih:=lj f g v r
  rw [show qW f v ((k,x)::r)=(if k=f then (k,v)::r else (k,x)::qW f v r) from rfl]
  by_cases hk:k=f
  ·rw [if_pos hk]
   by_cases h:g=k
   ·have hb:(g == k)=true:=beq_iff_eq.mpr h
    simp only [List.lookup,hb,if_pos (h.trans hk)]
   ·have hb:(g == k)=false:=beq_eq_false_iff_ne.mpr h
    simp only [List.lookup,hb,if_neg (fun e:g=f=>h (e.trans hk.symm))]
  ·rw [if_neg hk]
   by_cases h:g=k
   ·have hb:(g == k)=true:=beq_iff_eq.mpr h
    simp only [List.lookup,hb,if_neg (fun e:g=f=>hk (h.symm.trans e))]
   ·have hb:(g == k)=false:=beq_eq_false_iff_ne.mpr h
    simp only [List.lookup,hb]
    exact ih
theorem lB (f:Str) (v:V):∀ fs:List (Str×V),f∈(qW f v fs).map (·.1)/\∀ g,g∈fs.map (·.1)->g∈(qW f v fs).map (·.1)
 | []=>⟨by simp [qW],fun g h=>by simp at h⟩
 | (k,x)::r=>by
  obtain ⟨i1,i2⟩:=lB f v r
  rw [show qW f v ((k,x)::r)=(if k=f then (k,v)::r else (k,x)::qW f v r) from rfl]
  by_cases hk:k=f
  ·rw [if_pos hk]
   subst hk
   exact ⟨by simp,fun g h=>by simpa using h⟩
  ·rw [if_neg hk]
   refine ⟨?_,fun g h => ?_⟩
   ·rw [List.map_cons]
    exact List.mem_cons_of_mem _ i1
   ·rw [List.map_cons] at h ⊢
    rcases List.mem_cons.mp h with e | e
    ·exact List.mem_cons.mpr (.inl e)
    ·exact List.mem_cons_of_mem _ (i2 g e)
theorem lx (f:Str) (v:V):∀ fs:List (Str×V),(qW f v fs).length<=fs.length+1
 | []=>by simp [qW]
 | (k,x)::r=>by
  have ih:=lx f v r
  rw [show qW f v ((k,x)::r)=(if k=f then (k,v)::r else (k,x)::qW f v r) from rfl]
  by_cases hk:k=f
  ·rw [if_pos hk,List.length_cons,List.length_cons];omega
  ·rw [if_neg hk,List.length_cons,List.length_cons];omega
theorem zT.some_of {v:V} {o:Option Value} (r:zT (some v) o):∃ u,o=some u/\RelV v u:=by
 cases o with
 | none=>exact (show False from r).elim
 | some u=>exact ⟨u,rfl,r⟩
theorem zT.none_of {o:Option Value} (r:zT none o):o=none:=by
 cases o with
 | none=>rfl
 | some u=>exact (show False from r).elim
theorem yE {v:V} {u:Value} (r:RelV v u):PySem.W.handedIn u=true:=by
 cases v with
 | non=>cases (show u=Value.none from r);rfl
 | bl b=>cases (show u=Value.bool b from r);rfl
 | int i=>obtain ⟨t,e⟩:=(show ∃ t,u=Value.int i t from r);cases e;rfl
 | str x=>obtain ⟨t,e⟩:=(show ∃ t,u=Value.str x t from r);cases e;rfl
 | byt b=>obtain ⟨t,e⟩:=(show ∃ t,u=Value.bytes b t from r);cases e;rfl
 | flt b=>obtain ⟨t,e⟩:=(show ∃ t,u=Value.float b t from r);cases e;rfl
 | ref a=>cases (show u=Value.ref a from r);rfl
 | ty n=>cases (show u=Value.type n from r);rfl
section
variable {P:Program} {w:World} {H H':Hp} {h h':Heap} {a C dx:Addr} {fs fs':List (Str×V)}
theorem sA (hok:HOk P w H h) (e:H a=some (.ins C dx fs)):∃ mA,ObjM h a dx C mA/\(∀ f,zT (fs.lookup f) (mA f))/\PySem.Within mA (fs.map (·.1))/\fs.length<=1000/\H dx=some (.own a):=by
 obtain ⟨d,z,ne,ob,mA,n,r,q⟩:=(show gW P w H h a (.ins C dx fs) from hok a _ e)
 exact ⟨mA,⟨ob,n,ne⟩,r,q,z,d⟩
end
structure Cls (K:PySem.W.Frag) (C:Addr):Prop where
 pg:PySem.W.plainGet K C Str.empty=true
 hd:PySem.W.hasDictIn K C=true
 po:PySem.W.plainOver K C=true
 sa:PySem.W.findIn K (.ref C) "__setattr__"=some (some (.builtin "object.__setattr__"))
theorem Cls.get {K:PySem.W.Frag} {C:Addr} (c:Cls K C) (f:Str):PySem.W.plainGet K C f=true:=c.pg
def iK (K:PySem.W.Frag) (C:Addr) (f:Str):Prop:=PySem.W.findIn K (.ref C) f=some none
theorem iK.taker {K:PySem.W.Frag} {C:Addr} {f:Str} (n:iK K C f):PySem.W.takerIn K C f=some none:=by
 unfold PySem.W.takerIn
 rw [show PySem.W.findIn K (.ref C) f=some none from n]
 rfl
structure Con (K:PySem.W.Frag) (C:Addr) (f:Str) (v:V) (u:Value):Prop where
 at_:PySem.W.findIn K (.ref C) f=some (some u)
 rel:RelV v u
 get:PySem.W.specialIn K u "__get__"=some none
 cp:PySem.W.copiedNames.contains f=false
structure Meth (K:PySem.W.Frag) (C:Addr) (m:Str) (f:Addr):Prop where
 at_:PySem.W.findIn K (.ref C) m=some (some (.ref f))
 fn:PySem.W.isFn K (.ref f)=true
 kp:PySem.W.keepIn K (.ref f)=true
section
variable {X:Cx} {pins:List ↥10} {σ:St} {H:Hp} {s:Shared} {a C dx:Addr} {fs:List (Str×V)} {f:Str} {v:V} {A:Around} {E:Value->Shared->Prop}
theorem vL {b:Bool} {Q:Value->Shared->Prop} (I:Inv X pins σ H s) (e:H a=some (.ins C dx fs)) (c:Cls X.K C) (n:iK X.K C f) (l:fs.lookup f=some v)
  (h:∀ u s',Inv X pins σ H s'->RelV v u->Q u s'):wpAny ↥4 A (getAttr (.ref a) f b) Q E s:=by
 obtain ⟨mA,O,r,_,_,_⟩:=sA I.hok e
 obtain ⟨u,hu,ru⟩:=zT.some_of (v:=v) (o:=mA f) (by rw [<- l];exact r f)
 exact get_map I.kIn O (c.get f) c.hd n hu (yE ru) (h u _ (I.tok _) ru)
theorem vK {m:Str} {g:Addr} {pl:Sem Bool} {Q:Value×List Value->Shared->Prop} (I:Inv X pins σ H s) (e:H a=some (.ins C dx fs)) (c:Cls X.K C) (k:Meth X.K C m g) (l:fs.lookup m=none)
  (h:Q (.ref g,[.ref a]) s):wpAny ↥4 A (getMethod (.ref a) m pl) Q E s:=by
 obtain ⟨mA,O,r,_,_,_⟩:=sA I.hok e
 have hn:mA m=none:=zT.none_of (by rw [<- l];exact r m)
 exact BP I.kIn O (c.get m) k.at_ k.fn hn h
theorem vg {y:V} {u:Value} {Q:Unit->Shared->Prop} (I:Inv X pins σ H s) (e:H a=some (.ins C dx fs)) (c:Cls X.K C) (n:iK X.K C f) (hl:fs.length<1000) (ry:RelV y u)
  (h:∀ s',Inv X pins σ (upd H a (.ins C dx (qW f y fs))) s'->Q () s'):wpAny ↥4 A (setAttr (.ref a) f u) Q E s:=by
 obtain ⟨mA,O,r,wi,_,ho⟩:=sA I.hok e
 have hz:(fs.map (·.1)).length<=sizeLine:=by rw [List.length_map,sizeLine_eq];omega
 refine Ez I.kIn O c.sa c.po n.taker c.hd wi hz fun h' O' sb=>h _ ?_
 have hd:∃ o,h'.get? dx=some o:=let ⟨o,_,_,e',_⟩:=O'.ns;⟨o,e'⟩
 refine I.write (x:=a) (e:=dx) (by rw [e];exact True.intro) (.inr ho) (fun b q hb z=>(sb.2 b hb).trans z) hd ?_
 refine ⟨by rw [aB O.ne];exact ho,?_,O.ne,O'.obj,_,O'.ns,fun g => ?_,fun g hg => ?_⟩
 ·have:=lx f y fs;omega
 ·show zT ((qW f y fs).lookup g) (if g=f then some u else mA g)
  rw [lj]
  by_cases q:g=f
  ·rw [if_pos q,if_pos q];exact ry
  ·rw [if_neg q,if_neg q];exact r g
 ·by_cases q:g=f
  ·rw [q];exact (lB f y fs).1
  ·refine (lB f y fs).2 g (wi g fun z=>hg ?_)
   show (if g=f then some u else mA g)=none
   rw [if_neg q];exact z
theorem Inv.made (I:Inv X pins σ H s):Inv X pins σ (upd (upd H s.heap.objs.size (.own ↥29)) ↥29 (.ins C s.heap.objs.size []))
  { s with heap:=(s.heap.push PySem.W.emptyDict).push (PySem.W.instObj C s.heap.objs.size) }:=by
 have e1:(s.heap.push PySem.W.emptyDict).get? s.heap.objs.size=some PySem.W.emptyDict:=Heap.get?_push_size s.heap rfl
 have e2:((s.heap.push PySem.W.emptyDict).push (PySem.W.instObj C s.heap.objs.size)).get? ↥29=some (PySem.W.instObj C s.heap.objs.size):=by
  have:=Heap.get?_push_size (s.heap.push PySem.W.emptyDict) (o:=PySem.W.instObj C s.heap.objs.size) rfl
  rwa [Heap.size_push] at this
 have e3:(s.heap.push PySem.W.emptyDict).Ns s.heap.objs.size (fun _=>none):=⟨PySem.W.emptyDict,#[],_,e1,rfl,(fun e he=>absurd he (by simp)),fun _=>rfl⟩
 have I1:=I.laid (a:=s.heap.objs.size) (o:=.own ↥29) (h':=s.heap.push PySem.W.emptyDict) (t':=s.toks) (fun b u q=>Heap.get?_push_of_some _ q) ↥23 ⟨_,e1⟩
 refine I1.laid (a:=s.heap.objs.size+1) (o:=.ins C s.heap.objs.size []) (t':=s.toks) (fun b u q=>Heap.get?_push_of_some _ q) (Nat.le_of_eq (Heap.size_push _ _)) ?_
 have ne:s.heap.objs.size≠s.heap.objs.size+1:=Nat.ne_of_lt (Nat.lt_succ_self _)
 refine ⟨by rw [aB ne,au],Nat.zero_le _,ne,e2,fun _=>none,(Heap.Ns1.of_empty e3).at fun o q=>Heap.get?_push_of_some _ q,fun _=>True.intro,fun y hy=>absurd rfl hy⟩
theorem GQ {prog:Program} {w:World} {env:Env} {e:Expr} {f:Str} {pos:Pos} {s:Shared} {Q:Value->Shared->Prop} (hb:attributeBase e f env (eval e env)=eval e env)
  (h:wpAny ↥17 A (eval e env) (fun o s₁=>wpAny ↥17 A (getAttr o f true) Q E s₁) E s):wpAny ↥17 A (eval (.Attribute e f pos) env) Q E s :=
 Attribute_any_ h (by rw [arm_eval_Attribute,hb])
end
def P0 (K:PySem.W.Frag) (ta:TE) (f:Str):TE:=fun σ H Q=>ta σ H fun x H1=>∃ a C dx fs v,x=.ref a/\H1 a=some (.ins C dx fs)/\Cls K C/\iK K C f/\fs.lookup f=some v/\Q v H1
def P8 (K:PySem.W.Frag) (ta tv:TE) (f:Str):TS:=fun D σ H=>tv σ H fun y H1=>ta σ H1 fun x H2=>∃ a C dx fs,x=.ref a/\H2 a=some (.ins C dx fs)/\Cls K C/\iK K C f/\fs.length<1000 /\
 D.nx σ (upd H2 a (.ins C dx (qW f y fs)))
section
variable {X:Cx} {o e value:Expr} {f:Str} {pos pos' tpos:Pos} {ta tv:TE}
theorem IP (he:PE X e ta) (hb:attributeBase e f X.env (eval e X.env)=eval e X.env):PE X (.Attribute e f pos) (P0 X.K ta f):=by
 intro pins s σ H Q I h
 refine GQ hb (thn (he pins s σ H _ I h) fun u s1 ⟨x,H1,I1,rx,a,C,dx,fs,v,ex,ea,c,n,l,q⟩ => ?_)
 subst ex
 obtain rfl:u=Value.ref a:=rx
 exact vL I1 ea c n l fun u' s2 I2 ru=>⟨v,H1,I2,ru,q⟩
theorem IH (ha:PE X o ta) (hv:PE X value tv) (hs:swapsWith value (some (.Attribute o f pos')) pos.line X.env=pure false):PS X (.Assign [.Attribute o f pos'] value pos) (P8 X.K ta tv f):=by
 intro pins s σ H D I h
 refine plainObj_wpAny_Assign_Attribute (thn (hv pins s σ H _ I h) fun u s1 ⟨y,H1,I1,ry,q⟩=>thn (ha pins s1 σ H1 _ I1 q) fun ov s2 ⟨x,H2,I2,rx,a,C,dx,fs,ex,ea,c,n,l,q2⟩ => ?_) hs
 subst ex
 obtain rfl:ov=Value.ref a:=rx
 exact vg I2 ea c n l ry fun s3 I3=>⟨σ,_,I3,q2⟩
end
section
variable {X:Cx} {pins:List ↥10} {σ:St} {H:Hp} {s:Shared} {A:Around} {E:Value->Shared->Prop} {Q:Value->Shared->Prop} {c:Value} {b:Bool}
inductive TyOf (K:PySem.W.Frag) (H:Hp):V->Value->Prop where
 | non:TyOf K H .non (.type "NoneType")
 | bl (x:Bool):TyOf K H (.bl x) (.type "bool")
 | int (i:Int):TyOf K H (.int i) (.type "int")
 | str (x:Str):TyOf K H (.str x) (.type "str")
 | flt (x:UInt64):TyOf K H (.flt x) (.type "float")
 | lst {a:Addr} {xs:List V} (e:H a=some (.lst xs)):TyOf K H (.ref a) (.type "list")
 | frz {a:Addr} {o:Obj} {xs:List V} (e:H a=some (.frz o (.lst xs))):TyOf K H (.ref a) (.type "list")
 | tup {a:Addr} {xs:List V} (e:H a=some (.tup xs)):TyOf K H (.ref a) ↥5
 | dK {a:Addr} {kvs:List (Key×V)} (e:H a=some (.dK kvs)):TyOf K H (.ref a) (.type "dict")
 | dT {a:Addr} {kvs:List (List Key×V)} (e:H a=some (.dT kvs)):TyOf K H (.ref a) (.type "dict")
 | ins {a C dx:Addr} {fs:List (Str×V)} (e:H a=some (.ins C dx fs)) (cl:Cls K C) (ha:PySem.W.findIn K (.ref C) "__class__"=some (some (.builtin "object.__class__")))
   (hn:PySem.W.specialIn K (.builtin "object.__class__") "__get__"=some (some (.builtin "getset_descriptor.__get__"))) (htk:PySem.W.takesIn K (.builtin "object.__class__")=some true)
   (hm:PySem.W.mroIn K C (.type "object")=some true):TyOf K H (.ref a) (.ref C)
end
end L2
namespace L2
open PySem PySem.Spec PyProof.Rows
structure Room (k:Nat) (A:Around):Prop where
 hd:A.handled=none
 dp:A.depth+3*k+5<recursionLimit
 un:A.units+16*k+200<cLine
theorem Room.mono {j k:Nat} {A:Around} (r:Room k A) (h:j<=k):Room j A:=⟨r.hd,by have:=r.dp;omega,by have:=r.un;omega⟩
theorem Room.deeper {k:Nat} {A:Around} (r:Room (k+1) A) (env:Env):Room k (A.deeper env) :=
 ⟨r.hd,by have:=r.dp;show A.depth+1+3*k+5<_;omega,by have:=r.un;show A.units+3+16*k+200<_;omega⟩
theorem vE {A:Around} {C:Addr} {us:List Value} {kw:List (Str×Value)}:(A.under (.builtin "type.__call__" ⟨.ref C::us,kw⟩)).depth=A.depth+1:=by
 first | rfl | simp [Around.under,Code.weight,Code.isCreation,Code.isGuard,Code.isCaller,Code.frames,Code.isFrame,guardIds]
theorem vD {A:Around} {C:Addr} {us:List Value} {kw:List (Str×Value)}:(A.under (.builtin "type.__call__" ⟨.ref C::us,kw⟩)).units=A.units+1:=by
 first | rfl | simp [Around.under,Code.cUnits,Code.frames,Code.isFrame]
theorem Room.make {k:Nat} {A:Around} (r:Room (k+1) A) (C:Addr) (us:List Value) (kw:List (Str×Value)):Room k (A.under (.builtin "type.__call__" ⟨.ref C::us,kw⟩)) :=
 ⟨r.hd,by have:=r.dp;rw [vE];omega,by have:=r.un;rw [vD];omega⟩
theorem Room.depth {k:Nat} {A:Around} (r:Room k A):A.depth<recursionLimit:=by have:=r.dp;omega
theorem Room.units {k:Nat} {A:Around} (r:Room k A):A.units+64<cLine:=by have:=r.un;omega
def PV:TA:=fun _ H Q=>Q [] H
def Ll (ta:TE) (tr:TA):TA:=fun σ H Q=>ta σ H fun x H1=>tr σ H1 fun xs H2=>Q (x::xs) H2
section
variable {X:Cx} {e:Expr} {es:List Expr} {te:TE} {t:TA} {pos:Pos}
theorem gE:PA X [] PV:=fun _ _ _ _ H Q I h=>Calls.spliced_nil ⟨[],H,I,.nil,h⟩
theorem dY (ha:PE X e te) (hr:PA X es t) (hs:starEach (e::es) X.env=↥25::starEach es X.env:=by rfl):PA X (e::es) (Ll te t):=by
 intro pos pins s σ H Q I h
 rw [hs]
 show wpAny _ _ (spliced (↥25::backTo pos (starEach es X.env))) _ _ s
 refine Calls.spliced_cons (thn (ha pins s σ H _ I h) fun u s1 ⟨x,H1,I1,r1,q1⟩ => ?_)
 exact thn (hr pos pins s1 σ H1 _ I1 q1) fun us s2 ⟨xs,H2,I2,r2,q2⟩=>⟨x::xs,H2,I2,.cons r1 r2,q2⟩
def PM (t:TA):TE:=fun σ H Q=>t σ H fun xs H1=>xs.length<=sizeLine/\∀ p,H1 p=none->Q (.ref p) (upd H1 p (.tup xs))
def PX (t:TA):TE:=fun σ H Q=>t σ H fun xs H1=>xs.length<=sizeLine/\∀ p,H1 p=none->Q (.ref p) (upd H1 p (.lst xs))
theorem CM {x1} (h:PA X es t):PE X (.Tuple es x1 pos) (PM t):=by
 intro pins s σ H Q I hq
 refine wpAny_Tuple_spliced (thn (h pos pins s σ H _ I hq) fun us s1 ⟨xs,H1,I1,r,z,q⟩=>⟨by rw [<- r.length];exact z,?_⟩)
 have hf:H1 s1.heap.objs.size=none:=I1.hok.fresh ↥23
 refine ⟨.ref s1.heap.objs.size,upd H1 s1.heap.objs.size (.tup xs),I1.laid (t':=s1.toks) (fun b u e=>Heap.get?_push_of_some _ e) ↥23 ?_,rfl,q _ hf⟩
 exact ⟨z,us,r,⟨_,Heap.get?_push_size _ rfl,rfl,_,rfl⟩⟩
theorem xu (h:PA X es t):PE X (.List es pos) (PX t):=by
 intro pins s σ H Q I hq
 refine wpAny_List_spliced (thn (h pos pins s σ H _ I hq) fun us s1 ⟨xs,H1,I1,r,z,q⟩=>⟨by rw [<- r.length];exact z,?_⟩)
 have hf:H1 s1.heap.objs.size=none:=I1.hok.fresh ↥23
 refine ⟨.ref s1.heap.objs.size,upd H1 s1.heap.objs.size (.lst xs),I1.laid (t':=s1.toks) (fun b u e=>Heap.get?_push_of_some _ e) ↥23 ?_,rfl,q _ hf⟩
 exact ⟨z,us,0,r,Heap.get?_push_size _ rfl⟩
end
abbrev Sp:=List V->Hp->VK->XK->Prop
abbrev CXT:=List Env->Hp->Shared->XK->Value->Shared->Prop
structure Env0 (P:Program) (w:World) (K:PySem.W.Frag) (mg:Str->Option Value) (base:Heap) (A:Around) (outer:List Env) (s:Shared) (H:Hp):Prop where
 frames:A.frames=some outer
 mod:Mod K mg base
 bs:∀ b o,base.get? b=some o->s.heap.get? b=some o/\H b=none
 bsz:base.objs.size<=s.heap.objs.size
 funs:s.heap.FunFrames base outer
 frf:∀ b∈frs outer,H b=none
 hok:HOk P w H s.heap
 bare:AllBare s.gens
def CE (outer:List Env) (P:Program) (w:World) (H:Hp) (s:Shared) (Q:VK) (u:Value) (s':Shared):Prop :=
 ∃ v H',s'.os=s.os/\AllBare s'.gens/\Un (frs outer) [] H H' s.heap s'.heap/\HOk P w H' s'.heap/\RelV v u/\Q v H'
def CR (CX:CXT) (outer:List Env) (P:Program) (w:World) (H:Hp) (s:Shared) (Q:VK) (E:XK) (r:Result) (s':Shared):Prop :=
 match r with
 | .ok (.ret u)=>CE outer P w H s Q u s'
 | .ok _=>False
 | .error e=>CX outer H s E e s'
structure FnOk (P:Program) (w:World) (K:PySem.W.Frag) (mg:Str->Option Value) (base:Heap) (CX:CXT) (k:Nat) (f:Addr) (fd:FuncData) (ps:List Str) (sp:Sp):Prop where
 len:∀ vs H Q E,sp vs H Q E->vs.length=ps.length
 run:∀ (A:Around) (outer:List Env) (s:Shared) (H:Hp) (args:Args) (us:List Value) (vs:List V) (Q:VK) (E:XK),Room k A->Env0 P w K mg base A outer s H->BindsTo s fd args (ps.zip us)->Vals vs us->sp vs H Q E ->
  codeAny (model P w) A (.call (.ref f) args) (CR CX outer P w H s Q E) s
theorem FnOk.imp {P:Program} {w:World} {K:PySem.W.Frag} {mg:Str->Option Value} {base:Heap} {CX:CXT} {k:Nat} {f:Addr} {fd:FuncData} {ps:List Str} {sp sp':Sp} (F:FnOk P w K mg base CX k f fd ps sp)
  (h:∀ vs H Q E,sp' vs H Q E->sp vs H Q E):FnOk P w K mg base CX k f fd ps sp' :=
 ⟨fun vs H Q E q=>F.len vs H Q E (h _ _ _ _ q),fun A outer s H args us vs Q E hr he hb hv hs=>F.run A outer s H args us vs Q E hr he hb hv (h _ _ _ _ hs)⟩
theorem Env0.make {P:Program} {w:World} {K:PySem.W.Frag} {mg:Str->Option Value} {base:Heap} {A:Around} {outer:List Env} {s:Shared} {H:Hp} (e:Env0 P w K mg base A outer s H) (C:Addr) (us:List Value) (kw:List (Str×Value)) :
  Env0 P w K mg base (A.under (.builtin "type.__call__" ⟨.ref C::us,kw⟩)) outer s H:=⟨by first | exact e.frames | (simpa [Around.under,Code.envs,Code.isFrame,pushEnvs] using e.frames),e.mod,e.bs,e.bsz,e.funs,e.frf,e.hok,e.bare⟩
section
variable {X:Cx} {pins:List ↥10} {σ:St} {H:Hp} {s s':Shared}
theorem Inv.env0 (I:Inv X pins σ H s):Env0 X.prog X.w X.K X.mg X.base X.A X.stack s H :=
 ⟨I.ok.frames,I.ok.mod,I.bs,Nat.le_trans I.ok.bsz I.sz,I.stack,I.stkFree,I.hok,I.bare⟩
theorem Inv.after {Q:VK} {u:Value} (I:Inv X pins σ H s) (h:CE X.stack X.prog X.w H s Q u s'):EP X pins σ Q u s':=by
 obtain ⟨v,H',os,bare,un,hok,r,q⟩:=h
 obtain ⟨hh,g,d,t,os'⟩:=s'
 obtain rfl:os'=s.os:=os
 exact ⟨v,H',I.call (h':=hh) (g':=g) (d':=d) (t':=t) (ch:=[]) un hok bare (fun b z=>absurd z (by simp)),r,q⟩
end
def Lj (C:Addr) (sp:Sp) (dvs:List V) (E:XK) (t:TA):TE:=fun σ H Q=>t σ H fun vs H1=>∀ x dx,H1 x=none->H1 dx=none->dx≠x ->
 sp (.ref x::(vs++dvs)) (upd (upd H1 dx (.own x)) x (.ins C dx [])) (fun v H2=>v=.non/\Q (.ref x) H2) E
def Binds (K:PySem.W.Frag) (fd:FuncData) (ps:List Str) (ds:List Value):Prop :=
 ∀ (s:Shared) (us:List Value),K.In s.heap->(us++ds).length=ps.length->BindsTo s fd ⟨us,[]⟩ (ps.zip (us++ds))
theorem Binds.all {K:PySem.W.Frag} {fd:FuncData} {ps:List Str} (h:∀ us:List Value,us.length=ps.length->bindArgs fd ⟨us,[]⟩=pure (ps.zip us)):Binds K fd ps []:=fun s us _ hl=>by
 rw [List.append_nil] at hl ⊢
 exact .of_eq (h us hl)
def Passes (CX:CXT) (X:Cx) (E:XK):Prop:=∀ (pins:List ↥10) (σ:St) (H:Hp) (s:Shared) (e:Value) (s':Shared),Inv X pins σ H s->CX X.stack H s E e s'->X.xe e s'
section
variable {X:Cx} {CX:CXT} {k:Nat} {f C:Addr} {fd:FuncData} {ps:List Str} {sp:Sp} {dvs:List V} {ds:List Value} {E:XK} {x m:Str} {p pos apos:Pos} {e o:Expr} {es:List Expr} {ta:TE} {t:TA}
structure Mk (K:PySem.W.Frag) (C f:Addr):Prop where
 makes:PySem.W.makesIn K C=true
 init:PySem.W.findIn K (.ref C) "__init__"=some (some (.ref f))
 fn:PySem.W.isFn K (.ref f)=true
 kp:PySem.W.keepIn K (.ref C)=true
theorem AU {pins:List ↥10} {σ:St} {H:Hp} {s:Shared} {Q:VK} {us:List Value} {vs:List V} (M:Mk X.K C f) (F:FnOk X.prog X.w X.K X.mg X.base CX k f fd ps sp) (hr:Room (k+1) X.A) (hb:Binds X.K fd ps ds) (hd:Vals dvs ds)
  (hx:Passes CX X E) (I:Inv X pins σ H s) (r:Vals vs us)
  (h:∀ x dx,H x=none->H dx=none->dx≠x->sp (.ref x::(vs++dvs)) (upd (upd H dx (.own x)) x (.ins C dx [])) (fun v H2=>v=.non/\Q (.ref x) H2) E) :
  wpAny ↥4 X.A (call (.ref C) us) (EP X pins σ Q) X.xe s:=by
 have hq:=h ↥29 s.heap.objs.size (I.hok.fresh (Nat.le_succ _)) (I.hok.fresh ↥23) (Nat.ne_of_lt (Nat.lt_succ_self _))
 have I2:=Inv.made (C:=C) I
 have r2:Vals (V.ref ↥29::(vs++dvs)) (Value.ref ↥29::(us++ds)):=.cons rfl (r.append hd)
 have hl:(Value.ref ↥29::us++ds).length=ps.length:=by
  have e:=r2.length
  rw [F.len _ _ _ _ hq] at e
  exact e.symm
 refine wpAny_call (BD (f:=f) I.kIn M.makes M.init (beq_iff_eq.mp M.fn) (codeAny_mono (F.run _ X.stack _ _ ⟨Value.ref ↥29::us,[]⟩ (Value.ref ↥29::(us++ds)) _ _ E (hr.make C us [])
  (I2.env0.make C us []) (hb _ (Value.ref ↥29::us) I2.kIn hl) r2 hq) fun r s' hq' => ?_))
 cases r with
 | error e=>exact hx pins σ _ _ e s' I2 hq'
 | ok fl =>
  cases fl with
  | ret u =>
   obtain ⟨v,H',I3,rv,ev,q3⟩:=I2.after hq'
   subst ev
   exact ⟨rv,⟨V.ref ↥29,H',I3,rfl,q3⟩⟩
  | next=>exact False.elim hq'
  | brk=>exact False.elim hq'
  | cont=>exact False.elim hq'
theorem ET (M:Mk X.K C f) (F:FnOk X.prog X.w X.K X.mg X.base CX k f fd ps sp) (hr:Room (k+1) X.A) (hg:Gl X x) (hm:X.mg x=some (.ref C)) (hb:Binds X.K fd ps ds) (hd:Vals dvs ds) (hx:Passes CX X E)
  (ha:PA X (e::es) t) (hdb:↥35=false:=by decide) (he:starEach (e::es) X.env=↥25::starEach es X.env:=by rfl) (hpl:(backTo pos (starEach es X.env)).any (·.1)=false:=by rfl) :
  PE X (.Call (.Name x p) (e::es) [] pos) (Lj C sp dvs E t):=by
 intro pins s σ H Q I h
 refine wpAny_Call_Name_kw (je I hg hm ?_ hdb)
 refine PySem.W.callWith_K (h₀:=X.base) I.ok.mod.kin M.kp (thn (ha pos pins s σ H _ I h) fun us s1 ⟨vs,H1,I1,r,q⟩=>⟨I1.kIn,?_⟩) he hpl
 exact AU M F hr hb hd hx I1 r q
end
section
variable {X:Cx} {CX:CXT} {k:Nat} {f C:Addr} {fd:FuncData} {ps ks:List Str} {sp:Sp} {E:XK} {x m:Str} {p pos apos kpos:Pos} {e o:Expr} {es:List Expr} {kws:List Keyword} {te ta:TE} {t tk:TA} {nm:Option Str}
structure KBinds (K:PySem.W.Frag) (fd:FuncData) (ps ks:List Str) (g:List Value->List Value->List Value) (gV:List V->List V->List V):Prop where
 to:∀ (s:Shared) (us ws:List Value),K.In s.heap->(g us ws).length=ps.length->BindsTo s fd ⟨us,ks.zip ws⟩ (ps.zip (g us ws))
 rel:∀ {vs:List V} {us:List Value} {zs:List V} {ws:List Value},Vals vs us->Vals zs ws->Vals (gV vs zs) (g us ws)
variable {g:List Value->List Value->List Value} {gV:List V->List V->List V}
end
structure FnScope (N P:List Str) (sc:Scope):Prop where
 kind:sc.kind=.function
 co:sc.isCoroutine=false
 gen:sc.isGenerator=false
 nd:N.Nodup
 pre:N.take P.length=P
 par:∀ x∈P,sc.names.lookup x=some .local\/sc.names.lookup x=some .cell
 nofree:∀ y∈sc.names,y.2 ≠ .free
theorem qy {kindOf:Str->Option NameKind} {x:Str}:∀ {binds:List (Str×Value)} {m:Str->Option Value},(∀ v,(x,v)∉binds)->bindL kindOf binds m x=m x
 | [],_,_=>rfl
 | (n,v)::r,m,h=>by
  unfold bindL
  rw [qy fun w hw=>h w (List.mem_cons_of_mem _ hw)]
  split
  ·have:x≠n:=by rintro rfl;exact h v List.mem_cons_self
   simp [this]
  ·rfl
theorem qA {kindOf:Str->Option NameKind} {x:Str}:∀ {binds:List (Str×Value)} {m:Str->Option Value},(∀ v,(x,v)∉binds)->bindC kindOf binds m x=m x
 | [],_,_=>rfl
 | (n,v)::r,m,h=>by
  unfold bindC
  rw [qA fun w hw=>h w (List.mem_cons_of_mem _ hw)]
  split
  ·rfl
  ·have:x≠n:=by rintro rfl;exact h v List.mem_cons_self
   simp [this]
theorem qz {kindOf:Str->Option NameKind} {x:Str} {v:Value}:∀ {P:List Str} {vs:List Value} {i:Nat} {m:Str->Option Value},P.Nodup->P[i]? = some x->vs[i]? = some v->kindOf x=some .local ->
  bindL kindOf (P.zip vs) m x=some v
 | [],_,_,_,_,h,_,_=>by simp at h
 | _::_,[],_,_,_,_,h,_=>by simp at h
 | p::P,w::vs,0,m,nd,h1,h2,hk=>by
  simp at h1 h2;subst h1;subst h2
  show bindL kindOf ((p,w)::P.zip vs) m p=_
  unfold bindL
  rw [qy fun v hv=>(List.nodup_cons.mp nd).1 (List.of_mem_zip hv).1,if_pos hk]
  simp
 | p::P,w::vs,i+1,m,nd,h1,h2,hk=>by
  show bindL kindOf ((p,w)::P.zip vs) m x=_
  unfold bindL
  exact qz (i:=i) (List.nodup_cons.mp nd).2 (by simpa using h1) (by simpa using h2) hk
theorem qB {kindOf:Str->Option NameKind} {x:Str} {v:Value}:∀ {P:List Str} {vs:List Value} {i:Nat} {m:Str->Option Value},P.Nodup->P[i]? = some x->vs[i]? = some v->kindOf x≠some .local ->
  bindC kindOf (P.zip vs) m x=some v
 | [],_,_,_,_,h,_,_=>by simp at h
 | _::_,[],_,_,_,_,h,_=>by simp at h
 | p::P,w::vs,0,m,nd,h1,h2,hk=>by
  simp at h1 h2;subst h1;subst h2
  show bindC kindOf ((p,w)::P.zip vs) m p=_
  unfold bindC
  rw [qA fun v hv=>(List.nodup_cons.mp nd).1 (List.of_mem_zip hv).1,if_neg hk]
  simp
 | p::P,w::vs,i+1,m,nd,h1,h2,hk=>by
  show bindC kindOf ((p,w)::P.zip vs) m x=_
  unfold bindC
  exact qB (i:=i) (List.nodup_cons.mp nd).2 (by simpa using h1) (by simpa using h2) hk
def start (N:List Str) (vs:List V):St:=vs.map some++List.replicate (N.length - vs.length) none
def v9 (CX:CXT) (P:Program) (w:World) (K:PySem.W.Frag) (mg:Str->Option Value) (base:Heap) (N:List Str) (qual:Str) (scope:Scope) (f:Addr) (cd:Value) (A:Around) (outer:List Env) (s:Shared) (H:Hp) (E:XK):Cx where
 prog:=P
 w:=w
 K:=K
 mg:=mg
 base:=base
 A:=A.deeper (envOfC qual scope s.heap.objs.size f cd)
 N:=N
 s₀:=s
 H₀:=H
 env:=envOfC qual scope s.heap.objs.size f cd
 outer:=outer
 stack:=envOfC qual scope s.heap.objs.size f cd::outer
 ex:=[]
 calm:=true
 fn:=fun _=>true
 pn:=[]
 xe:=fun e s'=>wpAny (model P w) (A.deeper (envOfC qual scope s.heap.objs.size f cd)) (leaving (envOfC qual scope s.heap.objs.size f cd) e) (fun _ s''=>CX outer H s E e s'') (fun e' s''=>CX outer H s E e' s'') s'
theorem uD {sc:Scope} {n:Nat} {x:Str} (h:sc.names.lookup x=some .cell):∃ c,(cellsFrom n sc.names []).lookup x=some c:=by
 have q:=PySem.W.cellsFrom_some sc.names n [] (.inl h)
 exact Option.isSome_iff_exists.mp q
theorem yw {CX:CXT} {P:Program} {w:World} {K:PySem.W.Frag} {mg:Str->Option Value} {base:Heap} {N ps:List Str} {qual:Str} {scope:Scope} {f:Addr} {cd:Value} {A:Around} {outer:List Env} {s s1:Shared} {H:Hp} {E:XK} {us:List Value} {vs:List V}
  (S:FnScope N ps scope) (hd:A.handled=none) (e0:Env0 P w K mg base A outer s H) (hl:vs.length=ps.length) (r:Vals vs us)
  (x:InCallC s s.heap.objs.size (bindL (envOfC qual scope s.heap.objs.size f cd).kindOf (ps.zip us) fun _=>none) (cellsFrom ↥29 scope.names []) (bindC (envOfC qual scope s.heap.objs.size f cd).kindOf (ps.zip us) fun _=>none) s1) :
  Inv (v9 CX P w K mg base N qual scope f cd A outer s H E) [] (start N vs) H s1:=by
 have hpl:ps.length<=N.length:=by have:=congrArg List.length S.pre;rw [List.length_take] at this;omega
 obtain ⟨h1,tk,rfl,hk⟩:=x.done
 have noA:∀ b:Addr,b∉(v9 CX P w K mg base N qual scope f cd A outer s H E).ex:=fun b z=>absurd (show b∈([]:List Addr) from z) (by simp)
 refine ⟨⟨e0.mod,S.kind,rfl,rfl,Nat.le_refl _,fun y z c h1 h2 => ?_,fun y hy => ?_,fun y c _ h => ?_,fun _=>hd,Around.frames_deeper e0.frames,.inr ⟨rfl,rfl⟩,fun b z=>absurd z (noA b),e0.bs,e0.bsz,fun b _ _=>noA b,fun b z=>absurd z (noA b),e0.funs,e0.frf⟩,
  rfl,e0.bare,Un.kept hk,⟨_,x.toInCall.ns,fun i y v h1 h2 h3 => ?_⟩,fun y c h=>⟨_,x.cell y c h⟩,e0.hok.fresh ↥23,fun y c h => ?_,fun p hp=>absurd (show p∈([]:List ↥10) from hp) (by simp),e0.hok.kept hk,?_⟩
 ·exact name_of_addr x.apart (PySem.mem_of_lookup h1) (PySem.mem_of_lookup h2)
 ·have hy:scope.names.lookup y=some .cell\/scope.names.lookup y=some .free:=hy
  rcases hy with hy | hy
  ·exact uD hy
  ·exact absurd rfl (S.nofree _ (PySem.mem_of_lookup hy))
 ·exact Nat.le_of_lt (x.above y c (PySem.mem_of_lookup h))
 ·have hi:i<vs.length:=by
   unfold start at h2
   by_cases hi:i<vs.length
   ·exact hi
   ·rw [List.getElem?_append_right (by simpa using hi)] at h2
    rw [List.getElem?_replicate] at h2
    split at h2<;>cases h2
  have ha:vs[i]? = some v:=by
   unfold start at h2
   rw [List.getElem?_append_left (by simpa using hi),List.getElem?_map] at h2
   cases e:vs[i]? with
   | none=>rw [e] at h2;cases h2
   | some a=>rw [e] at h2;cases h2;rfl
  obtain ⟨u,hu,rv⟩:=r.get ha
  have hp:ps[i]? = some y:=by
   rw [<- S.pre,List.getElem?_take_of_lt ⋯];exact h1
  have ndP:ps.Nodup:=by rw [<- S.pre];exact S.nd.sublist (List.take_sublist _ _)
  refine ⟨u,rv,?_⟩
  rcases S.par y (List.mem_of_getElem? hp) with k | k
  ·exact .inl ⟨k,qz ndP hp hu k⟩
  ·obtain ⟨c,e⟩:=uD (n:=s.heap.objs.size+1) k
   refine .inr ⟨.inl k,c,e,?_⟩
   have q:=x.cell y c e
   rw [qB ndP hp hu (by show scope.names.lookup y≠_;rw [k];decide)] at q
   exact q
 ·exact e0.hok.fresh (Nat.le_of_lt (x.above y c (PySem.mem_of_lookup h)))
 ·unfold start
  show _=N.length
  rw [List.length_append,List.length_map,List.length_replicate]
  omega
theorem Gi {CX:CXT} {P:Program} {w:World} {K:PySem.W.Frag} {mg:Str->Option Value} {base:Heap} {k:Nat} {f:Addr} {name qual:Str} {params:Arguments} {body:List Stmt} {scope:Scope} {dV kV doc pm cdv ct oc:Value} {an od:Option Addr}
  {osl:Array (Option Value)} {N ps:List Str} {sp:Sp} (lk:K.lookup f=some ⟨oc,od,.func (PySem.W.fnOf name qual params body scope dV kV doc pm an cdv ct),osl⟩) (hcd:PySem.W.codeIn K cdv qual=true) (S:FnScope N ps scope)
  (len:∀ vs H Q E,sp vs H Q E->vs.length=ps.length)
  (hbody:∀ (A:Around) (outer:List Env) (s:Shared) (H:Hp) (vs:List V) (Q:VK) (E:XK),Room k (A.deeper (envOfC qual scope s.heap.objs.size f cdv))->sp vs H Q E ->
   ∃ t,PSs (v9 CX P w K mg base N qual scope f cdv A outer s H E) body t/\t { nx:=fun _ H'=>Q .non H',rt:=Q } (start N vs) H) :
  FnOk P w K mg base CX (k+1) f (PySem.W.fnOf name qual params body scope dV kV doc pm an cdv ct) ps sp:=by
 refine ⟨len,fun A outer s H args us vs Q E hr e0 hb r hsp => ?_⟩
 have hl:=len _ _ _ _ hsp
 have KX:K.In s.heap:=e0.mod.kin.keeps fun b o e=>(e0.bs b o e).1
 have lim:s.heap.NoLimit:=e0.mod.nolimit.keeps fun b o e=>(e0.bs b o e).1
 have hkind:∀ y∈ps.zip us,scope.names.lookup y.1=some .local\/(scope.names.lookup y.1=some .cell/\((cellsFrom ↥29 scope.names []).lookup y.1).isSome=true):=fun ⟨n,v⟩ hy=>by
  rcases S.par n (List.of_mem_zip hy).1 with q | q
  ·exact .inl q
  ·exact .inr ⟨q,PySem.W.cellsFrom_some _ _ _ (.inl q)⟩
 refine codeAny_call_function hr.depth (KX _ _ lk) rfl S.co S.gen rfl (PySem.W.codeRec_of KX hcd) (hb _ _ _ _ ?_)
 refine wpAny_newFunctionEnv_cells S.kind hkind fun env he s1 x => ?_
 subst he
 refine ⟨lim.keeps x.toInCall.keep,codeAny_func ?_⟩
 obtain ⟨t,ht,hq⟩:=hbody A outer s H vs Q E (hr.deeper _) hsp
 have I:Inv (v9 CX P w K mg base N qual scope f cdv A outer s H E) [] (start N vs) H s1:=yw S hr.hd e0 hl r x
 refine wpAny_mono (ht [] s1 (start N vs) H _ I hq) (fun fl s' hs => ?_) fun e s' hs=>hs
 have fin:∀ {σ':St} {H':Hp} {v:V} {u:Value},Inv (v9 CX P w K mg base N qual scope f cdv A outer s H E) [] σ' H' s'->RelV v u->Q v H'->CE outer P w H s Q u s' :=
  fun {σ' H' v u} J rv q=>⟨v,H',J.os,J.bare,J.base,J.hok,rv,q⟩
 cases fl with
 | ret u =>
  obtain ⟨v,σ',H',J,rv,q⟩:=hs
  exact fin J rv q
 | next =>
  obtain ⟨σ',H',J,q⟩:=hs
  exact fin (v:=V.non) (u:=Value.none) J rfl q
 | brk =>
  obtain ⟨_,_,_,q⟩:=hs
  exact False.elim q
 | cont =>
  obtain ⟨_,_,_,q⟩:=hs
  exact False.elim q
end L2
namespace L2
open PySem PySem.Spec PyProof.Rows
section
variable {X:Cx} {x:Str} {p pos:Pos} {e:Expr} {es:List Expr} {t:TA} {id T:String} {r:List V->Hp->VK->Prop}
def tCB (r:List V->Hp->VK->Prop) (t:TA):TE:=fun σ H Q=>t σ H fun vs H1=>r vs H1 Q
theorem tU (hc:fk X (.builtin id) r) (hg:Gl X x) (hm:X.mg x=none) (hv:bootBuiltins x=some (.builtin id)) (ha:PA X (e::es) t) (hn:x≠"__name__":=by decide) (hdb:↥35=false:=by decide)
  (he:starEach (e::es) X.env=↥25::starEach es X.env:=by rfl) (hpl:(backTo pos (starEach es X.env)).any (·.1)=false:=by rfl):PE X (.Call (.Name x p) (e::es) [] pos) (tCB r t):=by
 intro pins s σ H Q I h
 refine wpAny_Call_Name_kw (ql I hg hm hv ?_ hn hdb)
 exact PyProof.Rows.callWith_builtin1 (thn (ha pos pins s σ H _ I h) fun us s1 ⟨vs,H1,I1,r1,q1⟩=>hc pins s1 σ H1 vs us Q I1 r1 q1) he hpl
theorem p8 (hc:fk X (.type T) r) (hg:Gl X x) (hm:X.mg x=none) (hv:bootBuiltins x=some (.type T)) (ha:PA X (e::es) t) (hn:x≠"__name__":=by decide) (hdb:↥35=false:=by decide)
  (he:starEach (e::es) X.env=↥25::starEach es X.env:=by rfl) (hpl:(backTo pos (starEach es X.env)).any (·.1)=false:=by rfl):PE X (.Call (.Name x p) (e::es) [] pos) (tCB r t):=by
 intro pins s σ H Q I h
 refine wpAny_Call_Name_kw (ql I hg hm hv ?_ hn hdb)
 exact PyProof.Rows.callWith_type1 (thn (ha pos pins s σ H _ I h) fun us s1 ⟨vs,H1,I1,r1,q1⟩=>hc pins s1 σ H1 vs us Q I1 r1 q1) he hpl
end
end L2
namespace HT
open PySem PyProof.Rows
section
open PySem.SeqAt
open PySem.AutoSeq1 (wpAny_loadPart')
open PySem.MeetsSeq PySem.MeetsSeq2 PySem.MeetsSeq3
end
section
variable {prog:Program} {w:World} {A:Around} {E:Value->Shared->Prop} {s:Shared}
theorem Gx {t b:Addr} {vs ws:List Value} {Q:Value->Shared->Prop} (ht:IsTup s.heap t vs.toArray) (hb:IsTup s.heap b ws.toArray) (hv:vs≠[])
  (h1:ws=[]->Q (.ref t) s) (h2:ws≠[]->Q (.ref s.heap.objs.size) { s with heap:=s.heap.push { cls:=.type "tuple",data:=.seq (vs++ws).toArray } })
  (hsz:vs.length+ws.length<=sizeLine):wpAny ↥17 A (binaryOp .Add (.ref t) (.ref b)) Q E s:=by
 obtain ⟨⟨cls,dd,data,sl⟩,ho,hc,n,hd⟩:=id ht
 obtain ⟨⟨cls2,dd2,data2,sl2⟩,ho2,hc2,n2,hd2⟩:=id hb
 simp only at hc hd hc2 hd2
 subst hc hd hc2 hd2
 have e:vs.toArray++ws.toArray=(vs++ws).toArray:=by simp
 by_cases hw:ws=[]
 ·exact concat_meets ⟨_,ho,rfl⟩ ⟨_,ho2,rfl⟩ noFill_tuple_add seq_tuple_add PySem.F.slot_tuple_add PySem.F.entry_tuple_add (PySem.F.args_tuple_add_2 _ _)
   (tuple_addW1 t b vs.toArray ws.toArray n n2 dd dd2 sl sl2 (by simpa using hv) (by simp [hw])) ⟨ho,ho2,h1 hw⟩
 ·refine concat_meets ⟨_,ho,rfl⟩ ⟨_,ho2,rfl⟩ noFill_tuple_add seq_tuple_add PySem.F.slot_tuple_add PySem.F.entry_tuple_add (PySem.F.args_tuple_add_2 _ _)
   (tuple_addW2 t b vs.toArray ws.toArray n n2 dd dd2 sl sl2 (by simpa using hv) (by simpa using hw) (by rw [List.size_toArray,List.size_toArray];exact hsz)) ⟨ho,ho2,?_⟩
  rw [e]
  exact h2 hw
def sIx (n d:Nat):Option Int->Nat
 | none=>d
 | some v=>if v<0 then (v+(n:Int)).toNat else min v.toNat n
theorem Im (n d:Nat) (hd:d<=n) (o:Option Int):sIx n d o<=n:=by
 cases o with
 | none=>exact hd
 | some v =>
  show (if v<0 then (v+(n:Int)).toNat else min v.toNat n)<=n
  by_cases hv:v<0
  ·rw [if_pos hv];omega
  ·rw [if_neg hv];exact Nat.min_le_right _ _
theorem yY (v:Int) (n d:Nat):(if v<0 then max (v+(n:Int)) 0 else min v (n:Int))=((sIx n d (some v):Nat):Int):=by
 show (if v<0 then max (v+(n:Int)) 0 else min v (n:Int))=(((if v<0 then (v+(n:Int)).toNat else min v.toNat n):Nat):Int)
 by_cases hv:v<0
 ·simp only [if_pos hv];omega
 ·simp only [if_neg hv];omega
theorem vZ (lo hi:Option Int) (n:Nat):Builtin.Slice.sliceAdjust lo hi 1 (n:Int)=(((sIx n 0 lo:Nat):Int),((sIx n n hi:Nat):Int)):=by
 have h1:¬ ((1:Int)<0):=⋯
 unfold Builtin.Slice.sliceAdjust
 simp only [h1,if_false]
 refine Prod.ext ?_ ?_
 ·cases lo with
  | none=>rfl
  | some v=>exact yY v n 0
 ·cases hi with
  | none=>rfl
  | some v=>exact yY v n n
theorem vr (i j:Nat):Builtin.Slice.slicePlaces (i:Int) (j:Int) 1=j - i:=by
 unfold Builtin.Slice.slicePlaces
 have h1:(1:Int)>0:=⋯
 simp only [h1,if_true,Int.ediv_one]
 split<;>omega
theorem mR {v:Value} {o:Option Int} {Q:Option Int->Shared->Prop} (p:IsPart v o) (h:Q o s):wpAny ↥17 A (Builtin.Slice.slicePartIndex v) Q E s:=by
 cases p with
 | none=>exact slicePart_none h
 | int i t=>exact slicePart_int h
theorem jM {sl:Addr} {vl vu:Value} {lo hi:Option Int} {n:Nat} {Q:Int×Int×Nat->Shared->Prop} (hs:s.heap.IsSliceOf sl vl vu .none) (pl:IsPart vl lo) (pu:IsPart vu hi)
  (h:Q (((sIx n 0 lo:Nat):Int),1,sIx n n hi - sIx n 0 lo) s):wpAny ↥17 A (Builtin.Slice.sliceApplied (.ref sl) (pure (n:Int))) Q E s:=by
 obtain ⟨os,hos,hcs,hds⟩:=id hs
 unfold Builtin.Slice.sliceApplied Builtin.Slice.sliceFields
 refine wpAny_bind (wpAny_bind (wpAny_field hos hds (x:=vl) rfl (wpAny_bind (wpAny_field hos hds (x:=vu) rfl (wpAny_bind (wpAny_field hos hds (x:=.none) rfl (wpAny_pure ?_)))))))
 refine wpAny_bind (slicePart_none ?_)
 show wpAny _ _ (if ((1:Int) == 0)=true then _ else _) _ _ s
 rw [if_neg ↥2]
 refine wpAny_bind (mR pl (wpAny_bind (mR pu (wpAny_bind (wpAny_pure ?_)))))
 show wpAny _ _ (match Builtin.Slice.sliceAdjust lo hi 1 (n:Int) with | (lo,hi)=>pure (lo,(1:Int),Builtin.Slice.slicePlaces lo hi 1)) _ _ s
 rw [vZ lo hi n]
 show wpAny _ _ (pure (((sIx n 0 lo:Nat):Int),(1:Int),Builtin.Slice.slicePlaces ((sIx n 0 lo:Nat):Int) ((sIx n n hi:Nat):Int) 1)) _ _ s
 rw [vr]
 exact wpAny_pure h
theorem A1 (xs:Array Value) (i k:Nat):((List.range k).filterMap fun (m:Nat)=>xs[((i:Int)+(m:Int)*1).toNat]?).toArray=((xs.toList.drop i).take k).toArray:=by
 have e:(fun (m:Nat)=>xs[((i:Int)+(m:Int)*1).toNat]?)=fun m=>xs[i+m]? := by
  funext m
  have:((i:Int)+(m:Int)*1).toNat=i+m:=⋯
  rw [this]
 rw [e]
 have:=pick_run xs i k
 rw [List.filterMap_map] at this
 have e2:((fun x=>xs[x]?) ∘ fun x=>i+x)=fun m=>xs[i+m]? := rfl
 rw [e2] at this
 rw [this]
theorem jg {t sl:Addr} {items:Array Value} {vl vu:Value} {lo hi:Option Int} {Q:Value->Shared->Prop} (ht:IsTup s.heap t items) (hs:s.heap.IsSliceOf sl vl vu .none) (pl:IsPart vl lo) (pu:IsPart vu hi)
  (hw:¬ (sIx items.size 0 lo=0/\sIx items.size items.size hi=items.size))
  (h:Q (.ref s.heap.objs.size) { s with heap:=s.heap.push { cls:=.type "tuple",data:=.seq ((items.toList.drop (sIx items.size 0 lo)).take (sIx items.size items.size hi - sIx items.size 0 lo)).toArray } })
  (hsz:items.size<=sizeLine):wpAny ↥17 A (getItem (.ref t) (.ref sl)) Q E s:=by
 have htake:sizeOk (.seq ((items.toList.drop (sIx items.size 0 lo)).take (sIx items.size items.size hi - sIx items.size 0 lo)).toArray):=by
  show ((items.toList.drop (sIx items.size 0 lo)).take (sIx items.size items.size hi - sIx items.size 0 lo)).toArray.size<=sizeLine
  rw [List.size_toArray,List.length_take,List.length_drop,Array.length_toList]
  omega
 have hj:sIx items.size items.size hi<=items.size:=Im _ _ ↥23 hi
 obtain ⟨os,hos,hcs,hds⟩:=id hs
 have hTs:s.TypeIs (.ref sl) "slice":=⟨os,hos,hcs⟩
 unfold getItem
 try with_reducible refine wpAny_holding ?_
 first | refine wpAny_bind (wpAny_pure ?_) | skip
 refine wpAny_bind (wpAny_sequenceKey ht.typeIs ↥2 ?_)
 refine wpAny_bind (wpAny_callSpecial?_slot (name:=Str.ofString "__getitem__") ht.typeIs PyProof.Rows.slot_tuple_getitem
  (wpAny_call_entry PyProof.Rows.slot_tuple_getitem ht.typeIs entry_tuple_getitem ?_ (args_tuple_getitem _ _)))
 show wpAny _ _ (Builtin.Tuple.tupleItemsOf (.ref t) >>= _) _ _ s
 refine wpAny_bind (tupleItemsOf_ ht ?_)
 refine wpAny_bind (wpAny_typeOf hTs ?_)
 rw [if_pos ↥2]
 refine wpAny_bind (jM hs pl pu ?_)
 have hno:¬ ((((sIx items.size 0 lo:Nat):Int) == 0&&(1:Int) == 1&&(sIx items.size items.size hi - sIx items.size 0 lo) == items.size)=true):=by
  intro q
  rw [Bool.and_eq_true,Bool.and_eq_true] at q
  have q1:((sIx items.size 0 lo:Nat):Int)=0:=eq_of_beq q.1.1
  have q2:sIx items.size items.size hi - sIx items.size 0 lo=items.size:=eq_of_beq q.2
  exact hw ⟨⋯,⋯⟩
 show wpAny _ _ (if (((sIx items.size 0 lo:Nat):Int) == 0&&(1:Int) == 1&&(sIx items.size items.size hi - sIx items.size 0 lo) == items.size)=true then _ else _) _ _ s
 rw [if_neg hno,A1]
 first
  | exact wpAny_bind (m:=Builtin.Tuple.tupleExact _) (wpAny_newObj_type (wpAny_pure ⟨_,rfl,wpAny_pure h⟩) htake)
  | exact wpAny_bind (m:=Builtin.Tuple.tupleExact _) (wpAny_newObj_type (wpAny_bind (wpAny_pure (wpAny_pure ⟨_,rfl,wpAny_pure h⟩))) htake)
  | exact wpAny_bind (wpAny_bind (m:=Builtin.Tuple.tupleExact _) (wpAny_newObj_type (wpAny_pure (wpAny_pure ⟨_,rfl,wpAny_pure h⟩)) htake))
  | exact wpAny_bind (wpAny_bind (m:=Builtin.Tuple.tupleExact _) (wpAny_newObj_type (wpAny_pure ⟨_,rfl,wpAny_pure h⟩) htake))
end
end HT
namespace L2
open PySem PySem.Spec PyProof.Rows
abbrev TO:=St->Hp->(Option Int->Hp->Prop)->Prop
def PO (X:Cx) (e:Option Expr) (t:TO):Prop :=
 ∀ (pins:List ↥10) (s:Shared) (σ:St) (H:Hp) (Q:Option Int->Hp->Prop),Inv X pins σ H s->t σ H Q ->
  wpAny ↥4 X.A (evalPart e X.env) (fun u s'=>∃ o H',Inv X pins σ H' s'/\IsPart u o/\Q o H') X.xe s
def En:TO:=fun _ H Q=>Q none H
def Lg (t:TE):TO:=fun σ H Q=>t σ H fun x H1=>∃ i,x=.int i/\Q (some i) H1
section
variable {X:Cx} {e:Expr} {te:TE} {lo hi:Option Expr} {tl th:TO} {pos p2:Pos}
theorem EO:PO X none En:=by
 intro pins s σ H Q I h
 rw [evalPart_none]
 exact wpAny_pure ⟨none,H,I,.none,h⟩
theorem EN (h:PE X e te):PO X (some e) (Lg te):=by
 intro pins s σ H Q I hw
 rw [evalPart_some]
 refine thn (h pins s σ H _ I hw) fun u s1 ⟨x,H1,I1,r1,q1⟩ => ?_
 obtain ⟨i,rfl,q⟩:=q1
 obtain ⟨t,rfl⟩:=r1
 exact ⟨some i,H1,I1,.int i t,q⟩
def SlR (X:Cx) (r:V->Option Int->Option Int->Hp->VK->Prop):Prop :=
 ∀ (pins:List ↥10) (s:Shared) (σ:St) (H:Hp) (x:V) (v vl vu:Value) (lo hi:Option Int) (sl:Addr) (Q:VK),Inv X pins σ H s->RelV x v->s.heap.IsSliceOf sl vl vu .none->IsPart vl lo->IsPart vu hi->r x lo hi H Q ->
  ∃ T id,typeLookup (.type T) "__getitem__"=pure (some (.builtin id))/\s.TypeIs v T/\wpAny ↥4 X.A (getItem v (.ref sl)) (EP X pins σ Q) X.xe s
def tSl (r:V->Option Int->Option Int->Hp->VK->Prop) (te:TE) (tl th:TO):TE:=fun σ H Q=>te σ H fun x H1=>tl σ H1 fun l H2=>th σ H2 fun u H3=>r x l u H3 Q
theorem A3 {r:V->Option Int->Option Int->Hp->VK->Prop} (hr:SlR X r) (he:PE X e te) (hl:PO X lo tl) (hu:PO X hi th):PE X (.Subscript e (.Slice lo hi none p2) pos) (tSl r te tl th):=by
 intro pins s σ H Q I h
 refine Subscript_ (thn (he pins s σ H _ I h) fun v s1 ⟨x,H1,I1,r1,q1⟩ => ?_)
 refine wpAny_Slice (thn (hl pins s1 σ H1 _ I1 q1) fun vl s2 ⟨l,H2,I2,pl,q2⟩=>thn (hu pins s2 σ H2 _ I2 q2) fun vu s3 ⟨u,H3,I3,pu,q3⟩ => ?_)
 rw [evalPart_none]
 refine wpAny_pure ?_
 have I4:Inv X pins σ H3 { s3 with heap:=s3.heap.push { cls:=.type "slice",data:=.fields #[vl,vu,.none] } }:=I3.kept (t':=s3.toks) fun b ob q=>Heap.get?_push_of_some _ q
 obtain ⟨T,id,hT,ht,hg⟩:=hr pins { s3 with heap:=s3.heap.push { cls:=.type "slice",data:=.fields #[vl,vu,.none] } } σ H3 x v vl vu l u s3.heap.objs.size Q I4 r1 (Heap.IsSliceOf.new ..) pl pu q3
 show wpAny ↥4 X.A (subscriptTail e (.Slice lo hi none p2) v (.ref s3.heap.objs.size)) (EP X pins σ Q) X.xe { s3 with heap:=s3.heap.push { cls:=.type "slice",data:=.fields #[vl,vu,.none] } }
 exact tail_any (ops:=[.ref s3.heap.objs.size,v]) ht hT hg (by with_unfolding_all rfl)
def C9 (xs:List V) (lo hi:Option Int):List V:=(xs.drop (HT.sIx xs.length 0 lo)).take (HT.sIx xs.length xs.length hi - HT.sIx xs.length 0 lo)
theorem lM (xs:List V) (lo hi:Option Int):(C9 xs lo hi).length<=xs.length:=by
 unfold C9
 rw [List.length_take,List.length_drop]
 omega
def Qb (K:PySem.W.Frag):V->Option Int->Option Int->Hp->VK->Prop:=fun x lo hi H Q=>∃ a xs,x=.ref a/\SqT K H a xs /\
 ¬ (HT.sIx xs.length 0 lo=0/\HT.sIx xs.length xs.length hi=xs.length)/\∀ p,H p=none->Q (.ref p) (upd H p (.tup (C9 xs lo hi)))
theorem Ie:SlR X (Qb X.K):=by
 intro pins s σ H x v vl vu lo hi sl Q I rx hs pl pu h
 obtain ⟨a,xs,rfl,hx,hw,q⟩:=h
 cases rx
 obtain ⟨its,r,ht,hz⟩:=I.tuple hx
 have hlen:its.toArray.size=xs.length:=by rw [List.size_toArray];exact r.length.symm
 refine ⟨"tuple",_,PyProof.Rows.slot_tuple_getitem.lookup,ht.typeIs,?_⟩
 refine HT.jg ht hs pl pu (by rw [hlen];exact hw) ?_ (by rw [hlen];exact hz)
 rw [hlen]
 refine ⟨.ref s.heap.objs.size,_,I.laid (t':=s.toks) (o:=.tup (C9 xs lo hi)) (fun b ob q=>Heap.get?_push_of_some _ q) ↥23 ?_,rfl,q _ (I.hok.fresh ↥23)⟩
 exact ⟨Nat.le_trans (lM xs lo hi) hz,_,(r.drop (HT.sIx xs.length 0 lo)).take (HT.sIx xs.length xs.length hi - HT.sIx xs.length 0 lo),IsTup.new _ _⟩
def Ly (K:PySem.W.Frag):R2:=fun x y H Q=>∃ a b xs ys,x=.ref a/\y=.ref b/\SqT K H a xs/\SqT K H b ys/\xs≠[]/\xs.length+ys.length<=sizeLine /\
 (ys=[]->Q (.ref a) H)/\(ys≠[]->∀ p,H p=none->Q (.ref p) (upd H p (.tup (xs++ys))))
theorem Vals.nil_iff {xs:List V} {us:List Value} (r:Vals xs us):us=[]↔xs=[]:=by
 cases r with
 | nil=>simp
 | cons _ _=>simp
theorem Fd:OpR X (binaryOp .Add) (Ly X.K):=by
 intro pins s σ H x y v u Q I rx ry h
 obtain ⟨a,b,xs,ys,rfl,rfl,ha,hb,hx,hz,q1,q2⟩:=h
 cases rx
 cases ry
 obtain ⟨its,r1,p1,_⟩:=I.tuple ha
 obtain ⟨its2,r2,p2,_⟩:=I.tuple hb
 refine HT.Gx p1 p2 (fun z=>hx (r1.nil_iff.mp z)) (fun z=>⟨.ref a,H,I,rfl,q1 (r2.nil_iff.mp z)⟩) (fun z => ?_) (by rw [<- r1.length,<-r2.length];exact hz)
 refine ⟨.ref s.heap.objs.size,_,I.laid (t':=s.toks) (o:=.tup (xs++ys)) (fun b ob q=>Heap.get?_push_of_some _ q) ↥23 ?_,rfl,q2 (fun w=>z (r2.nil_iff.mpr w)) _ (I.hok.fresh ↥23)⟩
 exact ⟨by rw [List.length_append];exact hz,_,r1.append r2,IsTup.new _ _⟩
end
end L2
namespace L2
open PySem PySem.Spec PyProof.Rows
def ixN (n:Nat) (i:Int):Option Nat:=if 0<=i then (if i<n then some i.toNat else none) else if -(n:Int)<=i then some (i+n).toNat else none
def atI {α:Type} (xs:List α) (i:Int):Option α:=(ixN xs.length i).bind fun j=>xs[j]?
theorem F8 {n:Nat} {i:Int} {j:Nat} (h:ixN n i=some j):seqIndex? i n=some j/\j<n /\ -(n:Int)<=i/\i<n:=by
 unfold ixN at h
 by_cases h0:0<=i
 ·rw [if_pos h0] at h
  by_cases h1:i<n
  ·rw [if_pos h1] at h
   have e:i.toNat=j:=Option.some.inj h
   exact ⟨by rw [seqIndex_of h0 h1,e],⋯,⋯,h1⟩
  ·rw [if_neg h1] at h;cases h
 ·rw [if_neg h0] at h
  by_cases h1 : -(n:Int)<=i
  ·rw [if_pos h1] at h
   have e:(i+n).toNat=j:=Option.some.inj h
   exact ⟨by rw [seqIndex_neg ⋯ h1,e],⋯,h1,⋯⟩
  ·rw [if_neg h1] at h;cases h
theorem sZ {α:Type} {xs:List α} {i:Int} {v:α} (h:atI xs i=some v):∃ j,seqIndex? i xs.length=some j/\xs[j]? = some v/\j<xs.length /\ -(xs.length:Int)<=i/\i<xs.length:=by
 unfold atI at h
 cases e:ixN xs.length i with
 | none=>rw [e] at h;cases h
 | some j =>
  rw [e] at h
  obtain ⟨h1,h2,h3,h4⟩:=F8 e
  exact ⟨j,h1,h,h2,h3,h4⟩
theorem zu {α:Type} {xs:List α} {j:Nat} {v:α} (h:xs[j]? = some v):atI xs (j:Int)=some v:=by
 have hj:j<xs.length:=(List.getElem?_eq_some_iff.mp h).1
 have e:ixN xs.length (j:Int)=some j:=by
  unfold ixN
  rw [if_pos ⋯,if_pos ⋯];simp
 unfold atI;rw [e];exact h
def pH (b:Expr):Prop:=∀ o i,subscripted b false o i=operate [o,i] (getItem o i)
def IxR (X:Cx) (r:R2):Prop :=
 ∀ (value slice:Expr) (pins:List ↥10) (s:Shared) (σ:St) (H:Hp) (x y:V) (v u:Value) (Q:VK),Inv X pins σ H s->RelV x v->RelV y u->r x y H Q ->
  subscripted slice false v u=operate [v,u] (getItem v u)->wpAny ↥4 X.A (subscriptTail value slice v u) (EP X pins σ Q) X.xe s
def MtR (X:Cx) (id:String) (r:V->List V->Hp->VK->Prop):Prop :=
 ∀ (pins:List ↥10) (s:Shared) (σ:St) (H:Hp) (x:V) (xs:List V) (v:Value) (us:List Value) (Q:VK),Inv X pins σ H s->RelV x v->Vals xs us->r x xs H Q ->
  wpAny ↥4 X.A (call (.builtin id) (v::us)) (EP X pins σ Q) X.xe s
section
variable {X:Cx} {a b:Expr} {ta tb:TE} {pos:Pos}
theorem EU {r:R2} (hr:IxR X r) (ha:PE X a ta) (hb:PE X b tb) (hs:pH b):PE X (.Subscript a b pos) (tOp r ta tb):=by
 intro pins s σ H Q I h
 exact Subscript_ (Mx ha hb I h fun v u s2 x y H2 I2 rx ry q=>hr a b pins s2 σ H2 x y v u Q I2 rx ry q (hs _ _))
def Qg (K:PySem.W.Frag):R2:=fun x y H Q=>∃ p xs i v,x=.ref p/\y=.int i/\SqL K H p xs/\atI xs i=some v/\Q v H
def Qd (K:PySem.W.Frag):R2:=fun x y H Q=>∃ p xs i v,x=.ref p/\y=.int i/\SqT K H p xs/\atI xs i=some v/\Q v H
def Qe:R2:=fun x y H Q=>∃ z i c,x=.str z/\y=.int i/\z.length<=sizeLine/\atI z.cps.toList i=some c/\Q (.str ⟨#[c]⟩) H
theorem F7:IxR X (Qg X.K):=by
 intro value slice pins s σ H x y v u Q I rx ry h hs
 obtain ⟨p,xs,i,z,rfl,rfl,hq,he,q⟩:=h
 cases rx
 obtain ⟨t,rfl⟩:=ry
 obtain ⟨its,r,pl,hz⟩:=I.list hq
 obtain ⟨j,h1,h2,h3,h4,h5⟩:=sZ he
 obtain ⟨w,ew,rw'⟩:=r.get h2
 have hl:=r.length
 have hn:=qk
 have fin:EP X pins σ Q w s:=⟨z,H,I,rw',q⟩
 by_cases h0:0<=i
 ·have hj:i.toNat=j:=by
   rw [seqIndex_of h0 h5] at h1
   exact Option.some.inj h1
  exact item_listR pl.isList h0 ⋯ (by rw [hj];simpa using ew) fin hs
 ·have hj:(i+(its.toArray.size:Int)).toNat=j:=by
   rw [seqIndex_neg ⋯ h4] at h1
   rw [List.size_toArray,<-hl]
   exact Option.some.inj h1
  exact subscriptTail_builtinR (x:=w) pl.isList.typeIs slot_list_getitem.lookup
   (wpAny_getItem_list_neg (Q:=fun r s'=>r=w/\EP X pins σ Q r s') pl.isList ⋯ (by rw [List.size_toArray]<;>omega) ⋯ (by rw [hj];simpa using ew) ⟨rfl,fin⟩) hs
theorem jr:IxR X (Qd X.K):=by
 intro value slice pins s σ H x y v u Q I rx ry h hs
 obtain ⟨p,xs,i,z,rfl,rfl,hq,he,q⟩:=h
 cases rx
 obtain ⟨t,rfl⟩:=ry
 obtain ⟨its,r,pl,hz⟩:=I.tuple hq
 obtain ⟨j,h1,h2,h3,h4,h5⟩:=sZ he
 obtain ⟨w,ew,rw'⟩:=r.get h2
 have hl:=r.length
 have hn:=qk
 have fin:EP X pins σ Q w s:=⟨z,H,I,rw',q⟩
 exact subscriptTail_builtinR (x:=w) pl.typeIs slot_tuple_getitem.lookup
  (getItem_tuple (j:=j) (Q:=fun r s'=>r=w/\EP X pins σ Q r s') pl ⋯ ⋯ (by rw [List.size_toArray,<-hl];exact h1) (by simpa using ew) ⟨rfl,fin⟩) hs
theorem JE:IxR X Qe:=by
 intro value slice pins s σ H x y v u Q I rx ry h hs
 obtain ⟨z,i,c,rfl,rfl,hz,he,q⟩:=h
 obtain ⟨t,rfl⟩:=rx
 obtain ⟨t',rfl⟩:=ry
 obtain ⟨j,h1,h2,h3,h4,h5⟩:=sZ he
 have hl:z.cps.toList.length=z.length:=by simp [Str.length]
 rw [hl] at h1 h4 h5
 have hn:=qk
 exact tail_any (typeIs_str s z t) slot_str_getitem.lookup (getItem_str (c:=c) (by
  have e1:decide (i < -(2^63:Int))=false:=decide_eq_false ⋯
  have e2:decide (i>=2^63)=false:=decide_eq_false ⋯
  rw [e1,e2,Bool.or_false]) (by rw [h1];simpa using h2) ⟨.str ⟨#[c]⟩,H,I.tok _,⟨_,rfl⟩,q⟩) hs
theorem pR (lo hi:Option Int) (n:Nat):(sliceBounds lo hi none n).1=((HT.sIx n 0 lo:Nat):Int)/\(sliceBounds lo hi none n).2.1=((HT.sIx n n hi:Nat):Int)/\(sliceBounds lo hi none n).2.2=1:=by
 refine ⟨?_,?_,rfl⟩
 ·cases lo with
  | none=>simp [sliceBounds,HT.sIx]
  | some i =>
   simp only [sliceBounds,HT.sIx,Option.getD_none,show (1:Int)>0 by decide,if_true]
   by_cases h:i<0
   ·simp only [h,if_true]<;>omega
   ·simp only [h,if_false]<;>omega
 ·cases hi with
  | none=>simp [sliceBounds,HT.sIx]
  | some i =>
   simp only [sliceBounds,HT.sIx,Option.getD_none,show (1:Int)>0 by decide,if_true]
   by_cases h:i<0
   ·simp only [h,if_true]<;>omega
   ·simp only [h,if_false]<;>omega
theorem nV (its:List Value) (lo hi:Option Int):slicePick its.toArray lo hi none=((its.drop (HT.sIx its.length 0 lo)).take (HT.sIx its.length its.length hi - HT.sIx its.length 0 lo)).toArray:=by
 obtain ⟨h1,h2,h3⟩:=pR lo hi its.toArray.size
 unfold slicePick
 rw [h1,h2,h3]
 simp only [sliceRange_one,pick_run,List.size_toArray]<;>rfl
def Qc (K:PySem.W.Frag):V->Option Int->Option Int->Hp->VK->Prop:=fun x lo hi H Q=>∃ a xs,x=.ref a/\SqL K H a xs/\∀ p,H p=none->Q (.ref p) (upd H p (.lst (C9 xs lo hi)))
theorem Ew:SlR X (Qc X.K):=by
 intro pins s σ H x v vl vu lo hi sl Q I rx hs pl pu h
 obtain ⟨a,xs,rfl,hx,q⟩:=h
 cases rx
 obtain ⟨its,r,ht,hz⟩:=I.list hx
 have hlen:=r.length
 refine ⟨"list",_,slot_list_getitem.lookup,ht.isList.typeIs,?_⟩
 refine wpAny_getItem_list_slice ht.isList hs pl pu .none (by simp) ?_ (by rw [List.size_toArray]<;>omega)
 rw [nV,<-hlen]
 refine ⟨.ref s.heap.objs.size,_,I.laid (t':=s.toks) (o:=.lst (C9 xs lo hi)) (fun b ob q=>Heap.get?_push_of_some _ q) ↥23 ?_,rfl,q _ (I.hok.fresh ↥23)⟩
 exact ⟨Nat.le_trans (lM xs lo hi) hz,_,0,(r.drop (HT.sIx xs.length 0 lo)).take (HT.sIx xs.length xs.length hi - HT.sIx xs.length 0 lo),Heap.get?_push_size _ rfl⟩
def mK:V->Bool
 | .non=>true
 | .bl _=>true
 | .int _=>true
 | .str _=>true
 | _=>false
def eqV:V->V->Bool
 | .non,.non=>true
 | .bl a,.bl b=>a == b
 | .bl a,.int b=>(if a then 1 else 0) == b
 | .int a,.bl b=>a == (if b then 1 else 0)
 | .int a,.int b=>a == b
 | .str a,.str b=>a == b
 | _,_=>false
theorem JX {A:Around} {s:Shared} {y x:V} {u v:Value} (ry:RelV y u) (rx:RelV x v) (fy:mK y=true) (fx:mK x=true):SeqAt.EqAt A s u v (eqV y x):=by
 cases y with
 | non =>
  cases ry
  cases x with
  | non=>cases rx;exact SeqAt.EqAt.same _
  | bl b=>cases rx;exact SeqAt.EqAt.none_bool b
  | int b=>obtain ⟨t,rfl⟩:=rx;exact SeqAt.EqAt.none_int b t
  | str b=>obtain ⟨t,rfl⟩:=rx;exact SeqAt.EqAt.none_str b t
  | _=>exact absurd (show false=true from fx) Bool.false_ne_true
 | bl a =>
  cases ry
  cases x with
  | non=>cases rx;exact SeqAt.EqAt.bool_none a
  | bl b=>cases rx;exact SeqAt.EqAt.bool_bool a b
  | int b=>obtain ⟨t,rfl⟩:=rx;exact SeqAt.EqAt.bool_int a b t
  | str b=>obtain ⟨t,rfl⟩:=rx;exact SeqAt.EqAt.bool_str a b t
  | _=>exact absurd (show false=true from fx) Bool.false_ne_true
 | int a =>
  obtain ⟨t',rfl⟩:=ry
  cases x with
  | non=>cases rx;exact SeqAt.EqAt.int_none a t'
  | bl b=>cases rx;exact SeqAt.EqAt.int_bool a t' b
  | int b=>obtain ⟨t,rfl⟩:=rx;exact SeqAt.EqAt.int_int a t' b t
  | str b=>obtain ⟨t,rfl⟩:=rx;exact SeqAt.EqAt.int_str a t' b t
  | _=>exact absurd (show false=true from fx) Bool.false_ne_true
 | str a =>
  obtain ⟨t',rfl⟩:=ry
  cases x with
  | non=>cases rx;exact SeqAt.EqAt.str_none a t'
  | bl b=>cases rx;exact SeqAt.EqAt.str_bool a t' b
  | int b=>obtain ⟨t,rfl⟩:=rx;exact SeqAt.EqAt.str_int a t' b t
  | str b=>obtain ⟨t,rfl⟩:=rx;exact SeqAt.EqAt.str_str a t' b t
  | _=>exact absurd (show false=true from fx) Bool.false_ne_true
 | _=>exact absurd (show false=true from fy) Bool.false_ne_true
def eqU (x:V) (u:Value):Bool:=match u with
 | .none=>eqV .non x
 | .bool b=>eqV (.bl b) x
 | .int i _=>eqV (.int i) x
 | .str z _=>eqV (.str z) x
 | _=>false
theorem C6 {x y:V} {u:Value} (r:RelV y u) (f:mK y=true):eqU x u=eqV y x:=by
 cases y with
 | non=>cases r;rfl
 | bl b=>cases r;rfl
 | int i=>obtain ⟨t,rfl⟩:=r;rfl
 | str z=>obtain ⟨t,rfl⟩:=r;rfl
 | _=>exact absurd (show false=true from f) Bool.false_ne_true
theorem lT {x:V}:∀ {xs:List V} {us:List Value},Vals xs us->xs.all mK=true->us.any (eqU x)=xs.any fun y=>eqV y x
 | _,_,.nil,_=>rfl
 | y::xs,u::us,.cons r t,f=>by
  rw [List.all_cons,Bool.and_eq_true] at f
  rw [List.any_cons,List.any_cons,C6 r f.1,lT t f.2]
theorem iy {A:Around} {s:Shared} {x:V} {v:Value} (rx:RelV x v) (fx:mK x=true):∀ {xs:List V} {us:List Value},Vals xs us->xs.all mK=true->∀ u∈us,SeqAt.EqAt A s u v (eqU x u)
 | _,_,.nil,_=>fun u hu=>by cases hu
 | y::xs,u::us,.cons r t,f=>fun u' hu=>by
  rw [List.all_cons,Bool.and_eq_true] at f
  rcases List.mem_cons.mp hu with rfl | hu
  ·rw [C6 r f.1];exact JX r rx f.1 fx
  ·exact iy rx fx t f.2 u' hu
def inV (x:V) (xs:List V):Bool:=xs.any fun y=>eqV y x
def rIn (K:PySem.W.Frag) (neg:Bool):R2:=fun x y H Q=>∃ p xs,y=.ref p/\(SqL K H p xs\/SqT K H p xs)/\mK x=true/\xs.all mK=true/\Q (.bl (if neg then !inV x xs else inV x xs)) H
theorem xE:OpR X (compareOp .In) (rIn X.K false):=by
 intro pins s σ H x y v u Q I rx ry h
 obtain ⟨p,xs,rfl,hq,fx,fs,q⟩:=h
 cases ry
 rcases hq with hq | hq
 ·obtain ⟨its,r,pl,hz⟩:=I.list hq
  refine SeqAt.in_listAt (eqU x) pl.isList (fun w hw=>iy rx fx r fs w (by simpa using hw)) ⟨.bl _,H,I,rfl,?_⟩
  rw [show its.toArray.any (eqU x)=its.any (eqU x) by simp,lT r fs]
  exact q
 ·obtain ⟨its,r,pl,hz⟩:=I.tuple hq
  refine SeqAt.in_tupleAt (eqU x) pl (fun w hw=>iy rx fx r fs w (by simpa using hw)) ⟨.bl _,H,I,rfl,?_⟩
  rw [show its.toArray.any (eqU x)=its.any (eqU x) by simp,lT r fs]
  exact q
theorem qf:OpR X (compareOp .NotIn) (rIn X.K true):=by
 intro pins s σ H x y v u Q I rx ry h
 obtain ⟨p,xs,rfl,hq,fx,fs,q⟩:=h
 cases ry
 rcases hq with hq | hq
 ·obtain ⟨its,r,pl,hz⟩:=I.list hq
  refine SeqAt.notIn_listAt (eqU x) pl.isList (fun w hw=>iy rx fx r fs w (by simpa using hw)) ⟨.bl _,H,I,rfl,?_⟩
  rw [show its.toArray.any (eqU x)=its.any (eqU x) by simp,lT r fs]
  exact q
 ·obtain ⟨its,r,pl,hz⟩:=I.tuple hq
  refine SeqAt.notIn_tupleAt (eqU x) pl (fun w hw=>iy rx fx r fs w (by simpa using hw)) ⟨.bl _,H,I,rfl,?_⟩
  rw [show its.toArray.any (eqU x)=its.any (eqU x) by simp,lT r fs]
  exact q
theorem qd:OpR X (compareOp .NotIn) (fun x y H Q=>∃ i j,x=.str i/\y=.str j/\Q (.bl (!(!(Builtin.Str.occurrences j i 0 j.length 1).isEmpty))) H):=by
 intro pins s σ H x y v u Q I rx ry h
 obtain ⟨i,j,rfl,rfl,q⟩:=h
 obtain ⟨t,rfl⟩:=rx
 obtain ⟨t',rfl⟩:=ry
 exact notIn_str ⟨.bl _,H,I,rfl,q⟩
theorem jv:fk X (.builtin "len") (fun xs H Q=>∃ p ys,xs=[.ref p]/\(SqL X.K H p ys\/SqT X.K H p ys)/\Q (.int ys.length) H):=by
 intro pins s σ H xs us Q I r h
 obtain ⟨p,ys,rfl,hq,q⟩:=h
 obtain ⟨u,rfl,rx⟩:=vals1 r
 cases rx
 have hn:=qk
 rcases hq with hq | hq
 ·obtain ⟨its,r',pl,hz⟩:=I.list hq
  have hlen:=r'.length
  exact Calls.call_len_list pl.isList (by simp only [List.size_toArray]<;>omega) ⟨.int ys.length,H,I.tok _,⟨s.toks+1,by rw [List.size_toArray,hlen]⟩,q⟩
 ·obtain ⟨its,r',pl,hz⟩:=I.tuple hq
  have hlen:=r'.length
  exact len_tuple pl (by simp only [List.size_toArray]<;>omega) ⟨.int ys.length,H,I.tok _,⟨s.toks+1,by rw [List.size_toArray,hlen]⟩,q⟩
theorem qw:fk X (.builtin "len") (fun xs H Q=>∃ z,xs=[.str z]/\z.length<=sizeLine/\Q (.int z.length) H):=by
 intro pins s σ H xs us Q I r h
 obtain ⟨z,rfl,hz,q⟩:=h
 obtain ⟨u,rfl,t,rfl⟩:=vals1 r
 have hn:=qk
 exact len_str ⋯ ⟨.int z.length,H,I.tok _,⟨_,rfl⟩,q⟩
theorem fO:fk X (.type "list") (fun xs H Q=>∃ p ys,xs=[.ref p]/\(SqL X.K H p ys\/SqT X.K H p ys)/\∀ l,H l=none->Q (.ref l) (upd H l (.lst ys))):=by
 intro pins s σ H xs us Q I r h
 obtain ⟨p,ys,rfl,hq,q⟩:=h
 obtain ⟨u,rfl,rx⟩:=vals1 r
 cases rx
 have fin:∀ (its:List Value),Vals ys its->ys.length<=sizeLine->∀ (h':Heap) (c':Nat),(∀ b o',s.heap.get? b=some o'->h'.get? b=some o') ->
   h'.get? s.heap.objs.size=some { cls:=.type "list",dict:=none,data:=.seq its.toArray c',slots := #[] }->EP X pins σ Q (.ref s.heap.objs.size) { s with heap:=h' }:=fun its r' hz h' c' kp e =>
  ⟨.ref s.heap.objs.size,_,I.laid (t':=s.toks) kp ↥23 (show gW X.prog X.w _ h' _ (.lst ys) from ⟨hz,its,c',r',e⟩),rfl,q _ (I.hok.fresh ↥23)⟩
 rcases hq with hq | hq
 ·obtain ⟨its,r',pl,hz⟩:=I.list hq
  have hlen:=r'.length
  obtain ⟨o,ho,hc,n,hd⟩:=pl.isList
  exact call_list_seq p (.inl rfl) ho hc hd (fun h' c' kp e=>fin its r' hz h' c' kp e) (by simp only [List.size_toArray]<;>omega)
 ·obtain ⟨its,r',pl,hz⟩:=I.tuple hq
  have hlen:=r'.length
  obtain ⟨o,ho,hc,n,hd⟩:=pl
  exact call_list_seq p (.inr rfl) ho hc hd (fun h' c' kp e=>fin its r' hz h' c' kp e) (by simp only [List.size_toArray]<;>omega)
def tyV (K:PySem.W.Frag) (T:String) (x:V) (H:Hp):Prop:=match x with
 | .str _=>T="str"
 | .int _=>T="int"
 | .ref p=>(T="list"/\∃ xs,SqL K H p xs)\/(T="tuple"/\∃ o,K.lookup p=some o/\o.cls=.type "tuple"/\o.dict=none) \/
   (T="dict"/\((∃ kvs,H p=some (.dK kvs))\/∃ kvs,H p=some (.dT kvs)))\/(T="set"/\∃ S n,H p=some (.set S n))
 | _=>False
theorem Cw {pins:List ↥10} {σ:St} {H:Hp} {s:Shared} {T:String} {x:V} {v:Value} (I:Inv X pins σ H s) (r:RelV x v) (ty:tyV X.K T x H) :
  s.TypeIs v T/\∀ a,v=.ref a->∃ ob,s.heap.get? a=some ob/\ob.dict=none:=by
 cases x with
 | str z =>
  obtain ⟨t,rfl⟩:=r
  cases (show T="str" from ty)
  exact ⟨typeIs_str s z t,fun _ e=>nomatch e⟩
 | int i =>
  obtain ⟨t,rfl⟩:=r
  cases (show T="int" from ty)
  exact ⟨typeIs_int s i t,fun _ e=>nomatch e⟩
 | ref p =>
  cases r
  rcases ty with ⟨rfl,xs,hq⟩ | ⟨rfl,o,hk,hc,hd⟩ | ⟨rfl,hk⟩ | ⟨rfl,S,n,hk⟩
  ·obtain ⟨its,_,pl,_⟩:=I.list hq
   refine ⟨pl.isList.typeIs,fun a e => ?_⟩
   cases e
   obtain ⟨o,n,e,c,hd,_⟩:=pl
   exact ⟨o,e,hd⟩
  ·refine ⟨⟨o,I.kIn p o hk,hc⟩,fun a e => ?_⟩
   cases e
   exact ⟨o,I.kIn _ o hk,hd⟩
  ·have z:∃ o,s.heap.get? p=some o/\o.ExactDict:=by
    rcases hk with ⟨kvs,hk⟩ | ⟨kvs,hk⟩
    ·obtain ⟨_,_,_,_,o,_,_,e,ex,_⟩:=I.hok p _ hk
     exact ⟨o,e,ex⟩
    ·obtain ⟨_,_,_,_,o,_,_,e,ex,_⟩:=I.hok p _ hk
     exact ⟨o,e,ex⟩
   obtain ⟨o,e,ex⟩:=z
   refine ⟨⟨o,e,ex.1⟩,fun a e2 => ?_⟩
   cases e2
   exact ⟨o,e,ex.2.1⟩
  ·obtain ⟨o,_,_,_,e,ex,_⟩:=I.hok p _ hk
   refine ⟨⟨o,e,ex.1⟩,fun a e2 => ?_⟩
   cases e2
   exact ⟨o,e,ex.2.1⟩
 | _=>exact False.elim ty
def P1 (K:PySem.W.Frag) (T:String) (r:V->List V->Hp->VK->Prop) (to:TE):TE:=fun σ H Q=>to σ H fun x H1=>tyV K T x H1/\r x [] H1 Q
def tBM (K:PySem.W.Frag) (T:String) (r:V->List V->Hp->VK->Prop) (to:TE) (t:TA):TE:=fun σ H Q=>to σ H fun x H1=>tyV K T x H1/\t σ H1 fun xs H2=>r x xs H2 Q
variable {o e:Expr} {es:List Expr} {to:TE} {t:TA} {name:Str} {apos cpos:Pos} {T id:String} {r:V->List V->Hp->VK->Prop}
theorem IQ (pa:PlainAttrs T) (slot:Slot T name id) (hty:typeOf (.builtin id)=pure (.type "method_descriptor")) (hm:MtR X id r) (ho:PE X o to)
  (hbase:attributeBase o name X.env (eval o X.env)=eval o X.env:=by rfl) (hline:(apos.endLine == cpos.line)=true:=by rfl):PE X (.Call (.Attribute o name apos) [] [] cpos) (P1 X.K T r to):=by
 intro pins s σ H Q I h
 refine wpAny_Call_method0_late hbase hline (thn (ho pins s σ H _ I h) fun v s1 ⟨x,H1,I1,r1,ty,q1⟩ => ?_)
 obtain ⟨h1,h2⟩:=Cw I1 r1 ty
 exact ⟨T,id,pa,slot,hty,h1,h2,Calls.callWith_builtin rfl (PySem.evalArgs_none (hm pins s1 σ H1 x [] v [] Q I1 r1 .nil q1))⟩
theorem xw (pa:PlainAttrs T) (slot:Slot T name id) (hty:typeOf (.builtin id)=pure (.type "method_descriptor")) (hm:MtR X id r) (ho:PE X o to) (ha:PA X (e::es) t)
  (hbase:attributeBase o name X.env (eval o X.env)=eval o X.env:=by rfl)
  (hfew:((backTo cpos (starEach (e::es) X.env)).all (fun x => !x.1)&&(backToKw cpos (keywordEach [] X.env)).all (fun x=>x.1.isSome)
   && decide ((e::es).length+([]:List Keyword).length+(if ([]:List Keyword).isEmpty then 0 else 1)<30))=true:=by rfl)
  (hline:(apos.endLine == cpos.line)=true:=by rfl) (hs:starEach (e::es) X.env=↥25::starEach es X.env:=by rfl) (hplain:(backTo cpos (starEach es X.env)).any (·.1)=false:=by rfl) :
  PE X (.Call (.Attribute o name apos) (e::es) [] cpos) (tBM X.K T r to t):=by
 intro pins s σ H Q I h
 refine wpAny_Call_method_late hbase hfew hline rfl (thn (ho pins s σ H _ I h) fun v s1 ⟨x,H1,I1,r1,ty,q1⟩ => ?_)
 obtain ⟨h1,h2⟩:=Cw I1 r1 ty
 refine ⟨T,id,pa,slot,hty,h1,h2,?_⟩
 have hA:=ha cpos pins s1 σ H1 _ I1 q1
 rw [hs] at hA ⊢
 refine Calls.callWith_builtin (by show (false||(backTo cpos (starEach es X.env)).any (·.1))=false;rw [hplain]<;>rfl) (Calls.evalArgs_plain ?_)
 exact thn hA fun us s2 ⟨vs,H2,I2,r2,q2⟩=>hm pins s2 σ H2 x vs v us Q I2 r1 r2 q2
/- xs.append(e),list.index on a module's tuple .. are MtR facts of 06m -/
end
end L2
namespace L2
open PySem PySem.Spec PyProof.Rows
def MtM (X:Cx) (id:String) (r:V->List V->Hp->VK->Prop):Prop :=
 ∀ (pins:List ↥10) (s:Shared) (σ:St) (H:Hp) (x:V) (xs:List V) (v:Value) (us:List Value) (Q:VK),Inv X pins σ H s->RelV x v->Vals xs us->r x xs H Q ->
  wpAny ↥4 X.A (call (.builtin id) (v::us)) (EP X pins σ Q) X.xe s
theorem Vals.one:∀ {x:V} {us:List Value},Vals [x] us->∃ u,us=[u]/\RelV x u
 | _,_,.cons r .nil=>⟨_,rfl,r⟩
theorem Vals.rep {xs:List V} {us:List Value} (h:Vals xs us):∀ k:Nat,Vals (List.replicate k xs).flatten (List.replicate k us).flatten
 | 0=>.nil
 | k+1=>by
  rw [List.replicate_succ,List.replicate_succ,List.flatten_cons,List.flatten_cons]
  exact Vals.append h (Vals.rep h k)
theorem foldl_rep (its:List Value):∀ (k:Nat) (acc:List Value),
  List.foldl (fun x1 x2=>x1++x2) acc.toArray (List.replicate k its.toArray)=(acc++(List.replicate k its).flatten).toArray
 | 0,acc=>by simp
 | k+1,acc=>by
  have e:acc.toArray++its.toArray=(acc++its).toArray:=by simp
  have e2:(acc++its)++(List.replicate k its).flatten=acc++(List.replicate (k+1) its).flatten:=by
   rw [List.replicate_succ,List.flatten_cons,List.append_assoc]
  rw [<- e2,<-foldl_rep its k (acc++its),<-e,List.replicate_succ,List.foldl_cons]
section
variable {X:Cx} {pins:List ↥10} {σ:St} {H:Hp} {s:Shared} {l b:Addr} {xs ys zs:List V}
theorem Inv.lset {its its':List Value} {n:Nat} {f:Array Value->Array Value} {t':Nat} (I:Inv X pins σ H s) (hH:H l=some (.lst xs))
  (e:s.heap.get? l=some { cls:=.type "list",data:=.seq its.toArray n }) (hf:f its.toArray=its'.toArray) (hv:Vals ys its') (hz:ys.length<=sizeLine) :
  Inv X pins σ (upd H l (.lst ys)) { s with heap:=s.heap.update l (Obj.mapSeq f),toks:=t' }:=by
 have q:=PySem.IsL.update e f
 rw [hf] at q
 refine I.write (x:=l) (e:=l) (by rw [hH];exact trivial) (.inl rfl) (fun b' u hb hu=>(Heap.get?_update_other s.heap (Obj.mapSeq f) (Ne.symm hb)).trans hu) ⟨_,q⟩ ?_
 exact ⟨hz,its',_,hv,q⟩
theorem Inv.lnew {its:List Value} {t':Nat} (I:Inv X pins σ H s) (hv:Vals ys its) (hz:ys.length<=sizeLine) :
  Inv X pins σ (upd H s.heap.objs.size (.lst ys)) { s with heap:=s.heap.push { cls:=.type "list",data:=.seq its.toArray },toks:=t' } :=
 I.laid (fun _ _ q=>Heap.get?_push_of_some _ q) ↥23 ⟨hz,its,0,hv,Heap.get?_push_size _ rfl⟩
theorem Inv.fresh (I:Inv X pins σ H s):H s.heap.objs.size=none:=I.hok.fresh ↥23
theorem Inv.lstM (I:Inv X pins σ H s) (hH:H l=some (.lst xs)):xs.length<=sizeLine/\∃ (its:List Value) (n:Nat),Vals xs its/\xs.length=its.length/\s.heap.get? l=some { cls:=.type "list",data:=.seq its.toArray n }:=by
 obtain ⟨z,its,n,r,e⟩:=I.hok l _ hH
 exact ⟨z,its,n,r,r.length,e⟩
theorem t9 {n:Nat} (h:n<=sizeLine):Builtin.List.listTooLong n=false:=by
 unfold Builtin.List.listTooLong
 exact decide_eq_false ⋯
end
section
variable {X:Cx}
def EK:V->List V->Hp->VK->Prop:=fun x vs H Q=>∃ l xs y,x=.ref l/\vs=[y]/\H l=some (.lst xs)/\xs.length<sizeLine/\Q .non (upd H l (.lst (xs++[y])))
theorem fI:MtM X "list.append" EK:=by
 intro pins s σ H x vs v us Q I rx rv h
 obtain ⟨l,xs,y,rfl,rfl,hH,hz,q⟩:=h
 cases rx
 obtain ⟨u,rfl,ru⟩:=rv.one
 obtain ⟨z,its,n,r,hl,e⟩:=I.lstM hH
 refine call_meets F.slot_list_append ⟨_,e,rfl⟩ F.entry_list_append (F.args_list_append_2 _ _) (PySem.list_append l its.toArray n u (by rw [List.size_toArray];omega)) ⟨e,?_⟩
 refine ⟨.non,_,I.lset (its':=its++[u]) hH e (by simp) (r.append (.cons ru .nil)) ?_,rfl,q⟩
 rw [List.length_append,List.length_singleton]
 omega
theorem len_rep {α:Type} (xs:List α) (k:Nat):(List.replicate k xs).flatten.length=k*xs.length:=by
 induction k with
 | zero=>simp
 | succ k ih=>rw [List.replicate_succ,List.flatten_cons,List.length_append,ih,Nat.succ_mul,Nat.add_comm]
end
section
variable {prog:Program} {w:World} {A:Around} {E:Value->Shared->Prop} {s:Shared}
end
section
variable {X:Cx}
end
end L2
namespace Att
open PySem PySem.W PySem.Calls PyProof.Rows
theorem lE {P:Params} {h:Heap}:∀ (ns:List Int) (vs:List Value),WellAll P h vs (ns.map WData.int)->IntsAre vs ns:=by
 intro ns
 induction ns with
 | nil =>
  intro vs w
  rw [List.map_nil] at w
  cases w
  exact .nil
 | cons n ns ih =>
  intro vs w
  rw [List.map_cons] at w
  cases w with
  | cons a b =>
   cases a
   exact .cons _ _ (ih _ b)
theorem wW {l:OpenLaw} {n:Nat} (hn:l.most=some n) {P:Params} {h:Heap} {args:List WData} {vals:List Value}
  (hpre:l.row.toRowW.claim.pre args=true) (hwl:WellAll P h vals args) :
  ∃ a vs ns,vals=[Value.ref a]/\args=[WData.list (ns.map WData.int)]/\h.get? a=some { cls:=.type "list",data:=.seq vs.toArray }/\IntsAre vs ns/\ns.length<=n:=by
 have hsh:WShape.hasAll [] args [.list .int]=true:=(pre_splitW hpre).1
 have hc:l.pre.holds [] { args:=args }=true:=(pre_splitW hpre).2
 obtain ⟨d,r,rfl,h1,h2⟩:=hasAllW_cons hsh
 obtain rfl:=hasAllW_nil h2
 obtain ⟨xs,rfl,h3⟩:=hasW_list h1
 obtain ⟨ns,rfl⟩:=items_int h3
 have hlen:ns.length<=n:=by
  unfold OpenLaw.pre at hc
  have h4:(WTm.not (.lt (.lit (.int (n:Int))) (.len (.arg 0)))).holds [] { args:=[.list (ns.map .int)] }=true:=by
   have h4:=(holds_andW hc).1
   rw [hn] at h4
   exact h4
  have h5:=condW_of h4 (w_not (w_lt w_lit (w_len_list (w_arg rfl))))
  rw [List.length_map] at h5
  refine Nat.le_of_not_lt fun q => ?_
  have q':(n:Int)<((ns.length:Nat):Int):=⋯
  first
   | (rw [decide_eq_true q'] at h5;exact absurd h5 ↥2)
   | (simp at h5;omega)
 cases hwl with
 | cons w1 w2 =>
  cases w2
  cases w1 with
  | list ho hall=>exact ⟨_,_,ns,rfl,rfl,ho,lE ns _ hall,hlen⟩
theorem xo (l:OpenLaw) (args:List WData):l.row.toRowW.claim.post args (.bool true) args=true :=
 postW_of (r:=l.row.toRowW) (X:=(true == true))
  (show WShape.has [] (.bool true) .bool=true by first | rfl | decide | simp [WShape.has,WShape.arms,WShape.armsAll])
  (show (WTm.eq .res (.lit (.bool true))).value [] { args:=args,res:=some (.bool true),after:=args }=some (.bool (true == true)) from w_eq_bool (w_res rfl) w_lit) rfl
section
variable {prog:Program} {w:World} {A:Around} {E:Value->Shared->Prop} {s:Shared} {K:Frag}
def ledger (h:Heap) (L d:Addr):List ↥10:=(List.range h.objs.size).filterMap fun a=>if a=L\/a=d then none else (h.get? a).map fun o=>(a,o)
end
end Att
namespace L2
open PySem PySem.Spec PyProof.Rows
theorem pL:∀ {vs:List Value} {ns:List Int},IntsAre vs ns->Vals (ns.map V.int) vs
 | _,_,.nil=>.nil
 | _,_,.cons n t h=>.cons ⟨t,rfl⟩ (pL h)
def Px (H:Hp):Prop:=∀ b,H b=none\/∃ o xs,H b=some (.frz o (.lst xs))
theorem BH {P:Program} {w:World} {K:PySem.W.Frag} {mg mb:Str->Option Value} {CX:CXT} {k:Nat} {fa a:Addr} {fd:FuncData} {x:Str} {sp:Sp} {s₁:Shared} {vs:List Value} {ns:List Int}
  (KX:K.In s₁.heap) (hns:s₁.heap.Ns mainGlobals mg) (hb:s₁.heap.Ns builtinsNs mb) (hbb:∀ x:Str,x≠"__name__"->mb x=bootBuiltins x) (hlim:s₁.heap.NoLimit) (hg:s₁.gens = #[])
  (ha:s₁.heap.get? a=some { cls:=.type "list",data:=.seq vs.toArray }) (hi:IntsAre vs ns) (hl:ns.length<=sizeLine) (hr:Room k callerA)
  (F:∀ base:Heap,K.In base->base.Ns mainGlobals mg->FnOk P w K mg base CX k fa fd [x] sp) (hbind:∀ (s:Shared) (u:Value),BindsTo s fd ⟨[u],[]⟩ [(x,u)])
  (hsp:∀ H:Hp,Px H->SqL K H a (ns.map V.int)->sp [.ref a] H (fun v _=>v=.bl true) fun _ _ _=>False)
  (hCX:∀ H e s',CX [] H s₁ (fun _ _ _=>False) e s'->False) :
  codeAny (model P w) callerA (.call (.ref fa) ⟨[.ref a],[]⟩) (fun r s'=>r=.ok (.ret (.bool true))/\OldK s₁.heap s'.heap/\s'.os=s₁.os/\AllBare s'.gens) s₁:=by
 have rv:=pL hi
 have lenV:=hi.length
 have core:∀ H:Hp,Px H->SqL K H a (ns.map V.int)->HOk P w H s₁.heap->(∀ b,H b≠none->b=a)->(H a≠none->K.lookup a=none) ->
   codeAny (model P w) callerA (.call (.ref fa) ⟨[.ref a],[]⟩) (fun r s'=>r=.ok (.ret (.bool true))/\OldK s₁.heap s'.heap/\s'.os=s₁.os/\AllBare s'.gens) s₁:=by
  intro H hO hS hok hA hK
  have base_of:∀ {b:Addr} {o:Obj},s₁.heap.get? b=some o->H b=none->(BO s₁.heap H).get? b=some o:=fun e n=>BN e n
  have noA:∀ {b:Addr} {o:Obj} {es:Array DictEntry} {ep:Nat},s₁.heap.get? b=some o->o.data=.dict es ep->H b=none:=fun {b o es ep} e d=>by
   cases q:H b with
   | none=>rfl
   | some u =>
    have e':b=a:=hA b (by rw [q];simp)
    subst e'
    rw [ha] at e;cases e
    have d':Data.seq vs.toArray _=Data.dict es ep:=d
    cases d'
  have nsK:∀ {b:Addr} {m:Str->Option Value},s₁.heap.Ns b m->(BO s₁.heap H).Ns b m:=fun {b m} ⟨o,es,ep,e,d,r⟩=>⟨o,es,ep,base_of e (noA e d),d,r⟩
  have hKb:K.In (BO s₁.heap H):=fun b o e=>base_of (KX b o e) (by
   cases q:H b with
   | none=>rfl
   | some u =>
    have e':b=a:=hA b (by rw [q];simp)
    subst e'
    rw [hK (by rw [q];simp)] at e;cases e)
  have hM:Mod K mg (BO s₁.heap H):=⟨hKb,nsK hns,⟨mb,nsK hb,hbb⟩,let ⟨mc,h1,h2⟩:=hlim;⟨mc,nsK h1,h2⟩⟩
  have e0:Env0 P w K mg (BO s₁.heap H) callerA [] s₁ H:=⟨rfl,hM,fun b o e=>Fp e,Nat.le_of_eq (yC _ _),trivial,fun b hb=>absurd (show b∈([]:List Addr) from hb) (by simp),hok,.of_eq hg⟩
  refine codeAny_mono ((F _ hKb (nsK hns)).run callerA [] s₁ H ⟨[.ref a],[]⟩ [.ref a] [.ref a] _ _ hr e0 (hbind s₁ (.ref a)) (.cons rfl .nil) (hsp H hO hS)) fun r s' h => ?_
  cases r with
  | error e=>exact (hCX H e s' h).elim
  | ok fl =>
   cases fl with
   | next=>exact False.elim h
   | brk=>exact False.elim h
   | cont=>exact False.elim h
   | ret u =>
    obtain ⟨v,H',os,bare,un,hok',r',q⟩:=h
    have q':v=.bl true:=q
    subst q'
    obtain rfl:u=Value.bool true:=r'
    refine ⟨rfl,OldK.of_keep fun b o e => ?_,os,bare⟩
    cases q:H b with
    | none=>exact un.keep b o e q (by intro z;exact absurd (show b∈([]:List Addr) from z) (by simp)) (by simp)
    | some u =>
     rcases hO b with z | ⟨ob,xs,z⟩
     ·rw [q] at z;cases z
     ·have z2:=un.frzs b ob _ z
      obtain ⟨e1,_⟩:=hok b _ z
      obtain ⟨e2,_⟩:=hok' b _ z2
      rw [e] at e1;cases e1
      exact e2
 cases hk:K.lookup a with
 | some o =>
  have e:=KX a o hk
  rw [ha] at e
  cases e
  refine core (fun _=>none) (fun _=>.inl rfl) (.inr ⟨_,vs.toArray,_,hk,rfl,rfl,rfl,by rw [List.size_toArray,lenV];exact hl,by simpa using rv⟩) (fun b u z=>by have z':(none:Option HO)=some u:=z;cases z') (fun b z=>absurd rfl z) fun z=>absurd rfl z
 | none =>
  refine core (fun b=>if b=a then some (.frz { cls:=.type "list",data:=.seq vs.toArray } (.lst (ns.map V.int))) else none) (fun b => ?_) (.inl (.inr ⟨{ cls:=.type "list",data:=.seq vs.toArray },if_pos rfl⟩)) (fun b u z => ?_) (fun b z => ?_) fun _=>hk
  ·by_cases hb:b=a
   ·exact .inr ⟨_,_,if_pos hb⟩
   ·exact .inl (if_neg hb)
  ·by_cases hb:b=a
   ·have z':=(if_pos hb).symm.trans z
    cases z'
    subst hb
    exact ⟨ha,by rw [List.length_map];exact hl,vs,_,rv,ha⟩
   ·have z':=(if_neg hb).symm.trans z
    cases z'
  ·by_cases hb:b=a
   ·exact hb
   ·exact absurd (if_neg hb) z
end L2
namespace L2
open PySem PySem.Spec PyProof.Rows
abbrev KOf {K:PySem.W.Frag} {h:Heap} (_:K.In h):PySem.W.Frag:=K
end L2
/- THE LAST THEOREM (shape;LID,My.* are yours):
   My.Adr: a structure of the addresses that your layer names (classes,functions);My.Txt K t: a structure (Prop) of the equations over K;
   My.txt_mk:{K} {implicit addresses ..} (e1:nsIn K mainGlobals "law"=some (some (.ref f))) (e2:K.lookup f=some ⟨oc,od,.func (fnOf "law" "law" params body scope dV kV doc pm an cdv ct),sl⟩) (e3:codeIn K cdv "law"=true) .. : ∃ t,My.Txt K t
set_option maxHeartbeats 0 in
theorem PySem.Challenge.cw_LID_holds : PySem.Challenge.rw_LID.Holds := by
 w_on;o_law;k_head;(case hw=>w_witness2)
 k_fill
 refine L2.walk_of (l:=PySem.Challenge.rw_LID) (n:=63) (k:=40) (x:="script") (CX:=fun w=>..) (sp:=fun _=>My.sp_law) rfl ↥2 rfl ⟨rfl,by decide,by decide⟩ (fun w h Y=>PySem.W.kIn_of Y) ?F ?S ?C
 case F =>
  intro w mg fa h KX G hmg
  have T:∃ t,My.Txt (L2.KOf KX) t:=by
   dsimp only [L2.KOf]                          -- K must HZ as «<heap const> w.params» for k_is
   refine' My.txt_mk ?e1 ?e2 ?e3 ..
   (case e1=>PySem.W.k_is)                    -- in the order: a name->its address->its object->its parts
   (case e2=>PySem.W.k_is)
   ..
  obtain ⟨t,T⟩:=T
  have e0:=hmg.symm.trans (PySem.W.mg_of KX G T.law)
  cases e0                                       -- fa is the law's own address
  exact ⟨_,fun s u=>.of_eq rfl,fun base kb nb=>My.law_fn T kb nb⟩     -- if «.of_eq rfl» comes too early: refine' ⟨_,?b,fun base kb nb=>My.law_fn T kb nb⟩;exact fun s u=>.of_eq rfl
 case S=>exact fun w H a ns hl hO hS=>..
 case C=>exact ..
(the tactic k_is has no namespace: write k_is) -/
namespace L2
open PySem PySem.Spec PyProof.Rows
def dq (s:Stmt):Arguments:=match s with
 | .FunctionDef _ a _ _ _ _ _ _ _ _=>a
 | _=>{ posonlyargs:=[],args:=[],vararg:=none,kwonlyargs:=[],kw_defaults:=[],kwarg:=none,defaults:=[] }
def ag (s:Stmt):List Stmt:=match s with
 | .FunctionDef _ _ b _ _ _ _ _ _ _=>b
 | _=>[]
def aa (s:Stmt):Scope:=match s with
 | .FunctionDef _ _ _ _ _ _ sc _ _ _=>sc
 | _=>{ kind:=.function,names:=[],isGenerator:=false,isCoroutine:=false }
abbrev CX0:CXT:=fun _ _ _ _ _ _=>False
abbrev E0:XK:=fun _ _ _=>False
theorem LK {X:Cx}:Passes CX0 X E0:=fun _ _ _ _ _ _ _ h=>h.elim
structure Fun (K:PySem.W.Frag) (x qual:Str) (st:Stmt) (f:Addr) (fd:FuncData):Prop where
 ex:∃ (oc:Value) (od:Option Addr) (kV doc pm:Value) (an:Option Addr) (cdv ct:Value) (osl:Array (Option Value)),
  fd=PySem.W.fnOf x qual (dq st) (ag st) (aa st) .none kV doc pm an cdv ct/\K.lookup f=some ⟨oc,od,.func fd,osl⟩/\PySem.W.codeIn K cdv qual=true
 kp:PySem.W.keepIn K (.ref f)=true
section
variable {P:Program} {w:World} {K:PySem.W.Frag} {mg:Str->Option Value} {base:Heap}
theorem Fun.ok {x qual:Str} {st:Stmt} {f:Addr} {fd:FuncData} {N ps:List Str} {k:Nat} {sp:Sp} (F:Fun K x qual st f fd) (S:FnScope N ps (aa st)) (len:∀ vs H Q E,sp vs H Q E->vs.length=ps.length)
  (hbody:∀ (cdv:Value) (A:Around) (outer:List Env) (s:Shared) (H:Hp) (vs:List V) (Q:VK) (E:XK),Room k (A.deeper (envOfC qual (aa st) s.heap.objs.size f cdv))->sp vs H Q E ->
   ∃ t,PSs (v9 CX0 P w K mg base N qual (aa st) f cdv A outer s H E).nox (ag st) t/\t { nx:=fun _ H'=>Q .non H',rt:=Q } (start N vs) H):FnOk P w K mg base CX0 (k+1) f fd ps sp:=by
 obtain ⟨oc,od,kV,doc,pm,an,cdv,ct,osl,rfl,lk,hcd⟩:=F.ex
 refine Gi lk hcd S len fun A outer s H vs Q E hr hsp => ?_
 obtain ⟨t,h,q⟩:=hbody cdv A outer s H vs Q E hr hsp
 exact ⟨t,h.nox,q⟩
theorem Fun.binds {x qual:Str} {st:Stmt} {f:Addr} {fd:FuncData} {ps:List Str} (F:Fun K x qual st f fd)
  (h:∀ (kV doc pm:Value) (an:Option Addr) (cdv ct:Value) (us:List Value),us.length=ps.length->bindArgs ↥0 ⟨us,[]⟩=pure (ps.zip us)):Binds K fd ps []:=by
 obtain ⟨oc,od,kV,doc,pm,an,cdv,ct,osl,rfl,lk,hcd⟩:=F.ex
 exact .all (h kV doc pm an cdv ct)
theorem lH {x qual:Str} {st:Stmt} {f:Addr} {oc:Value} {od an:Option Addr} {osl:Array (Option Value)} {kV doc pm cdv ct:Value} (l:K.lookup f=some ⟨oc,od,.func ↥0,osl⟩)
  (c:PySem.W.codeIn K cdv qual=true) (k:PySem.W.keepIn K (.ref f)=true):Fun K x qual st f ↥0:=⟨⟨oc,od,kV,doc,pm,an,cdv,ct,osl,rfl,l,c⟩,k⟩
end
theorem gY {n:Nat} (h:n<=1000):n<sizeLine:=Nat.lt_of_le_of_lt h ↥2
section
variable {X:Cx}
end
theorem F9 {A B:Prop} (h:B):if false=true then A else B:=by
 rw [if_neg Bool.false_ne_true]
 exact h
theorem G8 {A B:Prop} (h:A):if true=true then A else B:=by
 rw [if_pos rfl]
 exact h
def ao (H H':Hp):Prop:=∀ b o,H b=some o->H' b=some o
theorem ao.refl (H:Hp):ao H H:=fun _ _ h=>h
theorem ao.trans {H H1 H2:Hp} (a:ao H H1) (b:ao H1 H2):ao H H2:=fun c o h=>b c o (a c o h)
theorem ao.seq {K:PySem.W.Frag} {H H':Hp} {a:Addr} {xs:List V} (e:ao H H') (h:SqL K H a xs):SqL K H' a xs:=by
 rcases h with (h | ⟨o,h⟩) | h
 ·exact .inl (.inl (e _ _ h))
 ·exact .inl (.inr ⟨o,e _ _ h⟩)
 ·exact .inr h
end L2
namespace EV
open PySem (Str)
inductive D where
 | non | bl (b:Bool) | int (i:Int) | str (x:Str) | tup (ds:List D) | lst (ds:List D) | own (ds:List D)
 | ty (n:String) | cls (n:String) | exc (n:String) | ins (n:String) (fs:List (String×D))
noncomputable instance:Inhabited D:=⟨.non⟩
inductive R (α:Type) where
 | ok (a:α) | ex (C:String) | bad
namespace R
def bind {α β:Type}:R α->(α->R β)->R β
 | .ok a,f=>f a
 | .ex C,_=>.ex C
 | .bad,_=>.bad
end R
abbrev Dt:=List (Option D)
abbrev E:=Dt->R D
inductive O where
 | nx (δ:Dt) | rt (d:D) | bk (δ:Dt) | ct (δ:Dt) | ex (C:String) (δ:Dt) | mk (C:String) (δ:Dt) | hx (C:String) (δ:Dt) | bad
abbrev S:=Dt->O
def pw (k:Int):Int:=2^k.toNat
def nb (i:Int):Nat:=if i=0 then 0 else i.natAbs.log2+1
def MulOk (i j:Int):Prop:=nb i+nb j<=134217728
def jZ (i j:Int):Prop:=0<j/\(nb j<=9000\/nb i<=nb j+4000)
noncomputable instance {i j:Int}:Decidable (MulOk i j):=inferInstanceAs (Decidable (_<=_))
noncomputable instance {i j:Int}:Decidable (jZ i j):=inferInstanceAs (Decidable (_/\_))
def cA:D->D->R D
 | .int i,.int j=>.ok (.int (i+j))
 | .str x,.str y=>if x.cps.size+y.cps.size<=1000000 then .ok (.str ⟨x.cps++y.cps⟩) else .bad
 | .lst xs,.lst ys=>if xs.length+ys.length<=100000 then .ok (.lst (xs++ys)) else .bad
 | .tup xs,.tup ys=>if xs≠[]/\xs.length+ys.length<=100000 then .ok (.tup (xs++ys)) else .bad
 | _,_=>.bad
def eA:D->D->R D
 | .int i,.int j=>.ok (.int (i - j))
 | _,_=>.bad
def oJ:D->D->R D
 | .int i,.int j=>if MulOk i j then .ok (.int (i*j)) else .bad
 | _,_=>.bad
def oDiv:D->D->R D
 | .int i,.int j=>if jZ i j then .ok (.int (i / j)) else .bad
 | _,_=>.bad
def oMod:D->D->R D
 | .int i,.int j=>if 0<j then .ok (.int (i%j)) else .bad
 | _,_=>.bad
def d5:D->D->R D
 | .int i,.int j=>if 0<=j/\(nb i:Int)+j<=134217728 then .ok (.int (i*pw j)) else .bad
 | _,_=>.bad
def Be:D->D->R D
 | .int i,.int j=>if 0<=j then .ok (.int (i / pw j)) else .bad
 | _,_=>.bad
def mF:D->D->R D
 | .int i,.int j=>if 0<=i/\0<=j then .ok (.int ((i.toNat &&& j.toNat:Nat):Int)) else .bad
 | _,_=>.bad
def CS:D->D->R D
 | .int i,.int j=>if 0<=i/\0<=j then .ok (.int ((i.toNat ||| j.toNat:Nat):Int)) else .bad
 | _,_=>.bad
def rW:D->D->R D
 | .int i,.int j=>if 0<=i/\0<=j then .ok (.int ((i.toNat ^^^ j.toNat:Nat):Int)) else .bad
 | _,_=>.bad
def zP:D->R D
 | .int i=>.ok (.int (-i))
 | _=>.bad
def oLt:D->D->R D
 | .int i,.int j=>.ok (.bl (decide (i<j)))
 | _,_=>.bad
def oLe:D->D->R D
 | .int i,.int j=>.ok (.bl (decide (i<=j)))
 | _,_=>.bad
def oGt:D->D->R D
 | .int i,.int j=>.ok (.bl (decide (j<i)))
 | _,_=>.bad
def oGe:D->D->R D
 | .int i,.int j=>.ok (.bl (decide (j<=i)))
 | _,_=>.bad
mutual
def D.beq:D->D->Bool
 | .non,.non=>true
 | .bl a,.bl b=>a == b
 | .bl a,.int b=>(if a then 1 else 0) == b
 | .int a,.bl b=>a == (if b then 1 else 0)
 | .int a,.int b=>a == b
 | .str a,.str b=>a == b
 | .tup a,.tup b=>D.beqs a b
 | .lst a,.lst b=>D.beqs a b
 | _,_=>false
def D.beqs:List D->List D->Bool
 | [],[]=>true
 | a::as,b::bs=>D.beq a b&&D.beqs as bs
 | _,_=>false
end
def D.sc:D->Bool
 | .non=>true | .bl _=>true | .int _=>true | .str _=>true
 | _=>false
def D.pl:Nat->D->Bool
 | _,.non=>true
 | _,.bl _=>true
 | _,.int _=>true
 | _,.str x=>x.cps.all (· < 0x110000)
 | n+1,.tup ds=>ds.all (D.pl n)
 | n+1,.lst ds=>ds.all (D.pl n)
 | _,_=>false
def D.cmp (a b:D):Bool:=(a.sc&&b.sc)||(D.pl 8 a&&D.pl 8 b)
def oEq (a b:D):R D:=if D.cmp a b then .ok (.bl (D.beq a b)) else .bad
def oNe (a b:D):R D:=if D.cmp a b then .ok (.bl (!D.beq a b)) else .bad
def rV:D->R D
 | .non=>.ok ↥32
 | _=>.ok ↥28
def mE:D->R D
 | .non=>.ok ↥28
 | _=>.ok ↥32
def isIn (x:D) (ys:List D):Option Bool:=if x.sc&&ys.all D.sc then some (ys.any fun y=>D.beq y x) else none
def oIn (a b:D):R D:=match a,b with
 | .str x,.str y=>match x.cps.toList with | [c]=>.ok (.bl (decide (c∈y.cps.toList))) | _=>.bad
 | a,.tup ds=>match isIn a ds with | some k=>.ok (.bl k) | none=>.bad
 | a,.lst ds=>match isIn a ds with | some k=>.ok (.bl k) | none=>.bad
 | _,_=>.bad
def gF (a b:D):R D:=(oIn a b).bind fun d=>match d with | .bl k=>.ok (.bl (!k)) | _=>.bad
def ixN (n:Nat) (i:Int):Option Nat:=if 0<=i then (if i<n then some i.toNat else none) else if -(n:Int)<=i then some (i+n).toNat else none
def oIx:D->D->R D
 | .tup ds,.int i=>match (ixN ds.length i).bind fun j=>ds[j]? with | some d=>.ok d | none=>.bad
 | .lst ds,.int i=>match (ixN ds.length i).bind fun j=>ds[j]? with | some d=>.ok d | none=>.bad
 | .str x,.int i=>if x.cps.size<=1000000 then (match (ixN x.cps.toList.length i).bind fun j=>x.cps.toList[j]? with | some c=>.ok (.str ⟨#[c]⟩) | none=>.bad) else .bad
 | _,_=>.bad
def sIx (n d:Nat):Option Int->Nat
 | none=>d
 | some i=>if i<0 then (i+n).toNat else min i.toNat n
def cut {α:Type} (xs:List α) (lo hi:Option Int):List α:=(xs.drop (sIx xs.length 0 lo)).take (sIx xs.length xs.length hi - sIx xs.length 0 lo)
def oSl:D->Option Int->Option Int->R D
 | .tup ds,lo,hi=>if sIx ds.length 0 lo=0/\sIx ds.length ds.length hi=ds.length then .bad else .ok (.tup (cut ds lo hi))
 | .lst ds,lo,hi=>.ok (.lst (cut ds lo hi))
 | _,_,_=>.bad
def var (i:Nat):E:=fun δ=>match δ[i]? with
 | some (some (.own _))=>.bad
 | some (some d)=>.ok d
 | _=>.bad
def con (d:D):E:=fun _=>.ok d
def un (f:D->R D) (a:E):E:=fun δ=>(a δ).bind f
def bin (f:D->D->R D) (a b:E):E:=fun δ=>(a δ).bind fun x=>(b δ).bind fun y=>f x y
def truth {β:Type} (d:D) (t f:R β):R β:=match d with
 | .bl true=>t
 | .bl false=>f
 | _=>.bad
def td (a b:E):E:=fun δ=>(a δ).bind fun d=>truth d (b δ) (.ok ↥28)
def or_ (a b:E):E:=fun δ=>(a δ).bind fun d=>truth d (.ok ↥32) (b δ)
def qX (a:E):E:=fun δ=>(a δ).bind fun d=>truth d (.ok ↥28) (.ok ↥32)
def ife (c a b:E):E:=fun δ=>(c δ).bind fun d=>truth d (a δ) (b δ)
def chain (f g:D->D->R D) (a b c:E):E:=fun δ=>(a δ).bind fun x=>(b δ).bind fun y=>(f x y).bind fun d=>truth d ((c δ).bind fun z=>g y z) (.ok ↥28)
def evs:List E->Dt->R (List D)
 | [],_=>.ok []
 | e::es,δ=>(e δ).bind fun d=>(evs es δ).bind fun ds=>.ok (d::ds)
def f9 (es:List E):E:=fun δ=>(evs es δ).bind fun ds=>.ok (.tup ds)
def qY (es:List E):E:=fun δ=>(evs es δ).bind fun ds=>.ok (.lst ds)
def call (f:List D->R D) (es:List E):E:=fun δ=>(evs es δ).bind f
def part:Option E->Dt->R (Option Int)
 | none,_=>.ok none
 | some e,δ=>(e δ).bind fun d=>match d with | .int i=>.ok (some i) | _=>.bad
def slc (a:E) (lo hi:Option E):E:=fun δ=>(a δ).bind fun d=>(part lo δ).bind fun l=>(part hi δ).bind fun h=>oSl d l h
/- data without a list -/
mutual
def D.flat:D->Bool
 | .lst _=>false
 | .own _=>false
 | .tup ds=>D.flats ds
 | .ins _ fs=>D.flatf fs
 | _=>true
def D.flats:List D->Bool
 | []=>true
 | d::r=>D.flat d&&D.flats r
def D.flatf:List (String×D)->Bool
 | []=>true
 | (_,d)::r=>D.flat d&&D.flatf r
end
abbrev IT:=Dt->R (List D)
def p6 (lo hi:Int):List D:=(List.range (hi - lo).toNat).map fun (k:Nat)=>D.int (lo+k)
def asL:D->R (List D)
 | .lst ds=>.ok ds
 | _=>.bad
def asT:D->R (List D)
 | .tup ds=>.ok ds
 | _=>.bad
def asA:D->R (List D)
 | .lst ds=>.ok ds
 | .tup ds=>.ok ds
 | _=>.bad
def KL:D->R (List D)
 | .int hi=>if -(2^62)<=hi/\hi<2^62 then .ok (p6 0 hi) else .bad
 | _=>.bad
def Kn:List D->R (List D)
 | [.int lo,.int hi]=>if -(2^62)<=lo/\lo<2^62 /\ -(2^62)<=hi/\hi<2^62 then .ok (p6 lo hi) else .bad
 | _=>.bad
def MH (lo hi c:Int):List D:=(List.range (if lo<hi then (hi - lo - 1) / c+1 else 0).toNat).map fun (k:Nat)=>D.int (lo+k*c)
def KJ:List D->R (List D)
 | [.int lo,.int hi,.int c]=>if (-(2^40)<=lo/\lo<2^40 /\ -(2^40)<=hi/\hi<2^40)/\0<c/\c<2^20 then .ok (MH lo hi c) else .bad
 | _=>.bad
def itL (g:E):IT:=fun δ=>(g δ).bind asL
def itT (g:E):IT:=fun δ=>(g δ).bind asT
def itA (g:E):IT:=fun δ=>(g δ).bind asA
def Rz (g:E):IT:=fun δ=>(g δ).bind KL
def Me (a b:E):IT:=fun δ=>(evs [a,b] δ).bind Kn
def Ry (a b c:E):IT:=fun δ=>(evs [a,b,c] δ).bind KJ
def oP {α:Type} (r:R α):R α:=match r with
 | .ex _=>.bad
 | r=>r
def inC (ks:List Nat) (δ:Dt) (x:D):Dt:=some x::ks.map fun k=>δ.getD k none
def cD (rs:List D):R D:=if D.flats rs then .ok (.lst rs) else .bad
def runC (st:D->R (Option D)):List D->R (List D)
 | []=>.ok []
 | d::ds=>(st d).bind fun o=>(runC st ds).bind fun rs=>.ok (match o with | some r=>r::rs | none=>rs)
def stC (c elt:E) (ks:List Nat) (δ:Dt) (x:D):R (Option D):=(oP (c (inC ks δ x))).bind fun d=>truth d ((oP (elt (inC ks δ x))).bind fun r=>.ok (some r)) (.ok none)
def fN (it:IT) (ks:List Nat) (c elt:E):E:=fun δ=>(it δ).bind fun ds=>if ds.length<=100000 then (runC (stC c elt ks δ) ds).bind cD else .bad
def comp (it:IT) (ks:List Nat) (elt:E):E:=fN it ks (con ↥32) elt
def v5 (cn f:String):D->R D
 | .ins n fs=>if n == cn then (match fs.lookup f with | some d=>.ok d | none=>.bad) else .bad
 | _=>.bad
def d8 (cn m:String):D->Bool
 | .ins n fs=>n == cn&&(fs.lookup m).isNone
 | _=>false
def G7 (cn m:String) (F:List D->R D) (o:E) (es:List E):E:=fun δ=>(o δ).bind fun d=>if d8 cn m d then (evs es δ).bind fun ds=>F (d::ds) else .bad
def mk1 (cn f:String):List D->R D
 | [d]=>.ok (.ins cn [(f,d)])
 | _=>.bad
def qZ:List D->R D
 | [.lst ds]=>.ok (.int ds.length)
 | [.tup ds]=>.ok (.int ds.length)
 | [.str x]=>if x.cps.size<=1000000 then .ok (.int x.cps.size) else .bad
 | _=>.bad
def Ha:List D->R D
 | [.int i]=>.ok (.int (if i<0 then -i else i))
 | _=>.bad
def Ci:List D->R D
 | [.int i,.int j]=>.ok (.int (if j>i then j else i))
 | _=>.bad
def De:List D->R D
 | [.int i,.int j]=>.ok (.int (if j<i then j else i))
 | _=>.bad
def Pw:List D->R D
 | [.int i]=>.ok (.int i)
 | [.bl k]=>.ok (.int (if k then 1 else 0))
 | _=>.bad
def iJ:List D->R D
 | [.lst ds]=>.ok (.lst ds)
 | [.tup ds]=>.ok (.lst ds)
 | _=>.bad
def intsOf:List D->Option (List Int)
 | []=>some []
 | .int i::r=>(intsOf r).map (i::·)
 | _=>none
def Dd:List D->R D
 | [.lst ds]=>match intsOf ds with | some ns=>.ok (.int (ns.foldl (· + ·) 0)) | none=>.bad
 | _=>.bad
def ji:List D->R D
 | [.int i]=>.ok (.int (nb i))
 | _=>.bad
def aj:List String:=["MillError","NoSize","NoBits","NoParts","NoRank","NotFinite","NoWay","NoFlags","NoFraction","Unlike","Empty","NoLeft","NoText","NoRow","NoName","Stopped"]
def pj (C B:String):Bool:=aj.contains C&&(C == B||B == "MillError")
def tyR (n:String) (b:Bool):R D:=if ["int","bool","str","tuple","list","ValueError"].contains n then .ok (.bl b) else .bad
def RC (B:String):D->R D
 | .exc C=>if aj.contains C&&aj.contains B then .ok (.bl (C == B||B == "MillError")) else .bad
 | .non=>if aj.contains B then .ok ↥28 else .bad
 | _=>.bad
def RB (n:String):D->R D
 | .exc C=>if aj.contains C&&n == "ValueError" then .ok ↥32 else .bad
 | .non=>tyR n false
 | .bl _=>tyR n (n == "int"||n == "bool")
 | .int _=>tyR n (n == "int")
 | .str _=>tyR n (n == "str")
 | .tup _=>tyR n (n == "tuple")
 | .lst _=>tyR n (n == "list")
 | _=>.bad
def jX:List D->R D
 | [d,.cls B]=>RC B d
 | [d,.ty n]=>RB n d
 | _=>.bad
theorem dk (h:(if c=true then R.ok (D.bl x) else .bad)=.ok (.bl k)):c=true/\x=k:=by
 cases c with
 | true=>cases h;exact ⟨rfl,rfl⟩
 | false=>cases h
theorem JJ (e:r=if b=true then R.ok (D.bl x) else .bad):(∃ d' c' k,[d,c]=[d',c']/\r=.ok (.bl k))\/r=.bad:=by
 subst e
 cases b with
 | true=>exact .inl ⟨_,_,_,rfl,rfl⟩
 | false=>exact .inr rfl
def m5 (d:D):List D->R D
 | []=>.ok ↥28
 | c::r=>(jX [d,c]).bind fun x=>truth x (.ok ↥32) (m5 d r)
def MD:List D->R D
 | [d,.tup cs]=>m5 d cs
 | _=>.bad
def noOwn (δ:Dt):Dt:=δ.map fun c=>match c with | some (.own _)=>none | c=>c
def view (δ:Dt):Dt:=δ.map fun c=>match c with | some (.own ds)=>some (.lst ds) | c=>c
def aA:S:=.nx
def asg (i:Nat) (δ:Dt) (r:R D):O:=match r with
 | .ok d=>.nx (δ.set i (some d))
 | .ex C=>.ex C (noOwn δ)
 | .bad=>.bad
def xpr (δ:Dt) (r:R D):O:=match r with
 | .ok _=>.nx δ
 | .ex C=>.ex C (noOwn δ)
 | .bad=>.bad
def rtn (δ:Dt) (r:R D):O:=match r with
 | .ok d=>.rt d
 | .ex C=>.ex C (noOwn δ)
 | .bad=>.bad
def ifO (δ:Dt) (r:R D) (a b:O):O:=match r with
 | .ok ↥32=>a
 | .ok ↥28=>b
 | .ex C=>.ex C (noOwn δ)
 | _=>.bad
def assign (i:Nat) (g:E):S:=fun δ=>asg i δ (g δ)
def expr (g:E):S:=fun δ=>xpr δ (g δ)
def ret (g:E):S:=fun δ=>rtn δ (g δ)
def Qa:S:=fun _=>.rt .non
def P9 (g:E):S:=fun δ=>rtn δ (g (view δ))
def mW (i:Nat):S:=fun δ=>.nx (δ.set i (some (.own [])))
def gB (i:Nat) (δ:Dt) (f:List D->O):O:=match δ[i]? with
 | some (some (.own ds))=>f ds
 | _=>.bad
def Dg (i:Nat) (δ:Dt) (ds:List D) (r:R D):O:=match r with
 | .ok d=>if D.flat d=true/\ds.length<100000 then .nx (δ.set i (some (.own (ds++[d])))) else .bad
 | .ex C=>.ex C (noOwn δ)
 | .bad=>.bad
def fb (i:Nat) (g:E):S:=fun δ=>gB i δ fun ds=>Dg i δ ds (g (view δ))
def IV (i:Nat):S:=fun δ=>gB i δ fun ds=>.nx (δ.set i (some (.own ds.reverse)))
def GV (i:Nat) (δ:Dt) (r:R D):O:=match r with
 | .ok d=>if D.flat d=true then .nx (δ.set i (some d)) else .bad
 | .ex C=>.ex C (noOwn δ)
 | .bad=>.bad
def fP (i:Nat) (g:E):S:=fun δ=>GV i δ (g (view δ))
def C0 (c:E) (a b:S):S:=fun δ=>ifO δ (c (view δ)) (a δ) (b δ)
def AF (i:Nat) (δ:Dt) (r:R D):O:=match r with
 | .ok (.lst rs)=>.nx (δ.set i (some (.own rs)))
 | .ex C=>.ex C (noOwn δ)
 | _=>.bad
def fH (i:Nat) (g:E):S:=fun δ=>AF i δ (g (view δ))
def fG (i:Nat) (g:E):S:=fun δ=>AF i δ (g δ)
def Kx (i:Nat) (δ:Dt) (ds:List D) (v k:R D):O:=match v,k with
 | .ok d,.ok (.int k)=>if D.flat d=true/\0<=k/\k<ds.length then .nx (δ.set i (some (.own (ds.set k.toNat d)))) else .bad
 | _,_=>.bad
def IU (i:Nat) (gk gv:E):S:=fun δ=>gB i δ fun ds=>Kx i δ ds (gv (view δ)) (gk (view δ))
def pub (i:Nat) (δ:Dt):Dt:=match δ[i]? with
 | some (some (.own ds))=>δ.set i (some (.lst ds))
 | _=>δ
def CK (i:Nat) (s:S):S:=fun δ=>s (pub i δ)
def ifs (c:E) (a b:S):S:=fun δ=>ifO δ (c δ) (a δ) (b δ)
def O.then (o:O) (s:S):O:=match o with
 | .nx δ=>s δ
 | o=>o
def seq (a b:S):S:=fun δ=>(a δ).then b
def brk:S:=.bk
def cont:S:=.ct
def raise (C:String):S:=.mk C
def trn (o:O) (k:S):O:=match o with
 | .nx δ1=>k δ1
 | .ct δ1=>k δ1
 | .bk δ1=>.nx δ1
 | o=>o
def forL (i:Nat) (body:S):List D->S
 | [],δ=>.nx δ
 | d::ds,δ=>trn (body (δ.set i (some d))) (forL i body ds)
def ovL (δ:Dt) (r:R D) (k:List D->O):O:=match r with
 | .ok (.lst ds)=>k ds
 | .ex C=>.ex C (noOwn δ)
 | _=>.bad
def ovT (δ:Dt) (r:R D) (k:List D->O):O:=match r with
 | .ok (.tup ds)=>k ds
 | .ex C=>.ex C (noOwn δ)
 | _=>.bad
def Ml (i:Nat) (g:E) (body:S):S:=fun δ=>ovL δ (g δ) fun ds=>forL i body ds δ
def Mj (i:Nat) (g:E) (body:S):S:=fun δ=>ovT δ (g δ) fun ds=>forL i body ds δ
def ovI (δ:Dt) (r:R (List D)) (k:List D->O):O:=match r with
 | .ok ds=>k ds
 | .ex C=>.ex C (noOwn δ)
 | .bad=>.bad
def uu (i:Nat) (it:IT) (body:S):S:=fun δ=>ovI δ (it δ) fun ds=>forL i body ds δ
def ovR (δ:Dt) (r:R D) (k:List D->O):O:=match r with
 | .ok (.int hi)=>if -(2^62)<=hi/\hi<2^62 then k (p6 0 hi) else .bad
 | .ex C=>.ex C (noOwn δ)
 | _=>.bad
def Mm (i:Nat) (b:E) (body:S):S:=fun δ=>ovR δ (b δ) fun ds=>forL i body ds δ
def forget (i:Nat) (o:O):O:=match o with
 | .nx δ=>.nx (δ.set i none)
 | _=>.bad
def Cy (o:O) (B:String) (i:Nat) (suite:S):O:=match o with
 | .nx δ1=>.nx δ1
 | .ex C δ1=>if pj C B then forget i (suite ((noOwn δ1).set i (some (.exc C)))) else .bad
 | _=>.bad
def Kw (body:S) (B:String) (i:Nat) (suite:S):S:=fun δ=>Cy (body δ) B i suite
def O.res:O->R D
 | .rt d=>.ok d
 | .nx _=>.ok .non
 | .ex C _=>.ex C
 | .mk C _=>.ex C
 | .hx C _=>.ex C
 | _=>.bad
def start (n m:Nat) (ds:List D):Dt:=ds.map some++List.replicate (m - n) none
def Good (f:List D->R D):Prop:=∀ ns:List Int,ns.length<=63->(∀ m∈ns,nb m<=2^20)->f [.lst (ns.map .int)]=.ok ↥32
def fn (n m:Nat) (body:S):List D->R D:=fun ds=>if ds.length=n then (body (start n m ds)).res else .bad
end EV
namespace ES
open PySem PySem.Spec PyProof.Rows L2 EV
def Gp (a C:Addr):HO:=.ext fun h=>∃ o vs,h.get? a=some o/\o.cls=.ref C/\o.data=.fields vs
mutual
inductive Rep (K:PySem.W.Frag) (mg:Str->Option Value) (H:Hp):V->D->Prop
 | non:Rep K mg H .non .non
 | bl (b:Bool):Rep K mg H (.bl b) (.bl b)
 | int (i:Int):Rep K mg H (.int i) (.int i)
 | str (x:Str):Rep K mg H (.str x) (.str x)
 | tup {a:Addr} {xs:List V} {ds:List D}:SqT K H a xs->Reps K mg H xs ds->Rep K mg H (.ref a) (.tup ds)
 | lst {a:Addr} {xs:List V} {ds:List D}:SqL K H a xs->Reps K mg H xs ds->Rep K mg H (.ref a) (.lst ds)
 | ty (n:String):Rep K mg H (.ty n) (.ty n)
 | cls {a:Addr} {n:String}:mg n=some (.ref a)->Rep K mg H (.ref a) (.cls n)
 | exc {a C:Addr} {n:String}:mg n=some (.ref C)->H a=some (Gp a C)->Rep K mg H (.ref a) (.exc n)
 | ins {a C dx:Addr} {n:String} {fs:List (Str×V)} {ds:List (String×D)}:mg n=some (.ref C)->H a=some (.ins C dx fs)->Repf K mg H fs ds->Rep K mg H (.ref a) (.ins n ds)
inductive Reps (K:PySem.W.Frag) (mg:Str->Option Value) (H:Hp):List V->List D->Prop
 | nil:Reps K mg H [] []
 | cons {v:V} {d:D} {vs:List V} {ds:List D}:Rep K mg H v d->Reps K mg H vs ds->Reps K mg H (v::vs) (d::ds)
inductive Repf (K:PySem.W.Frag) (mg:Str->Option Value) (H:Hp):List (Str×V)->List (String×D)->Prop
 | nil:Repf K mg H [] []
 | cons {x:String} {v:V} {d:D} {vs:List (Str×V)} {ds:List (String×D)}:Rep K mg H v d->Repf K mg H vs ds->Repf K mg H (((x:Str),v)::vs) ((x,d)::ds)
end
theorem fq {K:PySem.W.Frag} {H H':Hp} {a:Addr} {xs:List V} (e:ao H H') (h:SqT K H a xs):SqT K H' a xs:=by
 rcases h with (h | ⟨o,h⟩) | h
 ·exact .inl (.inl (e _ _ h))
 ·exact .inl (.inr ⟨o,e _ _ h⟩)
 ·exact .inr h
section
variable {K:PySem.W.Frag} {mg:Str->Option Value} {H H':Hp}
mutual
theorem Rep.mono (s:ao H H'):∀ {v:V} {d:D},Rep K mg H v d->Rep K mg H' v d
 | _,_,.non=>.non
 | _,_,.bl b=>.bl b
 | _,_,.int i=>.int i
 | _,_,.str x=>.str x
 | _,_,.tup h r=>.tup (fq s h) (Reps.mono s r)
 | _,_,.lst h r=>.lst (s.seq h) (Reps.mono s r)
 | _,_,.ty n=>.ty n
 | _,_,.cls h=>.cls h
 | _,_,.exc h e=>.exc h (s _ _ e)
 | _,_,.ins h e r=>.ins h (s _ _ e) (Repf.mono s r)
theorem Reps.mono (s:ao H H'):∀ {vs:List V} {ds:List D},Reps K mg H vs ds->Reps K mg H' vs ds
 | _,_,.nil=>.nil
 | _,_,.cons r t=>.cons (Rep.mono s r) (Reps.mono s t)
theorem Repf.mono (s:ao H H'):∀ {vs:List (Str×V)} {ds:List (String×D)},Repf K mg H vs ds->Repf K mg H' vs ds
 | _,_,.nil=>.nil
 | _,_,.cons r t=>.cons (Rep.mono s r) (Repf.mono s t)
end
theorem Reps.length:∀ {vs:List V} {ds:List D},Reps K mg H vs ds->vs.length=ds.length
 | _,_,.nil=>rfl
 | _,_,.cons _ t=>congrArg (· + 1) (Reps.length t)
theorem Reps.get:∀ {vs:List V} {ds:List D} {i:Nat} {d:D},Reps K mg H vs ds->ds[i]? = some d->∃ v,vs[i]? = some v/\Rep K mg H v d
 | _,_,_,_,.nil,e=>by simp at e
 | _,_,0,_,.cons r _,e=>by simp at e;subst e;exact ⟨_,rfl,r⟩
 | _,_,i+1,d,.cons _ t,e=>by
  obtain ⟨v,h1,h2⟩:=Reps.get (i:=i) (d:=d) t (by simpa using e)
  exact ⟨v,by simpa using h1,h2⟩
theorem Reps.append:∀ {vs ws:List V} {ds es:List D},Reps K mg H vs ds->Reps K mg H ws es->Reps K mg H (vs++ws) (ds++es)
 | _,_,_,_,.nil,s=>s
 | _,_,_,_,.cons r t,s=>.cons r (Reps.append t s)
theorem Reps.take:∀ {vs:List V} {ds:List D} (n:Nat),Reps K mg H vs ds->Reps K mg H (vs.take n) (ds.take n)
 | _,_,0,_=>.nil
 | _,_,_+1,.nil=>.nil
 | _,_,n+1,.cons r t=>.cons r (Reps.take n t)
theorem Reps.drop:∀ {vs:List V} {ds:List D} (n:Nat),Reps K mg H vs ds->Reps K mg H (vs.drop n) (ds.drop n)
 | _,_,0,r=>r
 | _,_,_+1,.nil=>.nil
 | _,_,n+1,.cons _ t=>Reps.drop n t
theorem Reps.ints (ns:List Int):Reps K mg H (ns.map V.int) (ns.map D.int):=by
 induction ns with
 | nil=>exact .nil
 | cons n r ih=>exact .cons (.int n) ih
theorem kT {x y:String} (h:(Str.ofString x)=Str.ofString y):x=y:=by
 rw [Str.ofString_eq_toList,Str.ofString_eq_toList] at h
 have h1:(x.toList.map Char.toNat).toArray=(y.toList.map Char.toNat).toArray:=congrArg Str.cps h
 have h2:x.toList.map Char.toNat=y.toList.map Char.toNat:=by simpa using h1
 have h3:∀ (l m:List Char),l.map Char.toNat=m.map Char.toNat->l=m:=by
  intro l
  induction l with
  | nil=>intro m e;cases m with | nil=>rfl | cons _ _=>cases e
  | cons c r ih =>
   intro m e
   cases m with
   | nil=>cases e
   | cons c' r' =>
    rw [List.map_cons,List.map_cons,List.cons.injEq] at e
    rw [Char.ext (UInt32.toNat_inj.mp e.1),ih r' e.2]
 exact String.toList_inj.mp (h3 _ _ h2)
theorem qh (x y:String):((Str.ofString x) == Str.ofString y)=(x == y):=by
 rw [Bool.eq_iff_iff,beq_iff_eq,beq_iff_eq]
 exact ⟨kT,fun e=>by rw [e]⟩
theorem Repf.lookup:∀ {fs:List (Str×V)} {ds:List (String×D)} {x:String} {d:D},Repf K mg H fs ds->ds.lookup x=some d->∃ v,fs.lookup (x:Str)=some v/\Rep K mg H v d
 | _,_,_,_,.nil,e=>by cases e
 | (_,v)::fs,(y,d')::ds,x,d,.cons r t,e=>by
  rw [List.lookup_cons] at e ⊢
  rw [qh]
  cases q:(x == y) with
  | true =>
   rw [q] at e
   have e':d'=d:=by simpa using e
   subst e'
   exact ⟨v,rfl,r⟩
  | false=>rw [q] at e;exact Repf.lookup t e
theorem Repf.lookupN:∀ {fs:List (Str×V)} {ds:List (String×D)} {x:String},Repf K mg H fs ds->ds.lookup x=none->fs.lookup (x:Str)=none
 | _,_,_,.nil,e=>rfl
 | (_,v)::fs,(y,d')::ds,x,.cons r t,e=>by
  rw [List.lookup_cons] at e ⊢
  rw [qh]
  cases q:(x == y) with
  | true=>rw [q] at e;cases e
  | false=>rw [q] at e;exact Repf.lookupN t e
end
def Stt (K:PySem.W.Frag) (mg:Str->Option Value) (H:Hp) (σ:L2.St) (δ:Dt):Prop :=
 σ.length=δ.length/\∀ (i:Nat) (d:D),δ[i]? = some (some d)->(∀ ds,d ≠ .own ds)->∃ v,σ[i]? = some (some v)/\Rep K mg H v d
theorem Stt.mono {K:PySem.W.Frag} {mg:Str->Option Value} {H H':Hp} {σ:L2.St} {δ:Dt} (h:Stt K mg H σ δ) (s:ao H H'):Stt K mg H' σ δ :=
 ⟨h.1,fun i d e n=>let ⟨v,a,b⟩:=h.2 i d e n;⟨v,a,b.mono s⟩⟩
theorem Stt.set {K:PySem.W.Frag} {mg:Str->Option Value} {H:Hp} {σ:L2.St} {δ:Dt} {i:Nat} {v:V} {d:D} (h:Stt K mg H σ δ) (r:Rep K mg H v d):Stt K mg H (σ.set i (some v)) (δ.set i (some d)):=by
 refine ⟨by rw [List.length_set,List.length_set];exact h.1,fun j d' e n => ?_⟩
 by_cases hj:j=i
 ·subst hj
  by_cases hl:j<δ.length
  ·rw [List.getElem?_set_self hl] at e
   cases e
   exact ⟨v,by rw [List.getElem?_set_self (by rw [h.1];exact hl)],r⟩
  ·rw [List.getElem?_eq_none (by simp;omega)] at e
   cases e
 ·rw [List.getElem?_set_ne (Ne.symm hj)] at e
  obtain ⟨u,a,b⟩:=h.2 j d' e n
  exact ⟨u,by rw [List.getElem?_set_ne (Ne.symm hj)];exact a,b⟩
structure FlyX (P:Program) (w:World) (outer:List Env) (H:Hp) (s:Shared) (C:Addr) (H':Hp) (ea:Addr) (s':Shared):Prop where
 os:s'.os=s.os
 bare:AllBare s'.gens
 un:Un (frs outer) [] H H' s.heap s'.heap
 hok:HOk P w H' s'.heap
 same:ao H H'
 new:s.heap.get? ea=none
 fly:∃ a0 B,Heap.FlyingW B outer ea (.ref C) a0 s'.heap/\(∀ b o,s.heap.get? b=some o->H b=none->b∉frs outer->B.get? b=some o)/\(∀ b u o,H' b=some u->s'.heap.get? b=some o->B.get? b=some o)
def ew (X:Cx) (C:Addr) (σ:L2.St) (H':Hp):Prop:=∀ pins H s ea s',Inv X pins σ H s->FlyX X.prog X.w X.stack H s C H' ea s'->X.xe (.ref ea) s'
def em (X:Cx) (C:Addr) (σ:L2.St) (H':Hp):Prop:=∀ pins s h' ea vs,Inv X pins σ H' s->Heap.MadeExcOf s.heap h' ea (.ref C) vs->X.xe (.ref ea) { s with heap:=h' }
structure HeldX (X:Cx) (pins:List ↥10) (σ:L2.St) (C:Addr) (H':Hp) (ea:Addr) (s':Shared):Prop where
 inv:Inv X pins σ H' s'
 new:X.s₀.heap.get? ea=none
 fly:∃ a0 B,Heap.HeldW B X.stack ea (.ref C) a0 X.env.locals s'.heap/\(∀ b o,X.s₀.heap.get? b=some o->X.H₀ b=none->b∉X.fs->B.get? b=some o)/\(∀ b u o,H' b=some u->s'.heap.get? b=some o->B.get? b=some o)
def ehx (X:Cx) (C:Addr) (σ:L2.St) (H':Hp):Prop:=∀ pins ea s',HeldX X pins σ C H' ea s'->X.xe (.ref ea) s'
def RQ (X:Cx) (σ:L2.St) (H:Hp) (r:R D) (Q:VK):Prop:=match r with
 | .ok d=>∀ v H',ao H H'->Rep X.K X.mg H' v d->Q v H'
 | .ex C=>∀ Ca,X.mg C=some (.ref Ca)->∀ H',ao H H'->ew X Ca σ H'
 | .bad=>False
def tE (X:Cx) (g:E):TE:=fun σ H Q=>∃ δ,Stt X.K X.mg H σ δ/\RQ X σ H (g δ) Q
@[irreducible] def SE (X:Cx) (e:Expr) (g:E):Prop:=PE X e (tE X g)
def RT (X:Cx) (σ:L2.St) (H:Hp) (r:R D) (Q:Bool->Hp->Prop):Prop:=match r with
 | .ok (.bl b)=>∀ H',ao H H'->Q b H'
 | .ex C=>∀ Ca,X.mg C=some (.ref Ca)->∀ H',ao H H'->ew X Ca σ H'
 | _=>False
def tT (X:Cx) (g:E):TT:=fun σ H Q=>∃ δ,Stt X.K X.mg H σ δ/\RT X σ H (g δ) Q
@[irreducible] def ST (X:Cx) (e:Expr) (g:E):Prop:=PT X e (tT X g)
@[irreducible] def SW (X:Cx) (e:Expr) (g:E):Prop:=PW X e (tT X g)
def RA (X:Cx) (σ:L2.St) (H:Hp) (r:R (List D)) (Q:List V->Hp->Prop):Prop:=match r with
 | .ok ds=>∀ vs H',ao H H'->Reps X.K X.mg H' vs ds->Q vs H'
 | .ex C=>∀ Ca,X.mg C=some (.ref Ca)->∀ H',ao H H'->ew X Ca σ H'
 | .bad=>False
def tAs (X:Cx) (gs:List E):TA:=fun σ H Q=>∃ δ,Stt X.K X.mg H σ δ/\RA X σ H (evs gs δ) Q
@[irreducible] def SA (X:Cx) (es:List Expr) (gs:List E):Prop:=PA X es (tAs X gs)
unseal SE ST SW SA
section
variable {X:Cx} {σ:L2.St} {H H1:Hp}
theorem PE.weak (h:PE X e t) (w:∀ σ H Q,t' σ H Q->t σ H Q):PE X e t':=fun pins s σ H Q I q=>h pins s σ H Q I (w σ H Q q)
theorem PT.weak (h:PT X e t) (w:∀ σ H Q,t' σ H Q->t σ H Q):PT X e t':=fun pins s σ H Q I q=>h pins s σ H Q I (w σ H Q q)
theorem PW.weak (h:PW X e t) (w:∀ σ H Q,t' σ H Q->t σ H Q):PW X e t':=fun wh pins s σ H Q I q=>h wh pins s σ H Q I (w σ H Q q)
theorem PA.weak (h:PA X es t) (w:∀ σ H Q,t' σ H Q->t σ H Q):PA X es t':=fun pos pins s σ H Q I q=>h pos pins s σ H Q I (w σ H Q q)
theorem PS.weak {st:Stmt} {t t':TS} (h:PS X st t) (w:∀ D σ H,t' D σ H->t D σ H):PS X st t':=fun pins s σ H D I q=>h pins s σ H D I (w D σ H q)
theorem PSs.weak {st:List Stmt} {t t':TS} (h:PSs X st t) (w:∀ D σ H,t' D σ H->t D σ H):PSs X st t':=fun pins s σ H D I q=>h pins s σ H D I (w D σ H q)
theorem RQ.to (h:RQ X σ H r Q) (g:∀ v H',ao H H'->Q v H'->Q' v H'):RQ X σ H r Q':=by
 cases r with
 | ok d=>exact fun v H' s r=>g v H' s (h v H' s r)
 | ex C=>exact h
 | bad=>exact h
theorem RQ.mono (s:ao H H1) (h:RQ X σ H r Q):RQ X σ H1 r Q:=by
 cases r with
 | ok d=>exact fun v H' s' r=>h v H' (s.trans s') r
 | ex C=>exact fun Ca hc H' s'=>h Ca hc H' (s.trans s')
 | bad=>exact h
theorem RT.mono (s:ao H H1) (h:RT X σ H r Q):RT X σ H1 r Q:=by
 cases r with
 | ok d =>
  cases d with
  | bl b=>exact fun H' s'=>h H' (s.trans s')
  | _=>exact False.elim h
 | ex C=>exact fun Ca hc H' s'=>h Ca hc H' (s.trans s')
 | bad=>exact h
theorem RQ.bind (h:RQ X σ H (r.bind f) Q):RQ X σ H r (fun v H'=>ao H H'/\∃ d,Rep X.K X.mg H' v d/\RQ X σ H' (f d) Q):=by
 cases r with
 | ok d=>exact fun v H' s r=>⟨s,d,r,h.mono s⟩
 | ex C=>exact h
 | bad=>exact h
theorem RA.bind (h:RQ X σ H (r.bind f) Q):RA X σ H r (fun vs H'=>ao H H'/\∃ ds,Reps X.K X.mg H' vs ds/\RQ X σ H' (f ds) Q):=by
 cases r with
 | ok d=>exact fun v H' s r=>⟨s,d,r,h.mono s⟩
 | ex C=>exact h
 | bad=>exact h
theorem RT.bind (h:RT X σ H (r.bind f) Q):RQ X σ H r (fun v H'=>ao H H'/\∃ d,Rep X.K X.mg H' v d/\RT X σ H' (f d) Q):=by
 cases r with
 | ok d=>exact fun v H' s r=>⟨s,d,r,h.mono s⟩
 | ex C=>exact h
 | bad=>exact False.elim h
end
structure Sc (X:Cx) (N:List Str):Prop where
 n:X.N=N
 nd:N.Nodup
 vis:∀ x∈N,Vis X.env.scope x
 dbg:∀ x∈N,↥35=false/\(x == ("__classdict__":Str))=false
def Sto (X:Cx) (x:Str):Prop:=Loc X.env.scope x/\(X.fn x=true\/X.env.scope.names.lookup x=some .local)
structure Gb (X:Cx) (x:Str):Prop where
 g:X.env.scope.names.lookup x=some .globalImplicit
 d:↥35=false
 n:x≠"__name__"
section
variable {X:Cx} {N:List Str} {pos:Pos} {a b c e:Expr} {ga gb gc g:E}
theorem dn (S:Sc X N) (i:Nat) (hN:N[i]? = some x):SE X (.Name x pos) (var i):=by
 have hm:x∈N:=List.mem_of_getElem? hN
 refine PE.weak (ip (i:=i) (by rw [S.n];exact hN) (S.vis x hm) (S.dbg x hm).1 (S.dbg x hm).2) fun σ H Q ⟨δ,hσ,h⟩ => ?_
 unfold var at h
 split at h
 ·exact False.elim h
 ·rename_i d _ hd
  obtain ⟨v,e,r⟩:=hσ.2 i d hd (by intro ds z;subst z;rename_i q;exact q ds rfl)
  exact ⟨v,e,h v H (ao.refl H) r⟩
 ·exact False.elim h
theorem qs (h:PE X e (tC v)) (r:∀ H,Rep X.K X.mg H v d):SE X e (con d):=PE.weak h fun σ H Q ⟨δ,hσ,q⟩=>q _ H (ao.refl H) (r H)
theorem af {i j}:SE X (.Constant (.int i) j pos) (con (.int i)):=qs xv fun _=>.int i
theorem vO {b j}:SE X (.Constant (.bool b) j pos) (con (.bl b)):=qs LJ fun _=>.bl b
theorem vN {j}:SE X (.Constant .none j pos) (con .non):=qs IM fun _=>.non
theorem cY {x j}:SE X (.Constant (.str x) j pos) (con (.str x)):=qs CN fun _=>.str x
theorem gH (G:Gb X x) (h:∃ t,X.mg x=some (.int i t)):SE X (.Name x pos) (con (.int i)):=by
 obtain ⟨t,h⟩:=h
 exact qs (rO (v:=.int i) G.g h ⟨t,rfl⟩ G.d) fun _=>.int i
theorem J3 {x:String} {C:Addr} (G:Gb X x) (h:X.mg x=some (.ref C)):SE X (.Name x pos) (con (.cls x)):=qs (rO (v:=.ref C) G.g h rfl G.d) fun _=>.cls h
theorem JZ (G:Gb X x) (h:X.mg x=none) (hv:bootBuiltins x=some (.type n)):SE X (.Name x pos) (con (.ty n)) :=
 qs (EX (v:=.ty n) G.g h hv rfl G.n G.d) fun _=>.ty n
def rD (X:Cx) (f:D->D->R D):R2:=fun x y H Q=>∃ dx dy d,Rep X.K X.mg H x dx/\Rep X.K X.mg H y dy/\f dx dy=.ok d/\∀ v H',ao H H'->Rep X.K X.mg H' v d->Q v H'
def jk (f:D->D->R D):Prop:=∀ x y C,f x y ≠ .ex C
theorem RQ.op (nx:jk f) (r1:Rep X.K X.mg H x dx) (r2:Rep X.K X.mg H y dy) (h:RQ X σ H (f dx dy) Q):rD X f x y H Q:=by
 cases e:f dx dy with
 | ok d=>rw [e] at h;exact ⟨dx,dy,d,r1,r2,e,h⟩
 | ex C=>exact absurd e (nx dx dy C)
 | bad=>rw [e] at h;exact False.elim h
theorem zd (h:tE X (EV.bin f ga gb) σ H Q):tE X ga σ H fun x H1=>tE X gb σ H1 fun y H2=>∃ dx dy,Rep X.K X.mg H2 x dx/\Rep X.K X.mg H2 y dy/\RQ X σ H2 (f dx dy) Q:=by
 obtain ⟨δ,hσ,h⟩:=h
 refine ⟨δ,hσ,(RQ.bind h).to fun x H1 s1 ⟨_,dx,r1,h1⟩ => ?_⟩
 refine ⟨δ,hσ.mono s1,(RQ.bind h1).to fun y H2 s2 ⟨_,dy,r2,h2⟩ => ?_⟩
 exact ⟨dx,dy,r1.mono s2,r2,h2⟩
theorem lK (nx:jk f) (ho:OpR X (binaryOp op) (rD X f)) (ha:SE X a ga) (hb:SE X b gb):SE X (.BinOp a op b pos) (EV.bin f ga gb) :=
 PE.weak (LI ho ha hb) fun σ H Q h=>by
  obtain ⟨δ,hσ,q⟩:=zd h
  refine ⟨δ,hσ,q.to fun x H1 s1 ⟨δ1,hσ1,q1⟩=>⟨δ1,hσ1,q1.to fun y H2 s2 ⟨dx,dy,r1,r2,q2⟩=>RQ.op nx r1 r2 q2⟩⟩
theorem B1 (nx:jk f) (ho:OpR X (compareOp op) (rD X f)) (ha:SE X a ga) (hb:SE X b gb) (hm:behindInMarks op b=false):SE X (.Compare a [op] [b] pos) (EV.bin f ga gb) :=
 PE.weak (EW ho ha hb hm) fun σ H Q h=>by
  obtain ⟨δ,hσ,q⟩:=zd h
  refine ⟨δ,hσ,q.to fun x H1 s1 ⟨δ1,hσ1,q1⟩=>⟨δ1,hσ1,q1.to fun y H2 s2 ⟨dx,dy,r1,r2,q2⟩=>RQ.op nx r1 r2 q2⟩⟩
theorem GF (h:tT X (EV.bin f ga gb) σ H Q):tE X ga σ H fun x H1=>tE X gb σ H1 fun y H2=>∃ dx dy,Rep X.K X.mg H2 x dx/\Rep X.K X.mg H2 y dy/\RT X σ H2 (f dx dy) Q:=by
 obtain ⟨δ,hσ,h⟩:=h
 refine ⟨δ,hσ,(RT.bind h).to fun x H1 s1 ⟨_,dx,r1,h1⟩ => ?_⟩
 refine ⟨δ,hσ.mono s1,(RT.bind h1).to fun y H2 s2 ⟨_,dy,r2,h2⟩ => ?_⟩
 exact ⟨dx,dy,r1.mono s2,r2,h2⟩
theorem RT.op (nx:jk f) (r1:Rep X.K X.mg H x dx) (r2:Rep X.K X.mg H y dy) (h:RT X σ H (f dx dy) Q):rD X f x y H fun v H'=>∃ k,v=.bl k/\Q k H':=by
 cases e:f dx dy with
 | ok d =>
  rw [e] at h
  cases d with
  | bl k=>exact ⟨dx,dy,_,r1,r2,e,fun v H' s r=>by cases r;exact ⟨k,rfl,h H' s⟩⟩
  | _=>exact False.elim h
 | ex C=>exact absurd e (nx dx dy C)
 | bad=>rw [e] at h;exact False.elim h
theorem rm (nx:jk f) (ho:OpR X (compareOp op) (rD X f)) (ha:SE X a ga) (hb:SE X b gb) (hm:behindInMarks op b=false):ST X (.Compare a [op] [b] pos) (EV.bin f ga gb) :=
 PT.weak (rL ho ha hb hm) fun σ H Q h=>by
  obtain ⟨δ,hσ,q⟩:=GF h
  refine ⟨δ,hσ,q.to fun x H1 s1 ⟨δ1,hσ1,q1⟩=>⟨δ1,hσ1,q1.to fun y H2 s2 ⟨dx,dy,r1,r2,q2⟩=>RT.op nx r1 r2 q2⟩⟩
theorem qc {F:Value->Value->Sem Value} {f:D->D->R D} {C:Int->Int->Prop} {g:Int->Int->Int} (ho:OpR X F (rI C fun i j=>.int (g i j)))
  (hf:∀ dx dy d,f dx dy=.ok d->∃ i j,dx=.int i/\dy=.int j/\C i j/\d=.int (g i j)):OpR X F (rD X f):=by
 intro pins s σ H x y v u Q I rx ry ⟨dx,dy,d,r1,r2,e,q⟩
 obtain ⟨i,j,rfl,rfl,hc,rfl⟩:=hf dx dy d e
 cases r1
 cases r2
 exact ho pins s σ H _ _ v u Q I rx ry ⟨i,j,rfl,rfl,hc,q _ _ ↥21 (.int _)⟩
theorem oI {F:Value->Value->Sem Value} {f:D->D->R D} {g:Int->Int->Int} (ho:OpR X F (rI0 fun i j=>.int (g i j)))
  (hf:∀ dx dy d,f dx dy=.ok d->∃ i j,dx=.int i/\dy=.int j/\d=.int (g i j)):OpR X F (rD X f):=by
 intro pins s σ H x y v u Q I rx ry ⟨dx,dy,d,r1,r2,e,q⟩
 obtain ⟨i,j,rfl,rfl,rfl⟩:=hf dx dy d e
 cases r1
 cases r2
 exact ho pins s σ H _ _ v u Q I rx ry ⟨i,j,rfl,rfl,q _ _ ↥21 (.int _)⟩
theorem tV {F:Value->Value->Sem Value} {f:D->D->R D} {g:Int->Int->Bool} (ho:OpR X F (rI0 fun i j=>.bl (g i j)))
  (hf:∀ dx dy d,f dx dy=.ok d->∃ i j,dx=.int i/\dy=.int j/\d=.bl (g i j)):OpR X F (rD X f):=by
 intro pins s σ H x y v u Q I rx ry ⟨dx,dy,d,r1,r2,e,q⟩
 obtain ⟨i,j,rfl,rfl,rfl⟩:=hf dx dy d e
 cases r1
 cases r2
 exact ho pins s σ H _ _ v u Q I rx ry ⟨i,j,rfl,rfl,q _ _ ↥21 (.bl _)⟩
end
theorem ye (i:Int):nb i=Builtin.Int.intBits i:=by
 unfold nb Builtin.Int.intBits
 by_cases h:i=0
 ·rw [if_pos h,if_pos (by rw [h];rfl)]
 ·rw [if_neg h,if_neg (by simpa using h)]
theorem BB {i j:Int} (h:MulOk i j):IntMulOk i j:=IntMulOk.of_le (m:=nb i) (n:=nb j) (Nat.le_of_eq (ye i).symm) (Nat.le_of_eq (ye j).symm) h
def Lz (K:PySem.W.Frag):R2:=fun x y H Q=>∃ a b xs ys,x=.ref a/\y=.ref b/\SqL K H a xs/\SqL K H b ys/\xs.length+ys.length<=sizeLine/\∀ p,H p=none->Q (.ref p) (upd H p (.lst (xs++ys)))
section
variable {X:Cx}
theorem ar (h:H p=none) (o:HO):ao H (upd H p o):=fun b u q=>by rw [aB (bR q h)];exact q
theorem yp (l b:Addr) (xs ys:Array Value) (n m:Nat) (d1 d2:Option Addr) (s1 s2:Array (Option Value)) (hz:xs.size+ys.size<=sizeLine) :
  Meets (Builtin.«list.__add__» ⟨[.ref l,.ref b],[]⟩) (fun _ R s=>s.heap.get? l=some { cls:=.type "list",dict:=d1,data:=.seq xs n,slots:=s1 }/\s.heap.get? b=some { cls:=.type "list",dict:=d2,data:=.seq ys m,slots:=s2 } /\
   R (.ok (.ret (Value.ref s.heap.objs.size))) { s with heap:=s.heap.push { cls:=.type "list",data:=.seq (xs++ys) } }) :=
 .of_wp fun prog w A R s h=>by
  obtain ⟨hp,g,dd,tk,os⟩:=s
  obtain ⟨ha,hb,h⟩:=h
  have f3:=AutoSeq1.sub_list_list
  wp_walk using AutoSeq1.wpAny_loadPart' ha,AutoSeq1.wpAny_loadPart' hb
  exact ⟨_,rfl,h⟩
theorem Fe:OpR X (binaryOp .Add) (Lz X.K):=by
 intro pins s σ H x y v u Q I rx ry h
 obtain ⟨l,b,xs,zs,rfl,rfl,hH,hB,hz,q⟩:=h
 cases rx
 cases ry
 obtain ⟨its,r,⟨⟨c1,d1,t1,s1⟩,n,e,g1,g2,g3⟩,_⟩:=I.list hH
 obtain ⟨its2,r2,⟨⟨c2,d2,t2,s2⟩,n2,e2,k1,k2,k3⟩,_⟩:=I.list hB
 simp only at g1 g2 g3 k1 k2 k3
 subst g1 g2 g3 k1 k2 k3
 have hl:=r.length
 have hl2:=r2.length
 refine concat_meets ⟨_,e,rfl⟩ ⟨_,e2,rfl⟩ noFill_list_add seq_list_add F.slot_list_add F.entry_list_add (F.args_list_add_2 _ _) (yp l b its.toArray its2.toArray n n2 _ _ _ _ (by rw [List.size_toArray,List.size_toArray];omega)) ⟨e,e2,?_⟩
 have ea:its.toArray++its2.toArray=(its++its2).toArray:=by simp
 rw [ea]
 exact ⟨.ref _,_,I.lnew (t':=s.toks) (r.append r2) (by rw [List.length_append];omega),rfl,q _ I.fresh⟩
theorem d6 [Decidable c]:(if c then R.ok d else R.bad)≠R.ex C:=by split<;>exact fun z=>nomatch z
theorem Mb:jk cA:=fun x y C z=>by unfold cA at z;split at z<;>first | cases z | exact d6 z
theorem Fh:OpR X (binaryOp .Add) (rD X cA):=by
 intro pins s σ H x y v u Q I rx ry ⟨dx,dy,d,r1,r2,e,q⟩
 unfold cA at e
 split at e
 ·cases e;cases r1;cases r2
  exact Jk pins s σ H _ _ v u Q I rx ry ⟨_,_,rfl,rfl,q _ _ ↥21 (.int _)⟩
 ·split at e
  ·rename_i hz
   cases e;cases r1;cases r2
   exact vx pins s σ H _ _ v u Q I rx ry ⟨_,_,rfl,rfl,Nat.le_trans hz (by rw [sizeLine_eq];decide),q _ _ ↥21 (.str _)⟩
  ·cases e
 ·split at e
  ·rename_i hz
   cases e;cases r1;cases r2
   rename_i a xs h1 r1 b ys h2 r2
   exact Fe pins s σ H _ _ v u Q I rx ry ⟨a,b,xs,ys,rfl,rfl,h1,h2,by rw [r1.length,r2.length];exact Nat.le_trans hz (by rw [sizeLine_eq];decide),fun p hp=>q _ _ (ar hp _) (.lst (SqL.of au) ((r1.append r2).mono (ar hp _)))⟩
  ·cases e
 ·split at e
  ·rename_i hz
   cases e;cases r1;cases r2
   rename_i a xs h1 r1 b ys h2 r2
   refine Fd pins s σ H _ _ v u Q I rx ry ⟨a,b,xs,ys,rfl,rfl,h1,h2,fun z=>hz.1 ?_,by rw [r1.length,r2.length];exact Nat.le_trans hz.2 (by rw [sizeLine_eq];decide),fun z=>q _ _ ↥21 ?_,fun _ p hp=>q _ _ (ar hp _) (.tup (SqT.of au) ((r1.append r2).mono (ar hp _)))⟩
   ·subst z
    cases r1;rfl
   ·subst z
    cases r2
    rw [List.append_nil]
    exact .tup h1 r1
  ·cases e
 ·cases e
theorem LU:jk eA:=fun x y C z=>by unfold eA at z;split at z<;>cases z
theorem EZ:OpR X (binaryOp .Sub) (rD X eA):=oI Jc fun dx dy d e=>by
 unfold eA at e;split at e
 ·cases e;exact ⟨_,_,rfl,rfl,rfl⟩
 ·cases e
theorem LY:jk oJ:=fun x y C z=>by unfold oJ at z;split at z<;>first | cases z | exact d6 z
theorem E7:OpR X (binaryOp .Mult) (rD X oJ):=qc (C:=IntMulOk) (opI fun _ _ _ _ _ _ _ hc q=>mul_int q hc) fun dx dy d e=>by
 unfold oJ at e;split at e
 ·split at e
  ·rename_i h;cases e;exact ⟨_,_,rfl,rfl,BB h,rfl⟩
  ·cases e
 ·cases e
theorem L8:jk oDiv:=fun x y C z=>by unfold oDiv at z;split at z<;>first | cases z | exact d6 z
theorem Rh (h:jZ i j):Builtin.divisionGoesByPylong i j=false:=by
 obtain ⟨h0,h⟩:=h
 show (decide ((if j == 0 then 0 else j.natAbs.log2 / 30+1)>300)&&decide ((if i == 0 then 0 else i.natAbs.log2 / 30+1)>(if j == 0 then 0 else j.natAbs.log2 / 30+1)+150))=false
 have ej:(j == 0)=false:=by simp;omega
 unfold nb at h
 rw [if_neg (by omega:¬ j=0)] at h
 rw [ej]
 simp only [Bool.false_eq_true,if_false]
 rw [Bool.and_eq_false_iff,decide_eq_false_iff_not,decide_eq_false_iff_not]
 by_cases hi:i=0
 ·rw [if_pos (by simp [hi])];omega
 ·rw [if_neg (by simp [hi])]
  rw [if_neg hi] at h
  omega
theorem E9:OpR X (binaryOp .FloorDiv) (rD X oDiv):=qc (C:=jZ) (g:=fun i j=>i / j) (opI fun i j _ _ _ _ _ hc q=>by
  have h1:(0:Int)<j:=hc.1
  exact floordiv_int ⋯ (by rw [Int.fdiv_eq_ediv_of_nonneg i ⋯];exact q) (.inl (Rh hc))) fun dx dy d e=>by
 unfold oDiv at e;split at e
 ·split at e
  ·rename_i h;cases e;exact ⟨_,_,rfl,rfl,h,rfl⟩
  ·cases e
 ·cases e
theorem LZ:jk oMod:=fun x y C z=>by unfold oMod at z;split at z<;>first | cases z | exact d6 z
theorem E8:OpR X (binaryOp .Mod) (rD X oMod):=qc (C:=fun _ j=>0<j) (g:=fun i j=>i%j) Jf fun dx dy d e=>by
 unfold oMod at e;split at e
 ·split at e
  ·rename_i h;cases e;exact ⟨_,_,rfl,rfl,h,rfl⟩
  ·cases e
 ·cases e
theorem LW:jk d5:=fun x y C z=>by unfold d5 at z;split at z<;>first | cases z | exact d6 z
theorem E3:OpR X (binaryOp .LShift) (rD X d5):=qc (C:=fun i j=>0<=j/\(nb i:Int)+j<=134217728) (g:=fun i j=>i*pw j) (opI fun _ _ _ _ _ _ _ hc q=>lshift_int hc.1 (by rw [<- ye];exact hc.2) q) fun dx dy d e=>by
 unfold d5 at e;split at e
 ·split at e
  ·rename_i h;cases e;exact ⟨_,_,rfl,rfl,h,rfl⟩
  ·cases e
 ·cases e
theorem LV:jk Be:=fun x y C z=>by unfold Be at z;split at z<;>first | cases z | exact d6 z
theorem E1:OpR X (binaryOp .RShift) (rD X Be):=qc (C:=fun _ j=>0<=j) (g:=fun i j=>i / 2^j.toNat) Jd fun dx dy d e=>by
 unfold Be at e;split at e
 ·split at e
  ·rename_i h;cases e;exact ⟨_,_,rfl,rfl,h,rfl⟩
  ·cases e
 ·cases e
theorem Jt:jk mF:=fun x y C z=>by unfold mF at z;split at z<;>first | cases z | exact d6 z
theorem L9:jk CS:=fun x y C z=>by unfold CS at z;split at z<;>first | cases z | exact d6 z
theorem Js:jk rW:=fun x y C z=>by unfold rW at z;split at z<;>first | cases z | exact d6 z
theorem zg (hi:0<=i) (hj:0<=j):Builtin.bitAnd i j=((i.toNat &&& j.toNat:Nat):Int):=by
 unfold Builtin.bitAnd
 rw [decide_eq_true hi,decide_eq_true hj]
theorem uF {i j:Int} (hi:0<=i) (hj:0<=j):Builtin.bitOr i j=((i.toNat ||| j.toNat:Nat):Int):=by
 unfold Builtin.bitOr Builtin.bitAnd Builtin.bitNot
 have h1:decide (0 <= -i - 1)=false:=decide_eq_false ⋯
 have h2:decide (0 <= -j - 1)=false:=decide_eq_false ⋯
 rw [h1,h2]
 dsimp only
 rw [show -(-i - 1) - 1=i by omega,show -(-j - 1) - 1=j by omega]
 omega
theorem vv (x:Nat):∀ y:Nat,x ||| y=(x ^^^ y)+(x &&& y):=by
 induction x using Nat.strongRecOn with
 | ind x ih =>
  intro y
  by_cases h0:x=0
  ·subst h0;simp
  ·have z:=ih (x / 2) ⋯ (y / 2)
   rw [<- Nat.or_div_two,<-Nat.xor_div_two,<-Nat.and_div_two] at z
   have m1 := @Nat.or_mod_two_eq_one x y
   have m2 := @Nat.xor_mod_two_eq_one x y
   have m3 := @Nat.and_mod_two_eq_one x y
   omega
theorem Gz (hi:0<=i) (hj:0<=j):Builtin.bitXor i j=((i.toNat ^^^ j.toNat:Nat):Int):=by
 unfold Builtin.bitXor
 rw [uF hi hj,zg hi hj]
 have h:i.toNat ||| j.toNat=(i.toNat ^^^ j.toNat)+(i.toNat &&& j.toNat):=vv _ _
 omega
theorem A9:OpR X (binaryOp .BitAnd) (rD X mF):=oI Jj fun dx dy d e=>by
 unfold mF at e;split at e
 ·split at e
  ·rename_i h;cases e;exact ⟨_,_,rfl,rfl,by rw [zg h.1 h.2]⟩
  ·cases e
 ·cases e
theorem Ff:OpR X (binaryOp .BitOr) (rD X CS):=oI LM fun dx dy d e=>by
 unfold CS at e;split at e
 ·split at e
  ·rename_i h;cases e;exact ⟨_,_,rfl,rfl,by rw [uF h.1 h.2]⟩
  ·cases e
 ·cases e
theorem A8:OpR X (binaryOp .BitXor) (rD X rW):=oI Jb fun dx dy d e=>by
 unfold rW at e;split at e
 ·split at e
  ·rename_i h;cases e;exact ⟨_,_,rfl,rfl,by rw [Gz h.1 h.2]⟩
  ·cases e
 ·cases e
theorem L7:jk oLt:=fun x y C z=>by unfold oLt at z;split at z<;>cases z
theorem Rc:jk oLe:=fun x y C z=>by unfold oLe at z;split at z<;>cases z
theorem Rg:jk oGt:=fun x y C z=>by unfold oGt at z;split at z<;>cases z
theorem Po:jk oGe:=fun x y C z=>by unfold oGe at z;split at z<;>cases z
theorem xB:OpR X (compareOp .Lt) (rD X oLt):=tV LO fun dx dy d e=>by
 unfold oLt at e;split at e
 ·cases e;exact ⟨_,_,rfl,rfl,rfl⟩
 ·cases e
theorem Jg:OpR X (compareOp .LtE) (rD X oLe):=tV LP fun dx dy d e=>by
 unfold oLe at e;split at e
 ·cases e;exact ⟨_,_,rfl,rfl,rfl⟩
 ·cases e
theorem Ji:OpR X (compareOp .Gt) (rD X oGt):=tV LQ fun dx dy d e=>by
 unfold oGt at e;split at e
 ·cases e;exact ⟨_,_,rfl,rfl,rfl⟩
 ·cases e
theorem CP:OpR X (compareOp .GtE) (rD X oGe):=tV LR fun dx dy d e=>by
 unfold oGe at e;split at e
 ·cases e;exact ⟨_,_,rfl,rfl,rfl⟩
 ·cases e
end
section
variable {X:Cx} {pos:Pos} {a b c e:Expr} {ga gb gc g:E}
theorem aQ (ha:SE X a ga) (hb:SE X b gb):SE X (.BinOp a .Add b pos) (EV.bin cA ga gb):=lK Mb Fh ha hb
theorem bE (ha:SE X a ga) (hb:SE X b gb):SE X (.BinOp a .Sub b pos) (EV.bin eA ga gb):=lK LU EZ ha hb
theorem jT (ha:SE X a ga) (hb:SE X b gb):SE X (.BinOp a .Mult b pos) (EV.bin oJ ga gb):=lK LY E7 ha hb
theorem fM (ha:SE X a ga) (hb:SE X b gb):SE X (.BinOp a .FloorDiv b pos) (EV.bin oDiv ga gb):=lK L8 E9 ha hb
theorem bU (ha:SE X a ga) (hb:SE X b gb):SE X (.BinOp a .Mod b pos) (EV.bin oMod ga gb):=lK LZ E8 ha hb
theorem bF (ha:SE X a ga) (hb:SE X b gb):SE X (.BinOp a .LShift b pos) (EV.bin d5 ga gb):=lK LW E3 ha hb
theorem J0 (ha:SE X a ga) (hb:SE X b gb):SE X (.BinOp a .RShift b pos) (EV.bin Be ga gb):=lK LV E1 ha hb
theorem C8 (ha:SE X a ga) (hb:SE X b gb):SE X (.BinOp a .BitAnd b pos) (EV.bin mF ga gb):=lK Jt A9 ha hb
theorem Mt (ha:SE X a ga) (hb:SE X b gb):SE X (.BinOp a .BitOr b pos) (EV.bin CS ga gb):=lK L9 Ff ha hb
theorem J4 (ha:SE X a ga) (hb:SE X b gb):SE X (.BinOp a .BitXor b pos) (EV.bin rW ga gb):=lK Js A8 ha hb
theorem RV (ha:SE X a ga) (hb:SE X b gb):SE X (.Compare a [.Lt] [b] pos) (EV.bin oLt ga gb):=B1 L7 xB ha hb (gG _)
theorem RW (ha:SE X a ga) (hb:SE X b gb):SE X (.Compare a [.GtE] [b] pos) (EV.bin oGe ga gb):=B1 Po CP ha hb (gG _)
theorem zO (ha:SE X a ga) (hb:SE X b gb):ST X (.Compare a [.Lt] [b] pos) (EV.bin oLt ga gb):=rm L7 xB ha hb (gG _)
theorem MF (ha:SE X a ga) (hb:SE X b gb):ST X (.Compare a [.Gt] [b] pos) (EV.bin oGt ga gb):=rm Rg Ji ha hb (gG _)
theorem G6 (ha:SE X a ga) (hb:SE X b gb):ST X (.Compare a [.GtE] [b] pos) (EV.bin oGe ga gb):=rm Po CP ha hb (gG _)
theorem sI (ha:SE X a ga):SE X (.UnaryOp .USub a pos) (un zP ga) :=
 PE.weak (LG Hv ha) fun σ H Q ⟨δ,hσ,h⟩=>⟨δ,hσ,(RQ.bind h).to fun v H1 s1 ⟨_,d,r,q⟩=>by
  unfold zP at q
  split at q
  ·cases r;exact ⟨_,rfl,q _ _ ↥21 (.int _)⟩
  ·exact False.elim q⟩
end
end ES
namespace ES
open PySem PySem.Spec PyProof.Rows L2 EV
unseal SE ST SW SA
mutual
def py:D->PyData
 | .non=>.none
 | .bl b=>.bool b
 | .int i=>.int i
 | .str x=>.str x
 | .tup ds=>.tuple (pys ds)
 | .lst ds=>.list (pys ds)
 | _=>.dict []
def pys:List D->List PyData
 | []=>[]
 | d::r=>py d::pys r
end
section
variable {X:Cx} {pins:List ↥10} {σ:L2.St} {H:Hp} {s:Shared}
mutual
theorem oB (I:Inv X pins σ H s):∀ {v:V} {d:D} {u:Value},(py d).canLay0=true->Rep X.K X.mg H v d->RelV v u->∃ as,Reads s.heap u (py d) as
 | _,_,u,_,.non,r=>by cases r;exact ⟨_,.none⟩
 | _,_,u,_,.bl b,r=>by cases r;exact ⟨_,.bool b⟩
 | _,_,u,_,.int i,r=>by obtain ⟨t,rfl⟩:=r;exact ⟨_,.int i t⟩
 | _,_,u,_,.str x,r=>by obtain ⟨t,rfl⟩:=r;exact ⟨_,.str x t⟩
 | _,.tup ds,u,hc,.tup hq rs,r=>by
  cases r
  obtain ⟨its,rv,⟨o,h1,h2,n,h3⟩,_⟩:=I.tuple hq
  obtain ⟨as,ra⟩:=gR I (by simpa [py,PyData.canLay0] using hc) rs rv
  exact ⟨_,.tuple h1 h2 h3 (by simpa using ra)⟩
 | _,.lst ds,u,hc,.lst hq rs,r=>by
  cases r
  obtain ⟨its,rv,⟨o,n,h1,h2,_,h3⟩,_⟩:=I.list hq
  obtain ⟨as,ra⟩:=gR I (by simpa [py,PyData.canLay0] using hc) rs rv
  exact ⟨_,.list h1 h2 h3 (by simpa using ra)⟩
 | _,.ty n,u,hc,_,_=>by simp [py,PyData.canLay0] at hc
 | _,.cls a,u,hc,_,_=>by simp [py,PyData.canLay0] at hc
 | _,.exc a,u,hc,_,_=>by simp [py,PyData.canLay0] at hc
 | _,.ins a b,u,hc,_,_=>by simp [py,PyData.canLay0] at hc
theorem gR (I:Inv X pins σ H s):∀ {vs:List V} {ds:List D} {us:List Value},PyData.canLayAll0 (pys ds)=true->Reps X.K X.mg H vs ds->Vals vs us->∃ as,ReadsAll s.heap us (pys ds) as
 | _,_,_,_,.nil,r=>by cases r;exact ⟨_,.nil⟩
 | _,dd::dr,_,hc,.cons r t,q=>by
  cases q with
  | cons q1 q2 =>
   have hc':PyData.canLay0 (py dd)=true/\PyData.canLayAll0 (pys dr)=true:=by simpa [pys,PyData.canLayAll0] using hc
   obtain ⟨a1,r1⟩:=oB I hc'.1 r q1
   obtain ⟨a2,r2⟩:=gR I hc'.2 t q2
   exact ⟨_,.cons r1 r2⟩
end
end
mutual
theorem xq:∀ (n:Nat) (d:D),D.pl n d=true->(py d).canLay0=true/\(py d).depth<=n
 | _,.non,_=>⟨rfl,Nat.zero_le _⟩
 | _,.bl _,_=>⟨rfl,Nat.zero_le _⟩
 | _,.int _,_=>⟨rfl,Nat.zero_le _⟩
 | _,.str x,h=>⟨by simpa [py,PyData.canLay0,PyData.strOk,D.pl] using h,Nat.zero_le _⟩
 | 0,.tup _,h=>by simp [D.pl] at h
 | 0,.lst _,h=>by simp [D.pl] at h
 | n+1,.tup ds,h=>by
  have z:=rM n ds (by simpa [D.pl] using h)
  exact ⟨by simpa [py,PyData.canLay0] using z.1,by simp only [py,PyData.depth];omega⟩
 | n+1,.lst ds,h=>by
  have z:=rM n ds (by simpa [D.pl] using h)
  exact ⟨by simpa [py,PyData.canLay0] using z.1,by simp only [py,PyData.depth];omega⟩
 | n,.own _,h=>by cases n<;>simp [D.pl] at h
 | n,.ty _,h=>by cases n<;>simp [D.pl] at h
 | n,.cls _,h=>by cases n<;>simp [D.pl] at h
 | n,.exc _,h=>by cases n<;>simp [D.pl] at h
 | n,.ins _ _,h=>by cases n<;>simp [D.pl] at h
theorem rM:∀ (n:Nat) (ds:List D),(∀ d∈ds,D.pl n d=true)->PyData.canLayAll0 (pys ds)=true/\PyData.depthAll (pys ds)<=n
 | _,[],_=>⟨rfl,Nat.zero_le _⟩
 | n,d::r,h=>by
  have z1:=xq n d (h d (.head _))
  have z2:=rM n r (fun x hx=>h x (.tail _ hx))
  exact ⟨by simp [pys,PyData.canLayAll0,z1.1,z2.1],by simp only [pys,PyData.depthAll];omega⟩
end
mutual
theorem ze:∀ (n:Nat) (a b:D),D.pl n a=true->D.pl n b=true->D.beq a b=PyData.eqv (py a) (py b)
 | n,a,b,ha,hb=>by
  cases a<;>cases b<;>first
   | rfl
   | (cases n<;>simp [D.pl] at ha;done)
   | (cases n<;>simp [D.pl] at hb;done)
   | skip
  all_goals cases n with
   | zero=>simp [D.pl] at ha
   | succ n =>
    simp only [D.beq,py,PyData.eqv]
    exact uI n _ _ (by simpa [D.pl] using ha) (by simpa [D.pl] using hb)
theorem uI:∀ (n:Nat) (as bs:List D),(∀ d∈as,D.pl n d=true)->(∀ d∈bs,D.pl n d=true)->D.beqs as bs=PyData.eqvAll (pys as) (pys bs)
 | _,[],[],_,_=>rfl
 | _,[],_::_,_,_=>rfl
 | _,_::_,[],_,_=>rfl
 | n,a::as,b::bs,ha,hb=>by
  simp only [D.beqs,pys,PyData.eqvAll]
  rw [ze n a b (ha a (.head _)) (hb b (.head _)),uI n as bs (fun x hx=>ha x (.tail _ hx)) (fun x hx=>hb x (.tail _ hx))]
end
section
variable {X:Cx}
theorem Pp:jk oEq:=fun x y C z=>by unfold oEq at z;exact d6 z
theorem Rb:jk oNe:=fun x y C z=>by unfold oNe at z;exact d6 z
theorem Mz (r1:Rep X.K X.mg H x dx) (r2:Rep X.K X.mg H y dy) (sx:dx.sc=true) (sy:dy.sc=true) (n:Ky x y=true):decide (x=y)=D.beq dx dy:=by
 cases r1<;>cases sx<;>cases r2<;>cases sy<;>first
  | exact absurd (show false=true from n) Bool.false_ne_true
  | exact sM
  | exact yV
  | exact sL
  | (simp [D.beq];done)
theorem yQ (n:Bool) (hu:X.A.units+64<cLine) (I:Inv X pins σ H s) (rx:RelV x v) (ry:RelV y u) (r1:Rep X.K X.mg H x dx) (r2:Rep X.K X.mg H y dy)
  (hc:D.cmp dx dy=true) (q:Q (.bl (xor n (D.beq dx dy))) H):wpAny ↥4 X.A (compareOp (if n then .NotEq else .Eq) v u) (EP X pins σ Q) X.xe s:=by
 unfold D.cmp at hc
 by_cases hp:(D.pl 8 dx&&D.pl 8 dy)=true
 ·rw [Bool.and_eq_true] at hp
  obtain ⟨l1,d1⟩:=xq 8 dx hp.1
  obtain ⟨l2,d2⟩:=xq 8 dy hp.2
  obtain ⟨as,ra⟩:=oB I l1 r1 rx
  obtain ⟨bs,rb⟩:=oB I l2 r2 ry
  have e:=ze 8 dx dy hp.1 hp.2
  cases n with
  | false =>
   refine (SeqAt.rcAt_reads ra rb l1 l2 ⋯ X.prog X.w X.xe _ ?_:wpAny ↥4 X.A (compareOp .Eq v u) _ _ _)
   exact dR I q (by rw [Bool.false_xor,e])
  | true =>
   refine (SeqAt.rcNeAt_reads ra rb l1 l2 ⋯ X.prog X.w X.xe _ ?_:wpAny ↥4 X.A (compareOp .NotEq v u) _ _ _)
   exact dR I q (by rw [Bool.true_xor,e])
 ·have hs:(dx.sc&&dy.sc)=true:=by
   rw [Bool.or_eq_true] at hc
   exact hc.resolve_right hp
  rw [Bool.and_eq_true] at hs
  have hsc:Ky x y=true:=by
   cases r1<;>cases (hs.1)<;>cases r2<;>cases (hs.2)<;>first | rfl | exact absurd rfl hp
  have e:=Mz r1 r2 hs.1 hs.2 hsc
  cases n with
  | false=>exact LS pins s σ H x y v u Q I rx ry ⟨hsc,by rw [e];rw [Bool.false_xor] at q;exact q⟩
  | true=>exact LN pins s σ H x y v u Q I rx ry ⟨hsc,by rw [e];rw [Bool.true_xor] at q;exact q⟩
theorem CQ (hu:X.A.units+64<cLine):OpR X (compareOp .Eq) (rD X oEq):=by
 intro pins s σ H x y v u Q I rx ry ⟨dx,dy,d,r1,r2,e,q⟩
 unfold oEq at e
 split at e
 ·rename_i hc
  cases e
  exact yQ false hu I rx ry r1 r2 hc (by rw [Bool.false_xor];exact q _ _ ↥21 (.bl _))
 ·cases e
theorem Je (hu:X.A.units+64<cLine):OpR X (compareOp .NotEq) (rD X oNe):=by
 intro pins s σ H x y v u Q I rx ry ⟨dx,dy,d,r1,r2,e,q⟩
 unfold oNe at e
 split at e
 ·rename_i hc
  cases e
  exact yQ true hu I rx ry r1 r2 hc (by rw [Bool.true_xor];exact q _ _ ↥21 (.bl _))
 ·cases e
theorem oj (r:Rep X.K X.mg H x d) (h:d.sc=true):mK x=true:=by cases r<;>first | rfl | cases h
theorem kF:∀ {xs:List V} {ds:List D},Reps X.K X.mg H xs ds->ds.all D.sc=true->xs.all mK=true
 | _,_,.nil,_=>rfl
 | _,_,.cons r t,h=>by
  rw [List.all_cons,Bool.and_eq_true] at h
  rw [List.all_cons,oj r h.1,kF t h.2];rfl
theorem Gr (r1:Rep X.K X.mg H x dx) (r2:Rep X.K X.mg H y dy) (sx:dx.sc=true) (sy:dy.sc=true):eqV x y=D.beq dx dy:=by
 cases r1<;>cases sx<;>cases r2<;>cases sy<;>rfl
theorem yA (r:Rep X.K X.mg H x dx) (sx:dx.sc=true):∀ {xs:List V} {ds:List D},Reps X.K X.mg H xs ds->ds.all D.sc=true->inV x xs=ds.any fun y=>D.beq y dx
 | _,_,.nil,_=>rfl
 | _,_,.cons r' t,h=>by
  rw [List.all_cons,Bool.and_eq_true] at h
  unfold inV
  rw [List.any_cons,List.any_cons,Gr r' r h.1 sx]
  exact congrArg _ (yA r sx t h.2)
theorem yz (neg:Bool) (I:Inv X pins σ H s) (rx:RelV x v) (ry:RelV y u) (r1:Rep X.K X.mg H x dx) (r2:Rep X.K X.mg H y dy)
  (hc:oIn dx dy=.ok (.bl k)) (q:Q (.bl (xor neg k)) H):wpAny ↥4 X.A (compareOp (if neg then .NotIn else .In) v u) (EP X pins σ Q) X.xe s:=by
 have seq:∀ {p:Addr} {xs:List V} {ds:List D},y=.ref p->(SqL X.K H p xs\/SqT X.K H p xs)->Reps X.K X.mg H xs ds->isIn dx ds=some k->wpAny ↥4 X.A (compareOp (if neg then .NotIn else .In) v u) (EP X pins σ Q) X.xe s:=fun {p xs ds} ey hq rs hi=>by
  subst ey
  unfold isIn at hi
  split at hi
  ·rename_i hs
   rw [Bool.and_eq_true] at hs
   cases hi
   have e:=yA r1 hs.1 rs hs.2
   cases neg with
   | false=>exact xE pins s σ H _ _ v u Q I rx ry ⟨p,xs,rfl,hq,oj r1 hs.1,kF rs hs.2,by rw [if_neg ↥2,e];rw [Bool.false_xor] at q;exact q⟩
   | true=>exact qf pins s σ H _ _ v u Q I rx ry ⟨p,xs,rfl,hq,oj r1 hs.1,kF rs hs.2,by rw [if_pos rfl,e];rw [Bool.true_xor] at q;exact q⟩
  ·cases hi
 have hseq:∀ {ds:List D},(match isIn dx ds with | some k=>R.ok (D.bl k) | none=>R.bad)=.ok (.bl k)->isIn dx ds=some k:=fun {ds} h=>by
  cases e:isIn dx ds with
  | none=>rw [e] at h;cases h
  | some k'=>rw [e] at h;cases h;rfl
 cases r2 with
 | tup hq rs=>exact seq rfl (.inr hq) rs (hseq (by cases dx<;>exact hc))
 | lst hq rs=>exact seq rfl (.inl hq) rs (hseq (by cases dx<;>exact hc))
 | str b =>
  cases r1 with
  | str a =>
   obtain ⟨⟨l⟩⟩:=a
   cases l with
   | nil=>cases hc
   | cons c t =>
    cases t with
    | cons _ _=>cases hc
    | nil =>
     cases hc
     have e:=empty_one b c
     cases neg with
     | false=>exact xC pins s σ H _ _ v u Q I rx ry ⟨_,_,rfl,rfl,by rw [e,Bool.not_not];rw [Bool.false_xor] at q;exact q⟩
     | true=>exact qd pins s σ H _ _ v u Q I rx ry ⟨_,_,rfl,rfl,by rw [e,Bool.not_not];rw [Bool.true_xor] at q;exact q⟩
  | _=>cases hc
 | _=>cases dx<;>cases hc
theorem tX:(∃ k,oIn a b=.ok (.bl k))\/oIn a b=.bad:=by
 unfold oIn
 split<;>first
  | exact .inr rfl
  | (split<;>first | exact .inl ⟨_,rfl⟩ | exact .inr rfl)
theorem Pn:jk oIn:=fun x y C z=>by rcases tX (a:=x) (b:=y) with ⟨k,e⟩ | e<;>rw [e] at z<;>cases z
theorem FD:jk gF:=fun x y C z=>by unfold gF at z;rcases tX (a:=x) (b:=y) with ⟨k,e⟩ | e<;>rw [e] at z<;>cases z
theorem CO:OpR X (compareOp .In) (rD X oIn):=by
 intro pins s σ H x y v u Q I rx ry ⟨dx,dy,d,r1,r2,e,q⟩
 rcases tX (a:=dx) (b:=dy) with ⟨k,e'⟩ | e'<;>rw [e'] at e<;>cases e
 exact yz false I rx ry r1 r2 e' (by rw [Bool.false_xor];exact q _ _ ↥21 (.bl _))
theorem xA:OpR X (compareOp .NotIn) (rD X gF):=by
 intro pins s σ H x y v u Q I rx ry ⟨dx,dy,d,r1,r2,e,q⟩
 unfold gF at e
 rcases tX (a:=dx) (b:=dy) with ⟨k,e'⟩ | e'<;>rw [e'] at e<;>cases e
 exact yz true I rx ry r1 r2 e' (by rw [Bool.true_xor];exact q _ _ ↥21 (.bl _))
end
section
variable {X:Cx} {pos:Pos} {a b c e:Expr} {ga gb gc g:E} {k:Nat}
theorem v7 (hu:Room k X.A) (ha:SE X a ga) (hb:SE X b gb):SE X (.Compare a [.Eq] [b] pos) (EV.bin oEq ga gb):=B1 Pp (CQ hu.units) ha hb (gG _)
theorem gD (hu:Room k X.A) (ha:SE X a ga) (hb:SE X b gb):ST X (.Compare a [.Eq] [b] pos) (EV.bin oEq ga gb):=rm Pp (CQ hu.units) ha hb (gG _)
theorem zM (hu:Room k X.A) (ha:SE X a ga) (hb:SE X b gb):ST X (.Compare a [.NotEq] [b] pos) (EV.bin oNe ga gb):=rm Rb (Je hu.units) ha hb (gG _)
theorem Mr (ha:SE X a ga) (hb:SE X b gb) (hm:behindInMarks .In b=false:=by rfl):SE X (.Compare a [.In] [b] pos) (EV.bin oIn ga gb):=B1 Pn CO ha hb hm
theorem CA (ha:SE X a ga) (hb:SE X b gb) (hm:behindInMarks .In b=false:=by rfl):ST X (.Compare a [.In] [b] pos) (EV.bin oIn ga gb):=rm Pn CO ha hb hm
theorem Ei (ha:SE X a ga) (hb:SE X b gb) (hm:behindInMarks .NotIn b=false:=by rfl):ST X (.Compare a [.NotIn] [b] pos) (EV.bin gF ga gb):=rm FD xA ha hb hm
theorem CY (r:Rep X.K X.mg H v d):rV d=.ok (.bl (decide (v=.non)))/\mE d=.ok (.bl (!decide (v=.non))):=by
 cases r<;>exact ⟨rfl,rfl⟩
theorem JK (h:tE X (un rV ga) σ H Q):tE X ga σ H fun x H1=>tE X (con .non) σ H1 fun y H2=>y=.non/\Q (.bl (decide (x=.non))) H2:=by
 obtain ⟨δ,hσ,h⟩:=h
 refine ⟨δ,hσ,(RQ.bind h).to fun x H1 s1 ⟨_,d,r,q⟩=>⟨δ,hσ.mono s1,fun v H2 s2 r2 => ?_⟩⟩
 cases r2
 rw [(CY r).1] at q
 exact ⟨rfl,q _ _ s2 (.bl _)⟩
theorem FP (h:tE X (un mE ga) σ H Q):tE X ga σ H fun x H1=>tE X (con .non) σ H1 fun y H2=>y=.non/\Q (.bl (!decide (x=.non))) H2:=by
 obtain ⟨δ,hσ,h⟩:=h
 refine ⟨δ,hσ,(RQ.bind h).to fun x H1 s1 ⟨_,d,r,q⟩=>⟨δ,hσ.mono s1,fun v H2 s2 r2 => ?_⟩⟩
 cases r2
 rw [(CY r).2] at q
 exact ⟨rfl,q _ _ s2 (.bl _)⟩
theorem j0 (h:tT X g σ H Q):tE X g σ H fun v H'=>∃ k,v=.bl k/\Q k H':=by
 obtain ⟨δ,hσ,h⟩:=h
 refine ⟨δ,hσ,?_⟩
 cases q:g δ with
 | ok d =>
  rw [q] at h
  cases d with
  | bl k=>exact fun v H' s r=>by cases r;exact ⟨k,rfl,h H' s⟩
  | _=>exact False.elim h
 | ex C=>rw [q] at h;exact h
 | bad=>rw [q] at h;exact False.elim h
theorem Ej (ha:SE X a ga):ST X (.Compare a [.Is] [.Constant .none j p2] pos) (un rV ga):=PT.weak (rL Jh ha vN (gG _)) fun σ H Q h=>JK (j0 h)
theorem HV (ha:SE X a ga):ST X (.Compare a [.IsNot] [.Constant .none j p2] pos) (un mE ga):=PT.weak (rL E6 ha vN (gG _)) fun σ H Q h=>FP (j0 h)
theorem gP (h:SE X e g) (he:∀ whole,isTrue e X.env whole=(do let v<-whole;standAt e.pos;holding [v] (truthy v)):=by intro _;rfl):ST X e g:=PT.weak (ID h he) fun σ H Q q=>j0 q
theorem RT.truth (h:RT X σ H (r.bind fun d=>truth d t f) Q):RT X σ H r fun k H'=>ao H H'/\if k=true then RT X σ H' t Q else RT X σ H' f Q:=by
 cases r with
 | ok d =>
  cases d with
  | bl k =>
   cases k with
   | true=>exact fun H' s=>⟨s,G8 (RT.mono s h)⟩
   | false=>exact fun H' s=>⟨s,F9 (RT.mono s h)⟩
  | _=>exact False.elim h
 | ex C=>exact h
 | bad=>exact False.elim h
theorem RT.to (h:RT X σ H r Q) (g:∀ k H',ao H H'->Q k H'->Q' k H'):RT X σ H r Q':=by
 cases r with
 | ok d =>
  cases d with
  | bl k=>exact fun H' s=>g k H' s (h H' s)
  | _=>exact False.elim h
 | ex C=>exact h
 | bad=>exact False.elim h
theorem RQ.truthT (h:RQ X σ H (r.bind fun d=>truth d t f) Q):RT X σ H r fun k H'=>ao H H'/\if k=true then RQ X σ H' t Q else RQ X σ H' f Q:=by
 cases r with
 | ok d =>
  cases d with
  | bl k =>
   cases k with
   | true=>exact fun H' s=>⟨s,G8 (RQ.mono s h)⟩
   | false=>exact fun H' s=>⟨s,F9 (RQ.mono s h)⟩
  | _=>exact False.elim h
 | ex C=>exact h
 | bad=>exact False.elim h
theorem RQ.truth (h:RQ X σ H (r.bind fun d=>truth d t f) Q):RQ X σ H r fun v H'=>∃ k,v=.bl k/\if k=true then RQ X σ H' t Q else RQ X σ H' f Q:=by
 cases r with
 | ok d =>
  cases d with
  | bl k =>
   cases k with
   | true=>exact fun v H' s r=>by cases r;exact ⟨true,rfl,G8 (RQ.mono s h)⟩
   | false=>exact fun v H' s r=>by cases r;exact ⟨false,rfl,F9 (RQ.mono s h)⟩
  | _=>exact False.elim h
 | ex C=>exact h
 | bad=>exact False.elim h
theorem mZ {k:Bool} {A B A' B':Prop} (h:if k=true then A else B) (f:A->A') (g:B->B'):if k=true then A' else B':=by
 cases k with
 | true=>exact G8 (f (by simpa using h))
 | false=>exact F9 (g (by simpa using h))
theorem kA (h:ST X a ga):ST X (.UnaryOp .Not a pos) (qX ga):=PT.weak (IE h) fun σ H Q ⟨δ,hσ,q⟩=>⟨δ,hσ,(RT.truth q).to fun k H' s ⟨_,z⟩=>by
 cases k with
 | true=>exact (show RT X σ H' (.ok ↥28) Q by simpa using z) H' ↥21
 | false=>exact (show RT X σ H' (.ok ↥32) Q by simpa using z) H' ↥21⟩
theorem t_w (h:SW X e g):ST X e g:=PW.pt h
theorem wB (h:ST X a ga):SW X (.BoolOp .And [a] pos) ga:=EL h
theorem mi (h:ST X a ga):SW X (.BoolOp .Or [a] pos) ga:=IB h
theorem w_and {rest:List Expr} (h:ST X a ga) (hb:SW X (.BoolOp .And (b::rest) pos) gb):SW X (.BoolOp .And (a::b::rest) pos) (td ga gb) :=
 PW.weak (IC h hb) fun σ H Q ⟨δ,hσ,q⟩=>⟨δ,hσ,(RT.truth q).to fun k H' s ⟨_,z⟩=>mZ z (fun z=>⟨δ,hσ.mono s,z⟩) (fun z=>z H' ↥21)⟩
theorem w_or {rest:List Expr} (h:ST X a ga) (hb:SW X (.BoolOp .Or (b::rest) pos) gb):SW X (.BoolOp .Or (a::b::rest) pos) (or_ ga gb) :=
 PW.weak (LA h hb) fun σ H Q ⟨δ,hσ,q⟩=>⟨δ,hσ,(RT.truth q).to fun k H' s ⟨_,z⟩=>mZ z (fun z=>z H' ↥21) (fun z=>⟨δ,hσ.mono s,z⟩)⟩
theorem sG {op} (h:SE X a g):SE X (.BoolOp op [a] pos) g:=IK h
theorem qt {rest:List Expr} (h:SE X a ga) (hb:SE X (.BoolOp .And (b::rest) pos) gb):SE X (.BoolOp .And (a::b::rest) pos) (td ga gb) :=
 PE.weak (IS h hb) fun σ H Q ⟨δ,hσ,q⟩=>⟨δ,hσ,(RQ.truth q).to fun v H' s ⟨k,e,z⟩=>⟨k,e,mZ z (fun z=>⟨δ,hσ.mono s,z⟩) (fun z=>z _ H' ↥21 (.bl _))⟩⟩
theorem RU {rest:List Expr} (h:SE X a ga) (hb:SE X (.BoolOp .Or (b::rest) pos) gb):SE X (.BoolOp .Or (a::b::rest) pos) (or_ ga gb) :=
 PE.weak (LH h hb) fun σ H Q ⟨δ,hσ,q⟩=>⟨δ,hσ,(RQ.truth q).to fun v H' s ⟨k,e,z⟩=>⟨k,e,mZ z (fun z=>z _ H' ↥21 (.bl _)) (fun z=>⟨δ,hσ.mono s,z⟩)⟩⟩
theorem J1 (h:SE X a ga):SE X (.UnaryOp .Not a pos) (qX ga):=PE.weak (IL h) fun σ H Q ⟨δ,hσ,q⟩=>⟨δ,hσ,(RQ.truth q).to fun v H' s ⟨k,e,z⟩=>⟨k,e,by
 cases k with
 | true=>exact (show RQ X σ H' (.ok ↥28) Q by simpa using z) _ H' ↥21 (.bl _)
 | false=>exact (show RQ X σ H' (.ok ↥32) Q by simpa using z) _ H' ↥21 (.bl _)⟩⟩
theorem yS (h:ST X c gc) (ha:SE X a ga) (hb:SE X b gb):SE X (.IfExp c a b pos) (ife gc ga gb) :=
 PE.weak (A4 h ha hb) fun σ H Q ⟨δ,hσ,q⟩=>⟨δ,hσ,(RQ.truthT q).to fun k H' s ⟨_,z⟩=>mZ z (fun z=>⟨δ,hσ.mono s,z⟩) (fun z=>⟨δ,hσ.mono s,z⟩)⟩
theorem Ek {op op':CmpOp} {f f':D->D->R D} (nx:jk f) (nx':jk f') (ho:OpR X (compareOp op) (rD X f)) (ho':OpR X (compareOp op') (rD X f')) (ha:SE X a ga) (hb:SE X b gb) (hc:SE X c gc)
  (hm:lastMarks [op,op'] [b,c]=false:=by with_unfolding_all rfl):ST X (.Compare a [op,op'] [b,c] pos) (chain f f' ga gb gc):=by
 refine PT.weak (AZ ho ho' ha hb hc hm) fun σ H Q h => ?_
 obtain ⟨δ,hσ,q⟩:=j0 h
 refine ⟨δ,hσ,(RQ.bind q).to fun x H1 s1 ⟨_,dx,r1,q1⟩=>⟨δ,hσ.mono s1,(RQ.bind q1).to fun y H2 s2 ⟨_,dy,r2,q2⟩ => ?_⟩⟩
 have q3:=RQ.truth q2
 refine RQ.op nx (r1.mono s2) r2 (q3.to fun v H3 s3 ⟨k,e,z⟩=>⟨k,e,mZ z (fun z=>⟨δ,((hσ.mono s1).mono s2).mono s3,(RQ.bind z).to fun w H4 s4 ⟨_,dw,r4,q4⟩ => ?_⟩) (fun z=>z _ H3 ↥21 (.bl _))⟩)
 exact RQ.op nx' ((r2.mono s3).mono s4) r4 q4
theorem fQ:SA X [] []:=PA.weak gE fun σ H Q ⟨δ,hσ,h⟩=>h [] H (ao.refl H) .nil
theorem RA.cons (h:RA X σ H (evs (g::gs) δ) Q):RQ X σ H (g δ) fun v H1=>RA X σ H1 (evs gs δ) fun vs H2=>ao H1 H2->∀ d,Rep X.K X.mg H1 v d->Q (v::vs) H2:=by
 unfold evs at h
 cases q:g δ with
 | ok d =>
  rw [q] at h
  refine fun v H1 s1 r1 => ?_
  simp only [R.bind] at h
  cases q2:evs gs δ with
  | ok ds =>
   rw [q2] at h
   exact fun vs H2 s2 rs s2' d' r'=>h (v::vs) H2 (s1.trans s2) (.cons (r1.mono s2) rs)
  | ex C=>rw [q2] at h;exact fun Ca hc H' s'=>h Ca hc H' (s1.trans s')
  | bad=>rw [q2] at h;exact h
 | ex C=>rw [q] at h;exact h
 | bad=>rw [q] at h;exact h
theorem RA.to (h:RA X σ H r Q) (g:∀ v H',ao H H'->Q v H'->Q' v H'):RA X σ H r Q':=by
 cases r with
 | ok d=>exact fun v H' s r=>g v H' s (h v H' s r)
 | ex C=>exact h
 | bad=>exact h
theorem ak (ha:SE X e g) (hr:SA X es gs) (hs:starEach (e::es) X.env=↥25::starEach es X.env:=by rfl):SA X (e::es) (g::gs) :=
 PA.weak (dY ha hr hs) fun σ H Q ⟨δ,hσ,h⟩=>by
  refine ⟨δ,hσ,?_⟩
  cases q:g δ with
  | ok d =>
   have h':=RA.cons h
   rw [q] at h'
   exact fun v H1 s1 r1=>⟨δ,hσ.mono s1,(h' v H1 s1 r1).to fun vs H2 s2 z=>z s2 d r1⟩
  | ex C =>
   have h':=RA.cons h
   rw [q] at h'
   exact h'
  | bad =>
   have h':=RA.cons h
   rw [q] at h'
   exact h'
theorem bB {x1} (h:SA X es gs) (hl:es.length<=1000) (hg:gs.length=es.length:=by rfl):SE X (.Tuple es x1 pos) (f9 gs) :=
 PE.weak (CM h) fun σ H Q ⟨δ,hσ,q⟩=>⟨δ,hσ,by
  have q':=RA.bind q
  cases e:evs gs δ with
  | ok ds =>
   have hd:ds.length=gs.length:=evs_len e
   rw [e] at q'
   refine fun vs H1 s1 rs => ?_
   obtain ⟨_,ds',rs',q2⟩:=q' vs H1 s1 rs
   refine ⟨by rw [rs.length,hd,hg];exact Nat.le_of_lt (gY hl),fun p hp=>q2 _ _ (ar hp _) (.tup (SqT.of au) (rs'.mono (ar hp _)))⟩
  | ex C=>rw [e] at q';exact q'
  | bad=>rw [e] at q';exact q'⟩
where
 evs_len {δ:Dt}:∀ {gs:List E} {ds:List D},evs gs δ=.ok ds->ds.length=gs.length
  | [],ds,e=>by cases e;rfl
  | g::gs,ds,e=>by
   unfold evs at e
   cases q:g δ with
   | ok d =>
    rw [q] at e
    simp only [R.bind] at e
    cases q2:evs gs δ with
    | ok ds'=>rw [q2] at e;cases e;simp [evs_len q2]
    | ex C=>rw [q2] at e;cases e
    | bad=>rw [q2] at e;cases e
   | ex C=>rw [q] at e;cases e
   | bad=>rw [q] at e;cases e
theorem lJ (h:SA X es gs) (hl:es.length<=1000) (hg:gs.length=es.length:=by rfl):SE X (.List es pos) (qY gs) :=
 PE.weak (xu h) fun σ H Q ⟨δ,hσ,q⟩=>⟨δ,hσ,by
  have q':=RA.bind q
  cases e:evs gs δ with
  | ok ds =>
   have hd:ds.length=gs.length:=bB.evs_len e
   rw [e] at q'
   refine fun vs H1 s1 rs => ?_
   obtain ⟨_,ds',rs',q2⟩:=q' vs H1 s1 rs
   refine ⟨by rw [rs.length,hd,hg];exact Nat.le_of_lt (gY hl),fun p hp=>q2 _ _ (ar hp _) (.lst (SqL.of au) (rs'.mono (ar hp _)))⟩
  | ex C=>rw [e] at q';exact q'
  | bad=>rw [e] at q';exact q'⟩
theorem Rf:jk oIx:=fun x y C z=>by
 unfold oIx at z
 split at z
 ·split at z<;>cases z
 ·split at z<;>cases z
 ·split at z
  ·split at z<;>cases z
  ·cases z
 ·cases z
theorem uJ (rs:Reps X.K X.mg H xs ds) (h:((EV.ixN ds.length i).bind fun j=>ds[j]?)=some d):∃ v,atI xs i=some v/\Rep X.K X.mg H v d:=by
 have el:=rs.length
 cases q:EV.ixN ds.length i with
 | none=>rw [q] at h;cases h
 | some j =>
  rw [q] at h
  obtain ⟨v,h1,h2⟩:=rs.get h
  refine ⟨v,?_,h2⟩
  unfold atI
  rw [el,show L2.ixN ds.length i=some j from q]
  exact h1
theorem Rx:IxR X (rD X oIx):=by
 intro value slice pins s σ H x y v u Q I rx ry ⟨dx,dy,d,r1,r2,e,q⟩ hs
 unfold oIx at e
 split at e
 ·split at e
  ·rename_i h
   cases e;cases r1;cases r2
   rename_i a xs hq rs
   obtain ⟨w,h1,h2⟩:=uJ rs h
   exact jr value slice pins s σ H _ _ v u Q I rx ry ⟨a,xs,_,w,rfl,rfl,hq,h1,q _ _ ↥21 h2⟩ hs
  ·cases e
 ·split at e
  ·rename_i h
   cases e;cases r1;cases r2
   rename_i a xs hq rs
   obtain ⟨w,h1,h2⟩:=uJ rs h
   exact F7 value slice pins s σ H _ _ v u Q I rx ry ⟨a,xs,_,w,rfl,rfl,hq,h1,q _ _ ↥21 h2⟩ hs
  ·cases e
 ·split at e
  ·rename_i hz
   split at e
   ·rename_i c h
    cases e;cases r1;cases r2
    refine JE value slice pins s σ H _ _ v u Q I rx ry ⟨_,_,c,rfl,rfl,Nat.le_trans hz (by rw [sizeLine_eq];decide),?_,q _ _ ↥21 (.str _)⟩ hs
    exact h
   ·cases e
  ·cases e
 ·cases e
theorem mh (ha:SE X a ga) (hb:SE X b gb) (hs:pH b:=by intro _ _;rfl):SE X (.Subscript a b pos) (EV.bin oIx ga gb) :=
 PE.weak (EU Rx ha hb hs) fun σ H Q h=>by
  obtain ⟨δ,hσ,q⟩:=zd h
  refine ⟨δ,hσ,q.to fun x H1 s1 ⟨δ1,hσ1,q1⟩=>⟨δ1,hσ1,q1.to fun y H2 s2 ⟨dx,dy,r1,r2,q2⟩=>RQ.op Rf r1 r2 q2⟩⟩
end
end ES
namespace ES
open PySem PySem.Spec PyProof.Rows L2 EV
unseal SE ST SW SA
abbrev Os:=List (Nat×Addr)
def jj (os:Os):List Addr:=os.map (·.2)
def hide (H:Hp) (os:Os):Hp:=fun a=>if a∈jj os then none else H a
theorem kf (H:Hp):hide H []=H:=by
 funext a
 unfold hide jj
 simp
theorem fK {H:Hp} {os:Os} {a:Addr} (h:a∈jj os):hide H os a=none:=if_pos h
theorem aZ {H:Hp} {os:Os} {a:Addr} (h:a∉jj os):hide H os a=H a:=if_neg h
theorem az (H:Hp) (os:Os):ao ↥20 H:=fun b o e=>by
 unfold hide at e
 split at e
 ·cases e
 ·exact e
theorem d9 (os:Os) (s:ao H H'):ao ↥20 (hide H' os):=fun b o e=>by
 unfold hide at e ⊢
 split at e
 ·cases e
 ·rename_i h
  rw [if_neg h]
  exact s b o e
structure StO (X:Cx) (H:Hp) (σ:L2.St) (δ:Dt) (os:Os):Prop where
 st:Stt X.K X.mg ↥20 σ δ
 lst:∀ p∈os,∃ xs ds,H p.2=some (.lst xs)/\σ[p.1]? = some (some (.ref p.2))/\δ[p.1]? = some (some (.own ds))/\Reps X.K X.mg ↥20 xs ds
 own:∀ i ds,δ[i]? = some (some (.own ds))->∃ a,(i,a)∈os
 inj:∀ i j a,(i,a)∈os->(j,a)∈os->i=j
theorem gp {os:Os} {a:Addr} (h:a∈jj os):∃ p∈os,p.2=a:=by
 obtain ⟨p,hp,e⟩:=List.mem_map.mp h
 exact ⟨p,hp,e⟩
theorem cI {os:Os} {p:Nat×Addr} (h:p∈os):p.2∈jj os:=List.mem_map.mpr ⟨p,h,rfl⟩
def CL (h:Heap) (os:Os):List ↥10:=mV (jj os) h
section
variable {X:Cx} {pins:List ↥10} {σ:L2.St} {H H':Hp} {s s':Shared} {os:Os}
def Kr (H:Hp) (os:Os):Prop:=∀ a∈jj os,∃ xs,H a=some (.lst xs)
theorem kd (I:Inv X pins σ H s) (hl:Kr H os):Inv X (pins++CL s.heap os) σ ↥20 s:=by
 have ne:∀ {b:Addr} {o:HO},H b=some o->(∀ xs,o ≠ .lst xs)->hide H os b=some o:=fun {b o} e n=>by
  rw [aZ fun z => ?_];exact e
  obtain ⟨xs,q⟩:=hl b z
  rw [e] at q
  exact n xs (Option.some.inj q)
 refine ⟨I.ok,I.os,I.bare,⟨I.base.keep,I.base.slot,fun b o e n hx => ?_,I.base.there,fun b xs e => ?_,fun b o u e => ?_,fun b ps e => ?_⟩,I.loc,I.cell,?_,fun x c e => ?_,fun p hp => ?_,fun a o e => ?_,I.len⟩
 ·unfold hide;split
  ·rfl
  ·exact I.base.free b o e n hx
 ·exact ne (I.base.tups b xs e) fun _ z=>nomatch z
 ·exact ne (I.base.frzs b o u e) fun _ z=>nomatch z
 ·obtain ⟨more,q⟩:=I.base.tbls b ps e
  exact ⟨more,ne q fun _ z=>nomatch z⟩
 ·unfold hide;split
  ·rfl
  ·exact I.free
 ·unfold hide;split
  ·rfl
  ·exact I.freeC x c e
 ·rw [<- List.append_assoc] at hp
  rcases List.mem_append.mp hp with z | z
  ·obtain ⟨e,n,r⟩:=I.pin p z
   refine ⟨e,?_,r⟩
   unfold hide;split
   ·rfl
   ·exact n
  ·obtain ⟨hb,e⟩:=qg z
   obtain ⟨xs,q⟩:=hl p.1 hb
   obtain ⟨_,its,n,_,e'⟩:=I.hok p.1 _ q
   rw [e] at e'
   have e2:p.2={ cls:=.type "list",data:=.seq its.toArray n }:=Option.some.inj e'
   refine ⟨e,fK hb,fun z => ?_,fun z => ?_,fun v z => ?_⟩
   ·rw [z,I.free] at q;cases q
   ·have hx:p.1∉X.ex:=fun w=>I.ok.exfs p.1 w z
    obtain ⟨_,o0,ho0,_⟩:=I.ok.funs.mem z
    rw [I.base.free p.1 o0 ho0 (I.ok.frf p.1 z) hx] at q;cases q
   ·rw [e2] at z;cases z
 ·have hna:a∉jj os:=fun z=>by rw [fK z] at e;cases e
  rw [aZ hna] at e
  exact (I.hok a o e).stay (fun _ _ _ q=>q) (fun b q=>ne q fun _ z=>nomatch z) fun b xs q=>ne q fun _ z=>nomatch z
def eB (H H':Hp) (os:Os):Hp:=fun a=>if a∈jj os then H a else H' a
theorem iz (h:∀ a∈jj os,H' a=none):hide (eB H H' os) os=H':=by
 funext a
 unfold hide eB
 by_cases z:a∈jj os
 ·rw [if_pos z,h a z]
 ·rw [if_neg z,if_neg z]
theorem j9 (hx:X.ex=[]) (I0:Inv X pins σ H s) (hl:Kr H os) (I:Inv X (pins++CL s.heap os) σ H' s'):Inv X pins σ (eB H H' os) s'/\∀ a∈jj os,H' a=none:=by
 have pin:∀ a∈jj os,∃ o,s.heap.get? a=some o/\s'.heap.get? a=some o/\H' a=none/\a≠X.env.locals/\a∉X.fs:=fun a ha=>by
  obtain ⟨xs,q⟩:=hl a ha
  obtain ⟨o,e⟩:∃ o,s.heap.get? a=some o:=by
   obtain ⟨_,its,n,_,e⟩:=I0.hok a _ q
   exact ⟨_,e⟩
  obtain ⟨e1,e2,e3,e4,_⟩:=I.pin (a,o) (List.mem_append_right _ (List.mem_append_right _ (cZ ha e)))
  exact ⟨o,e,e1,e2,e3,e4⟩
 have hn:∀ a∈jj os,H' a=none:=fun a ha=>(pin a ha).choose_spec.2.2.1
 have vis:∀ {b:Addr} {o:HO},H' b=some o->eB H H' os b=some o:=fun {b o} e=>by
  unfold eB;rw [if_neg fun z => ?_];exact e
  rw [hn b z] at e;cases e
 refine ⟨⟨I.ok,I.os,I.bare,⟨I.base.keep,I.base.slot,fun b o e n hx' => ?_,I.base.there,fun b xs e=>vis (I.base.tups b xs e),fun b o u e=>vis (I.base.frzs b o u e),fun b ps e => ?_⟩,I.loc,I.cell,?_,fun x c e => ?_,fun p hp => ?_,fun a o e => ?_,I.len⟩,hn⟩
 ·unfold eB;split
  ·exact I0.base.free b o e n hx'
  ·exact I.base.free b o e n hx'
 ·obtain ⟨more,q⟩:=I.base.tbls b ps e
  exact ⟨more,vis q⟩
 ·unfold eB;split
  ·exact I0.free
  ·exact I.free
 ·unfold eB;split
  ·exact I0.freeC x c e
  ·exact I.freeC x c e
 ·obtain ⟨e,n,r⟩:=I.pin p (by rw [<- List.append_assoc];exact List.mem_append_left _ hp)
  refine ⟨e,?_,r⟩
  unfold eB;split
  ·exact (I0.pin p hp).2.1
  ·exact n
 ·by_cases z:a∈jj os
  ·obtain ⟨ob,e0,e1,_⟩:=pin a z
   unfold eB at e
   rw [if_pos z] at e
   obtain ⟨xs,q⟩:=hl a z
   rw [e] at q
   have q':o=.lst xs:=Option.some.inj q
   subst q'
   obtain ⟨hz,its,n,r,e2⟩:=I0.hok a _ e
   rw [e0] at e2
   have e3:ob=_:=Option.some.inj e2
   subst e3
   exact ⟨hz,its,n,r,e1⟩
  ·unfold eB at e
   rw [if_neg z] at e
   exact (I.hok a o e).stay (fun _ _ _ q=>q) (fun b q=>vis q) fun b xs q=>vis q
end
section
variable {K:PySem.W.Frag} {mg:Str->Option Value} {H H':Hp}
def NoL (H H':Hp):Prop:=∀ b o,H b=some o->(∀ xs,o ≠ .lst xs)->(∀ ob xs,o ≠ .frz ob (.lst xs))->H' b=some o
theorem AH (k:NoL H H') (h:SqT K H a xs):SqT K H' a xs:=by
 rcases h with (h | ⟨o,h⟩) | h
 ·exact .inl (.inl (k _ _ h (fun _ z=>nomatch z) fun _ _ z=>nomatch z))
 ·exact .inl (.inr ⟨o,k _ _ h (fun _ z=>nomatch z) fun _ _ z=>by cases z⟩)
 ·exact .inr h
mutual
theorem oA (k:NoL H H'):∀ {v:V} {d:D},d.flat=true->Rep K mg H v d->Rep K mg H' v d
 | _,_,_,.non=>.non
 | _,_,_,.bl b=>.bl b
 | _,_,_,.int i=>.int i
 | _,_,_,.str x=>.str x
 | _,.tup ds,f,.tup h r=>.tup (AH k h) (eI k (by simpa [D.flat] using f) r)
 | _,.lst ds,f,_=>by simp [D.flat] at f
 | _,_,_,.ty n=>.ty n
 | _,_,_,.cls h=>.cls h
 | _,_,_,.exc h e=>.exc h (k _ _ e (fun _ z=>nomatch z) fun _ _ z=>nomatch z)
 | _,.ins n ds,f,.ins h e r=>.ins h (k _ _ e (fun _ z=>nomatch z) fun _ _ z=>nomatch z) (tP k (by simpa [D.flat] using f) r)
theorem eI (k:NoL H H'):∀ {vs:List V} {ds:List D},D.flats ds=true->Reps K mg H vs ds->Reps K mg H' vs ds
 | _,_,_,.nil=>.nil
 | _,d::r,f,.cons h t=>by
  have f':d.flat=true/\D.flats r=true:=by simpa [D.flats] using f
  exact .cons (oA k f'.1 h) (eI k f'.2 t)
theorem tP (k:NoL H H'):∀ {vs:List (Str×V)} {ds:List (String×D)},D.flatf ds=true->Repf K mg H vs ds->Repf K mg H' vs ds
 | _,_,_,.nil=>.nil
 | _,(_,d)::r,f,.cons h t=>by
  have f':d.flat=true/\D.flatf r=true:=by simpa [D.flatf] using f
  exact .cons (oA k f'.1 h) (tP k f'.2 t)
end
theorem oN {os:Os} (hl:Kr H os):NoL H ↥20:=fun b o e n _=>by
 rw [aZ fun z => ?_];exact e
 obtain ⟨xs,q⟩:=hl b z
 rw [e] at q
 exact n xs (Option.some.inj q)
end
section
variable {X:Cx} {σ:L2.St} {δ:Dt} {H H':Hp} {os:Os}
theorem StO.lsts (S:StO X H σ δ os):Kr H os:=fun a ha=>by
 obtain ⟨p,hp,rfl⟩:=gp ha
 obtain ⟨xs,_,h,_⟩:=S.lst p hp
 exact ⟨xs,h⟩
theorem StO.nil (h:Stt X.K X.mg H σ δ) (hn:∀ (i:Nat) (ds:List D),δ[i]? ≠ some (some (.own ds))):StO X H σ δ []:=⟨by rw [kf];exact h,fun p hp=>(nomatch hp),fun i ds e=>absurd e (hn i ds),fun _ _ _ z=>(nomatch z)⟩
theorem StO.mono (S:StO X H σ δ os) (s:ao H H'):StO X H' σ δ os :=
 ⟨S.st.mono (d9 os s),fun p hp=>let ⟨xs,ds,a,b,c,d⟩:=S.lst p hp;⟨xs,ds,s _ _ a,b,c,d.mono (d9 os s)⟩,S.own,S.inj⟩
theorem StO.shown (S:StO X H σ δ os) (s:ao ↥20 H') (hn:∀ a∈jj os,H' a=none):StO X (eB H H' os) σ δ os:=by
 have e:=iz (H:=H) hn
 refine ⟨by rw [e];exact S.st.mono s,fun p hp => ?_,S.own,S.inj⟩
 obtain ⟨xs,ds,a,b,c,d⟩:=S.lst p hp
 exact ⟨xs,ds,by unfold eB;rw [if_pos (cI hp)];exact a,b,c,by rw [e];exact d.mono s⟩
theorem StO.view (S:StO X H σ δ os):Stt X.K X.mg H σ (view δ):=by
 refine ⟨by unfold EV.view;rw [List.length_map];exact S.st.1,fun i d e n => ?_⟩
 unfold EV.view at e
 rw [List.getElem?_map] at e
 cases q:δ[i]? with
 | none=>rw [q] at e;cases e
 | some c =>
  rw [q] at e
  cases c with
  | none=>cases e
  | some d0 =>
   by_cases ho:∃ ds,d0=.own ds
   ·obtain ⟨ds,rfl⟩:=ho
    have e':D.lst ds=d:=Option.some.inj (Option.some.inj e)
    subst e'
    obtain ⟨a,ha⟩:=S.own i ds q
    obtain ⟨xs,ds',h1,h2,h3,h4⟩:=S.lst _ ha
    rw [q] at h3
    cases h3
    exact ⟨.ref a,h2,.lst (SqL.of h1) (h4.mono (az H os))⟩
   ·have e':d0=d:=by
     cases d0<;>first | exact absurd ⟨_,rfl⟩ ho | exact Option.some.inj (Option.some.inj e)
    subst e'
    obtain ⟨v,h1,h2⟩:=S.st.2 i d0 q n
    exact ⟨v,h1,h2.mono (az H os)⟩
theorem StO.noOwn (S:StO X H σ δ os) (s:ao ↥20 H'):Stt X.K X.mg H' σ (noOwn δ):=by
 refine ⟨by unfold EV.noOwn;rw [List.length_map];exact S.st.1,fun i d e n => ?_⟩
 unfold EV.noOwn at e
 rw [List.getElem?_map] at e
 cases q:δ[i]? with
 | none=>rw [q] at e;cases e
 | some c =>
  rw [q] at e
  cases c with
  | none=>cases e
  | some d0 =>
   by_cases ho:∃ ds,d0=.own ds
   ·obtain ⟨ds,rfl⟩:=ho
    cases e
   ·have e':d0=d:=by
     cases d0<;>first | exact absurd ⟨_,rfl⟩ ho | exact Option.some.inj (Option.some.inj e)
    subst e'
    obtain ⟨v,h1,h2⟩:=S.st.2 i d0 q n
    exact ⟨v,h1,h2.mono s⟩
end
def FQ (X:Cx) (σ:L2.St) (H:Hp) (os:Os) (δ:Dt) (r:R D) (Q:VK):Prop:=match r with
 | .ok d=>∀ v H',StO X H' σ δ os->ao ↥20 (hide H' os)->Rep X.K X.mg (hide H' os) v d->Q v H'
 | .ex C=>∀ Ca,X.mg C=some (.ref Ca)->∀ H',ao ↥20 H'->Stt X.K X.mg H' σ (noOwn δ)->ew X Ca σ H'
 | .bad=>False
def tF (X:Cx) (g:E):TE:=fun σ H Q=>∃ δ os,StO X H σ δ os/\FQ X σ H os δ (g δ) Q
def FT (X:Cx) (σ:L2.St) (H:Hp) (os:Os) (δ:Dt) (r:R D) (Q:Bool->Hp->Prop):Prop:=match r with
 | .ok (.bl b)=>∀ H',StO X H' σ δ os->ao ↥20 (hide H' os)->Q b H'
 | .ex C=>∀ Ca,X.mg C=some (.ref Ca)->∀ H',ao ↥20 H'->Stt X.K X.mg H' σ (noOwn δ)->ew X Ca σ H'
 | _=>False
def tFT (X:Cx) (g:E):TT:=fun σ H Q=>∃ δ os,StO X H σ δ os/\FT X σ H os δ (g δ) Q
section
variable {X:Cx} {e:Expr} {g:E}
theorem uo (hx:X.ex=[]) (h:SE X e g):PE X e (tF X g):=by
 intro pins s σ H Q I ⟨δ,os,S,q⟩
 have hl:=S.lsts
 have hw:RQ X σ ↥20 (g δ) (fun v H1=>ao ↥20 H1/\∃ d,g δ=.ok d/\Rep X.K X.mg H1 v d):=by
  cases r:g δ with
  | ok d=>exact fun v H' s r=>⟨s,d,rfl,r⟩
  | ex C =>
   rw [r] at q
   exact fun Ca hc H' s'=>q Ca hc H' s' (S.noOwn s')
  | bad=>rw [r] at q;exact q
 refine thn (h _ s σ _ _ (kd I hl) ⟨δ,S.st,hw⟩) fun u s' ⟨v,H1,I1,rv,sm,d,e,rd⟩ => ?_
 obtain ⟨I2,hn⟩:=j9 hx I hl I1
 rw [e] at q
 have eh:=iz (H:=H) hn
 exact ⟨v,_,I2,rv,q v _ (S.shown sm hn) (by rw [eh];exact sm) (by rw [eh];exact rd)⟩
theorem JR (hx:X.ex=[]) (h:ST X e g):PT X e (tFT X g):=by
 intro pins s σ H Q I ⟨δ,os,S,q⟩
 have hl:=S.lsts
 have hw:RT X σ ↥20 (g δ) (fun b H1=>ao ↥20 H1/\g δ=.ok (.bl b)):=by
  cases r:g δ with
  | ok d =>
   rw [r] at q
   cases d with
   | bl b=>exact fun H' s=>⟨s,rfl⟩
   | _=>exact False.elim q
  | ex C =>
   rw [r] at q
   exact fun Ca hc H' s'=>q Ca hc H' s' (S.noOwn s')
  | bad=>rw [r] at q;exact False.elim q
 refine thn (h _ s σ _ _ (kd I hl) ⟨δ,S.st,hw⟩) fun b s' ⟨H1,I1,sm,e⟩ => ?_
 obtain ⟨I2,hn⟩:=j9 hx I hl I1
 rw [e] at q
 have eh:=iz (H:=H) hn
 exact ⟨_,I2,q _ (S.shown sm hn) (by rw [eh];exact sm)⟩
def tB (X:Cx) (g:E):TE:=fun σ H Q=>∃ δ os,StO X H σ δ os/\(∀ d,g (view δ)=.ok d->d.flat=true)/\FQ X σ H os δ (g (view δ)) Q
def tBT (X:Cx) (g:E):TT:=fun σ H Q=>∃ δ os,StO X H σ δ os/\FT X σ H os δ (g (view δ)) Q
theorem sQ (h:SE X e g):PE X e (tB X g):=by
 intro pins s σ H Q I ⟨δ,os,S,hf,q⟩
 refine h pins s σ H Q I ⟨_,S.view,?_⟩
 cases r:g (view δ) with
 | ok d =>
  rw [r] at q
  refine fun v H' s r'=>q v H' (S.mono s) (d9 os s) (oA (oN ((S.mono s).lsts)) (hf d r) r')
 | ex C =>
  rw [r] at q
  exact fun Ca hc H' s'=>q Ca hc H' ((az H os).trans s') (S.noOwn ((az H os).trans s'))
 | bad=>rw [r] at q;exact q
theorem GA (h:ST X e g):PT X e (tBT X g):=by
 intro pins s σ H Q I ⟨δ,os,S,q⟩
 refine h pins s σ H Q I ⟨_,S.view,?_⟩
 cases r:g (view δ) with
 | ok d =>
  rw [r] at q
  cases d with
  | bl b=>exact fun H' s=>q H' (S.mono s) (d9 os s)
  | _=>exact False.elim q
 | ex C =>
  rw [r] at q
  exact fun Ca hc H' s'=>q Ca hc H' ((az H os).trans s') (S.noOwn ((az H os).trans s'))
 | bad=>rw [r] at q;exact False.elim q
end
def OQ (X:Cx) (D:Ends) (F:Hp):O->Prop
 | .nx δ=>∀ σ H os,StO X H σ δ os->ao F ↥20->D.nx σ H
 | .bk δ=>∀ σ H os,StO X H σ δ os->ao F ↥20->D.bk σ H
 | .ct δ=>∀ σ H os,StO X H σ δ os->ao F ↥20->D.ct σ H
 | .rt d=>∀ v H,ao F H->Rep X.K X.mg H v d->D.rt v H
 | .ex C δ=>∀ σ H,ao F H->Stt X.K X.mg H σ δ->∀ Ca,X.mg C=some (.ref Ca)->ew X Ca σ H
 | .mk C δ=>∀ σ H,ao F H->∀ Ca,X.mg C=some (.ref Ca)->em X Ca σ H
 | .hx C δ=>∀ σ H,ao F H->Stt X.K X.mg H σ δ->∀ Ca,X.mg C=some (.ref Ca)->ehx X Ca σ H
 | .bad=>False
def tS (X:Cx) (g:S):TS:=fun D σ H=>∃ δ os,StO X H σ δ os/\OQ X D ↥20 (g δ)
@[irreducible] def SS (X:Cx) (st:Stmt) (g:S):Prop:=PS X st (tS X g)
@[irreducible] def SSs (X:Cx) (st:List Stmt) (g:S):Prop:=PSs X st (tS X g)
unseal SS SSs
theorem OQ.mono {X:Cx} {D:Ends} {F F':Hp} {o:O} (s:ao F F') (h:OQ X D F o):OQ X D F' o:=by
 cases o with
 | nx δ=>exact fun σ H os S s'=>h σ H os S (s.trans s')
 | bk δ=>exact fun σ H os S s'=>h σ H os S (s.trans s')
 | ct δ=>exact fun σ H os S s'=>h σ H os S (s.trans s')
 | rt d=>exact fun v H s' r=>h v H (s.trans s') r
 | ex C δ=>exact fun σ H s' S=>h σ H (s.trans s') S
 | mk C δ=>exact fun σ H s'=>h σ H (s.trans s')
 | hx C δ=>exact fun σ H s' S=>h σ H (s.trans s') S
 | bad=>exact h
theorem OQ.lv {X:Cx} {D:Ends} {F:Hp} {o:O} {n:L2.St->Hp->Prop} (hn:∀ δ,o ≠ .nx δ) (h:OQ X D F o):OQ X { D with nx:=n } F o:=by
 cases o with
 | nx δ=>exact absurd rfl (hn δ)
 | _=>exact h
section
variable {X:Cx} {N:List Str} {H:Hp} {σ:L2.St} {δ:Dt} {os:Os}
theorem aH (os:Os) (i:Nat):∀ p∈os.filter (fun p=>p.1 != i),p∈os/\p.1≠i:=fun p hp=>by
 have:=List.mem_filter.mp hp
 exact ⟨this.1,by simpa using this.2⟩
theorem lG (h:∀ p∈os',p∈os):ao ↥20 (hide H os'):=fun b o e=>by
 have hb:b∉jj os:=fun z=>by rw [fK z] at e;cases e
 rw [aZ hb] at e
 rw [aZ fun z => ?_];exact e
 obtain ⟨p,hp,rfl⟩:=gp z
 exact hb (cI (h p hp))
theorem StO.set (S:StO X H σ δ os) (r:Rep X.K X.mg ↥20 v d):StO X H (σ.set i (some v)) (δ.set i (some d)) (os.filter fun p=>p.1 != i)/\ao ↥20 (hide H (os.filter fun p=>p.1 != i)):=by
 have sm:ao ↥20 (hide H (os.filter fun p=>p.1 != i)):=lG fun p hp=>(aH os i p hp).1
 refine ⟨⟨(S.st.mono sm).set (r.mono sm),fun p hp => ?_,fun j ds e => ?_,fun a b c h1 h2=>S.inj a b c (aH os i _ h1).1 (aH os i _ h2).1⟩,sm⟩
 ·obtain ⟨hp',ne⟩:=aH os i p hp
  obtain ⟨xs,ds,h1,h2,h3,h4⟩:=S.lst p hp'
  exact ⟨xs,ds,h1,by rw [List.getElem?_set_ne (Ne.symm ne)];exact h2,by rw [List.getElem?_set_ne (Ne.symm ne)];exact h3,h4.mono sm⟩
 ·by_cases hj:j=i
  ·subst hj
   by_cases hl:j<δ.length
   ·rw [List.getElem?_set_self hl] at e
    have e':d=.own ds:=Option.some.inj (Option.some.inj e)
    subst e'
    cases r
   ·rw [List.getElem?_eq_none (by simp;omega)] at e
    cases e
  ·rw [List.getElem?_set_ne (Ne.symm hj)] at e
   obtain ⟨a,ha⟩:=S.own j ds e
   exact ⟨a,List.mem_filter.mpr ⟨ha,by simpa using hj⟩⟩
structure Sx (X:Cx) (N:List Str):Prop where
 sc:Sc X N
 ex:X.ex=[]
variable {e c:Expr} {g gc:E} {pos:Pos} {st:Stmt} {rest body els:List Stmt} {gs gr gb ge:S}
theorem FQ.then {r:R EV.D} {Q:VK} {D:Ends} {f:EV.D->O} (h:OQ X D ↥20 (match r with | .ok d=>f d | .ex C=>.ex C (noOwn δ) | .bad=>.bad))
  (hq:∀ d v H',r=.ok d->StO X H' σ δ os->ao ↥20 (hide H' os)->Rep X.K X.mg (hide H' os) v d->OQ X D (hide H' os) (f d)->Q v H'):FQ X σ H os δ r Q:=by
 cases r with
 | ok d=>exact fun v H' S s r=>hq d v H' rfl S s r (OQ.mono s h)
 | ex C=>exact fun Ca hc H' s' st=>h σ H' s' st Ca hc
 | bad=>exact h
theorem aE:SSs X [] aA:=PSs.weak xl fun D σ H ⟨δ,os,S,h⟩=>h σ H os S ↥21
theorem ai (h:SS X st gs):SSs X [st] gs:=oG h
theorem ae (h:SS X st gs) (hr:SSs X rest gr):SSs X (st::rest) (seq gs gr):=PSs.weak (dG h hr) fun D σ H ⟨δ,os,S,h⟩=>⟨δ,os,S,by
 unfold seq at h
 cases q:gs δ with
 | nx δ' =>
  rw [q] at h
  exact fun σ' H' os' S' s'=>⟨δ',os',S',OQ.mono s' h⟩
 | _=>rw [q] at h;exact OQ.lv (fun _ z=>nomatch z) h⟩
theorem ED (C:Sx X N) (i:Nat) (hN:N[i]? = some x) (hx:Sto X x) (h:SE X e g) (hsw:swapsWith e (some (.Name x pos')) pos.line X.env=pure false:=by rfl):SS X (.Assign [.Name x pos'] e pos) (assign i g) :=
 PS.weak (p7 (i:=i) (by rw [C.sc.n];exact C.sc.nd) (by rw [C.sc.n];exact hN) hx.1 (uo C.ex h) hsw hx.2) fun D σ H ⟨δ,os,S,q⟩=>⟨δ,os,S,FQ.then q fun d v H' e S' s r q'=>by
  obtain ⟨S2,s2⟩:=S'.set (i:=i) r
  exact q' _ _ _ S2 s2⟩
theorem Il (C:Sx X N) (h:SE X e g) (hs:swapsWith e none pos.line X.env=pure false:=by rfl):SS X (.Expr e pos) (expr g) :=
 PS.weak (jb (uo C.ex h) hs) fun D σ H ⟨δ,os,S,q⟩=>⟨δ,os,S,FQ.then q fun d v H' e S' s r q'=>q' _ _ _ S' ↥21⟩
theorem Ls (C:Sx X N) (h:SE X e g):SS X (.Return (some e) pos) (ret g) :=
 PS.weak (xn (uo C.ex h)) fun D σ H ⟨δ,os,S,q⟩=>⟨δ,os,S,FQ.then q fun d v H' e S' s r q'=>q' v H' (az _ _) (r.mono (az _ _))⟩
theorem FT.then {r:R EV.D} {Q:Bool->Hp->Prop} {D:Ends} {ta fa:O} (h:OQ X D ↥20 (match r with | .ok ↥32=>ta | .ok ↥28=>fa | .ex C=>.ex C (noOwn δ) | _=>.bad))
  (hq:∀ b H',StO X H' σ δ os->ao ↥20 (hide H' os)->OQ X D (hide H' os) (if b=true then ta else fa)->Q b H'):FT X σ H os δ r Q:=by
 cases r with
 | ok d =>
  cases d with
  | bl b =>
   cases b with
   | true=>exact fun H' S s=>hq true H' S s (by rw [if_pos rfl];exact OQ.mono s h)
   | false=>exact fun H' S s=>hq false H' S s (by rw [if_neg ↥2];exact OQ.mono s h)
  | _=>exact h
 | ex C=>exact fun Ca hc H' s' st=>h σ H' s' st Ca hc
 | bad=>exact h
theorem P7 (C:Sx X N) (hc:ST X c gc) (ha:SSs X body gb) (hb:SSs X els ge):SS X (.If c body els pos) (ifs gc gb ge) :=
 PS.weak (EM (JR C.ex hc) ha hb) fun D σ H ⟨δ,os,S,q⟩=>⟨δ,os,S,FT.then q fun b H' S' s q'=>by
  cases b with
  | true=>exact G8 ⟨δ,os,S',by simpa using q'⟩
  | false=>exact F9 ⟨δ,os,S',by simpa using q'⟩⟩
theorem ju {α:Type} {xs:List α} {n:Nat} {x:α} (h:xs[n]? = some x):xs.drop n=x::xs.drop (n+1):=by
 obtain ⟨h1,h2⟩:=List.getElem?_eq_some_iff.mp h
 rw [List.drop_eq_getElem_cons h1,h2]
def Pv (X:Cx) (D:Ends) (F F1:Hp) (i:Nat) (gb:S) (ds:List EV.D) (n:Nat) (σ:L2.St) (H:Hp):Prop:=∃ δ os,StO X H σ δ os/\ao F1 ↥20/\ao F F1/\OQ X D F (forL i gb (ds.drop n) δ)
theorem tw {D:Ends} {F F1:Hp} {i n:Nat} {ds:List EV.D} {d:EV.D} {v:V} {δ:Dt} {os:Os} (hd:ds[n]? = some d) (S:StO X H σ δ os) (s1:ao F1 ↥20) (s0:ao F F1) (q:OQ X D F (forL i gb (ds.drop n) δ)) (r:Rep X.K X.mg ↥20 v d) :
  sD i v σ H fun σ2 H2=>tS X gb { D with nx:=Pv X D F F1 i gb ds (n+1),ct:=Pv X D F F1 i gb ds (n+1),bk:=D.nx } σ2 H2:=by
 rw [ju hd] at q
 obtain ⟨S2,s2⟩:=S.set (i:=i) r
 refine ⟨_,_,S2,?_⟩
 unfold forL trn at q
 have s3:=(s0.trans s1).trans s2
 cases e:gb (δ.set i (some d)) with
 | nx δ1=>rw [e] at q;exact fun σ' H' os' S' s'=>⟨δ1,os',S',(s1.trans s2).trans s',s0,q⟩
 | ct δ1=>rw [e] at q;exact fun σ' H' os' S' s'=>⟨δ1,os',S',(s1.trans s2).trans s',s0,q⟩
 | bk δ1=>rw [e] at q;exact fun σ' H' os' S' s'=>q σ' H' os' S' (s3.trans s')
 | rt d'=>rw [e] at q;exact fun v' H' s' r'=>q v' H' (s3.trans s') r'
 | ex C δ1=>rw [e] at q;exact fun σ' H' s' r'=>q σ' H' (s3.trans s') r'
 | mk C δ1=>rw [e] at q;exact fun σ' H' s'=>q σ' H' (s3.trans s')
 | hx C δ1=>rw [e] at q;exact fun σ' H' s' r'=>q σ' H' (s3.trans s') r'
 | bad=>rw [e] at q;exact q
theorem wJ {D:Ends} {F F1:Hp} {i n:Nat} {ds:List EV.D} {d:EV.D} {v:V} (hd:ds[n]? = some d) (r:∀ H',ao F1 H'->Rep X.K X.mg H' v d) (p:Pv X D F F1 i gb ds n σ H) :
  sD i v σ H fun σ2 H2=>tS X gb { D with nx:=Pv X D F F1 i gb ds (n+1),ct:=Pv X D F F1 i gb ds (n+1),bk:=D.nx } σ2 H2:=by
 obtain ⟨δ,os,S,s1,s0,q⟩:=p
 exact tw hd S s1 s0 q (r _ s1)
theorem JY {D:Ends} {F F1:Hp} {i n:Nat} {ds:List EV.D} (hn:ds.length<=n) (p:Pv X D F F1 i gb ds n σ H):D.nx σ H:=by
 obtain ⟨δ,os,S,s1,s0,q⟩:=p
 rw [List.drop_eq_nil_of_le hn] at q
 exact q σ H os S (s0.trans s1)
structure Lp (X:Cx):Prop where
 own:PassesOwn ↥4 X.A X.env X.xe
 calm:X.calm=true
theorem EH {lo hi:Int} {k:Nat} (h:k<(hi - lo).toNat):(p6 lo hi)[k]? = some (.int (lo+k)):=by
 unfold p6
 rw [List.getElem?_map,List.getElem?_range h]
 rfl
theorem tN (lo hi:Int):(p6 lo hi).length=(hi - lo).toNat:=by simp [p6]
end
end ES
namespace ES
open PySem PySem.Spec PyProof.Rows L2 EV
unseal SE ST SW SA SS SSs
theorem kU {P:Program} {w:World} {H:Hp} {h:Heap} {a:Addr} {o:HO} (x:gW P w H h a o):∃ ob,h.get? a=some ob:=by
 cases o with
 | lst xs=>obtain ⟨_,_,_,_,e⟩:=x;exact ⟨_,e⟩
 | tup xs=>obtain ⟨_,_,_,ob,e,_⟩:=x;exact ⟨_,e⟩
 | dK kvs=>obtain ⟨_,_,_,_,ob,_,_,e,_⟩:=x;exact ⟨_,e⟩
 | dT kvs=>obtain ⟨_,_,_,_,ob,_,_,e,_⟩:=x;exact ⟨_,e⟩
 | set S n=>obtain ⟨ob,_,_,_,e,_⟩:=x;exact ⟨_,e⟩
 | ins C dx fs=>obtain ⟨_,_,_,e,_⟩:=x;exact ⟨_,e⟩
 | own y=>exact x
 | xd fs=>obtain ⟨_,⟨_,_,_,e,_⟩,_⟩:=x;exact ⟨_,e⟩
 | rng lo hi=>obtain ⟨_,_,_,e⟩:=x;exact ⟨_,e⟩
 | frz ob u=>obtain ⟨e,_⟩:=x;exact ⟨_,e⟩
 | tbl ps=>exact ⟨_,(show h.get? a=some _ from x)⟩
 | met f y=>exact ⟨_,(show h.get? a=some _ from x)⟩
 | ext φ=>obtain ⟨_,e,_⟩:=x;exact e
theorem pM {fs:List Addr} {H H':Hp} {h h1 h2 B:Heap} (u:Un fs [] H H' h h1) (same:ao H H') (i1:∀ b o,h.get? b=some o->H b=none->b∉fs->B.get? b=some o)
  (i2:∀ b u o,H' b=some u->h1.get? b=some o->B.get? b=some o) (st:B.StaysIn h2) (up:h1.UpToSlots h2) (ff:∀ b∈fs,∀ o,h1.get? b=some o->∀ vs,o.data ≠ .fields vs):Un fs [] H H' h h2:=by
 have slot:∀ b o,h.get? b=some o->H b=none->b∈fs->b∉([]:List Addr)->∃ sl,h2.get? b=some { o with slots:=sl }:=fun b o e n hb hx=>by
  obtain ⟨sl,e1⟩:=u.slot b o e n hb hx
  obtain ⟨sl2,e2⟩:=up b _ e1 (ff b hb _ e1)
  exact ⟨sl2,e2⟩
 refine ⟨fun b o e n hb _=>st b o (i1 b o e n hb),slot,u.free,fun b o e hx => ?_,u.tups,u.frzs,u.tbls⟩
 cases n:H b with
 | none =>
  by_cases hb:b∈fs
  ·obtain ⟨sl,e2⟩:=slot b o e n hb hx
   exact ⟨_,e2⟩
  ·exact ⟨o,st b o (i1 b o e n hb)⟩
 | some x =>
  obtain ⟨o',e1⟩:=u.there b o e hx
  exact ⟨o',st b o' (i2 b x o' (same b x n) e1)⟩
theorem jf {P:Program} {w:World} {H':Hp} {h1 h2 B:Heap} (hok:HOk P w H' h1) (i2:∀ b u o,H' b=some u->h1.get? b=some o->B.get? b=some o) (st:B.StaysIn h2):HOk P w H' h2:=fun a o e =>
 (hok a o e).stay (fun b u hb q=>by
  rcases hb with rfl | hb
  ·exact st b u (i2 b o u e q)
  ·exact st b u (i2 b _ u hb q)) (fun _ q=>q) fun _ _ q=>q
theorem ui {P:Program} {w:World} {H':Hp} {h1 h2 B:Heap} (hok:HOk P w H' h1) (i2:∀ b u o,H' b=some u->h1.get? b=some o->B.get? b=some o) (st:B.StaysIn h2):∀ b u o,H' b=some u->h2.get? b=some o->B.get? b=some o:=fun b u o e q=>by
 obtain ⟨ob,e1⟩:=kU (hok b u e)
 have e2:=i2 b u ob e e1
 have e3:=st b ob e2
 rw [q] at e3
 cases e3
 exact e2
theorem sE {base h:Heap} {l:List Env} (x:h.FunFrames base l):∀ b∈frs l,∀ o,h.get? b=some o->∀ vs,o.data ≠ .fields vs:=fun b hb o e=>by
 obtain ⟨_,o',e',d⟩:=x.mem hb
 rw [e] at e'
 cases e'
 exact d
section
variable {X:Cx} {pins:List ↥10} {σ:L2.St} {H H':Hp} {s s':Shared} {C ea:Addr}
structure Own (X:Cx):Prop where
 stk:X.stack=X.env::X.outer
 frm:X.env.frame=some X.env.locals
 ex:X.ex=[]
theorem Own.frs (h:Own X):L2.frs X.stack=X.env.locals::X.fs:=by
 rw [h.stk]
 unfold L2.frs
 rw [List.filterMap_cons,h.frm]
 rfl
theorem iF (I:Inv X pins σ H s) (O:Own X) {B:Heap} (i1:∀ b o,s.heap.get? b=some o->H b=none->b∉L2.frs X.stack->B.get? b=some o):∀ b o,X.s₀.heap.get? b=some o->X.H₀ b=none->b∉X.fs->B.get? b=some o:=fun b o e n hb=>by
 have hx:b∉X.ex:=by rw [O.ex];simp
 refine i1 b o (I.base.keep b o e n hb hx) (I.base.free b o e n hx) fun z => ?_
 rw [O.frs] at z
 rcases List.mem_cons.mp z with q | q
 ·exact absurd (Nat.lt_of_lt_of_le (Heap.lt_size e) I.ok.above) (by rw [q];exact Nat.lt_irrefl _)
 ·exact hb q
theorem yc (I:Inv X pins σ H s) (O:Own X) (h:s.heap.get? ea=none):X.s₀.heap.get? ea=none:=by
 cases q:X.s₀.heap.get? ea with
 | none=>rfl
 | some o =>
  obtain ⟨o',e⟩:=I.base.there ea o q (by rw [O.ex];simp)
  rw [h] at e
  cases e
theorem pv (I:Inv X pins σ H s) (O:Own X):Un X.fs [] X.H₀ H X.s₀.heap s.heap:=by
 have z:=I.base
 rw [O.ex] at z
 exact z
theorem yK (I:Inv X pins σ H s) (F:FlyX X.prog X.w X.stack H s C H' ea s'):Inv X pins σ H' s':=I.call' (ch:=[]) F.os F.un F.hok F.bare fun b z=>absurd z (by simp)
theorem yr {M:Model} {E:Value->Shared->Prop} {Q:Unit->Shared->Prop} (I:Inv X pins σ H s) (O:Own X) (F:FlyX X.prog X.w X.stack H s C H' ea s') (same:ao X.H₀ H')
  (hQ:∀ s'',FlyX X.prog X.w X.outer X.H₀ X.s₀ C H' ea s''->Q () s''):wpAny M X.A (leaving X.env (.ref ea)) Q E s':=by
 obtain ⟨a0,B,hfl,i1,i2⟩:=F.fly
 have I':=yK I F
 have ff:=sE hfl.2.2.1
 rw [O.stk] at hfl
 refine wpAny_leaves_onW (by rw [I.ok.frames,O.stk]) O.frm hfl fun h' f1 up=>hQ _ ⟨F.os.trans I.os,F.bare,?_,jf F.hok i2 f1.1,same,yc I O F.new,a0,B,f1,iF I O i1,ui F.hok i2 f1.1⟩
 exact pM (pv I' O) same (iF I O i1) i2 f1.1 up fun b hb=>ff b (by rw [O.frs];exact List.mem_cons_of_mem _ hb)
theorem rZ {M:Model} {E:Value->Shared->Prop} {Q:Unit->Shared->Prop} (O:Own X) (F:HeldX X pins σ C H' ea s') (same:ao X.H₀ H')
  (hQ:∀ s'',FlyX X.prog X.w X.outer X.H₀ X.s₀ C H' ea s''->Q () s''):wpAny M X.A (leaving X.env (.ref ea)) Q E s':=by
 obtain ⟨a0,B,hh,i1,i2⟩:=F.fly
 have I:=F.inv
 have ff:=sE hh.2.2.1
 rw [O.stk] at hh
 unfold leaving
 refine wpAny_bind (wpAny_noteFrame_againW O.frm hh.2.2.2 ?_)
 refine wpAny_landsW hh fun h' f1 up => ?_
 obtain ⟨k1,k2,⟨_,_,k3⟩,k4⟩:=f1
 refine hQ _ ⟨I.os,I.bare,?_,jf I.hok i2 k1,same,F.new,a0,B,⟨k1,k2,k3,k4⟩,i1,ui I.hok i2 k1⟩
 exact pM (pv I O) same i1 i2 k1 up fun b hb=>ff b (by rw [O.frs];exact List.mem_cons_of_mem _ hb)
theorem rY {M:Model} {E:Value->Shared->Prop} {Q:Unit->Shared->Prop} {h1:Heap} {vs:List Value} (I:Inv X pins σ H s) (O:Own X) (made:Heap.MadeExcOf s.heap h1 ea (.ref C) vs) (same:ao X.H₀ H)
  (hQ:∀ s'',FlyX X.prog X.w X.outer X.H₀ X.s₀ C H ea s''->Q () s''):wpAny M X.A (leaving X.env (.ref ea)) Q E { s with heap:=h1 }:=by
 have hst:=I.stack
 have ff:=sE hst
 have i1:∀ b o,s.heap.get? b=some o->H b=none->b∉L2.frs X.stack->(PySem.W.hideAll s.heap (L2.frs X.stack)).get? b=some o:=fun b o e _ hb=>PySem.W.hideAll_get _ e hb
 have i2:∀ b u o,H b=some u->s.heap.get? b=some o->(PySem.W.hideAll s.heap (L2.frs X.stack)).get? b=some o:=fun b u o e q=>PySem.W.hideAll_get _ q fun z=>by
  rw [I.stkFree b z] at e
  cases e
 have hl:=PySem.W.funFrames_hide (as:=L2.frs X.stack) hst fun env he b hb=>List.mem_filterMap.mpr ⟨env,he,hb⟩
 rw [O.stk] at hl
 refine wpAny_leaves_madeW (s:={ s with heap:=h1 }) (base:=PySem.W.hideAll s.heap (L2.frs X.stack)) (by rw [I.ok.frames,O.stk]) O.frm (fun b o e=>PySem.W.of_hideAll _ e) (by rw [O.stk] at *;exact hl) made fun h' t f1 _ _ up=>hQ _ ⟨I.os,I.bare,?_,jf I.hok i2 f1.1,same,yc I O made.new,_,_,f1,iF I O i1,ui I.hok i2 f1.1⟩
 exact pM (pv I O) same (iF I O i1) i2 f1.1 ((Heap.UpToSlots.of_keeps made.keeps).trans up) fun b hb=>ff b (by rw [O.frs];exact List.mem_cons_of_mem _ hb)
end
def CXF (P:Program) (w:World):CXT:=fun outer H s E e s'=>∃ C H' ea,e=.ref ea/\FlyX P w outer H s C H' ea s'/\E (.ref C) none H'
def spP (K:PySem.W.Frag) (mg:Str->Option Value) (f:List D->R D):Sp:=fun vs H Q E=>∃ ds,Reps K mg H vs ds/\match f ds with
 | .ok d=>∀ v H',ao H H'->Rep K mg H' v d->Q v H'
 | .ex C=>∀ Ca,mg C=some (.ref Ca)->∀ H',ao H H'->E (.ref Ca) none H'
 | .bad=>False
theorem kS {CX:CXT} {P:Program} {w:World} {K:PySem.W.Frag} {mg:Str->Option Value} {base:Heap} {N:List Str} {qual:Str} {sc:Scope} {f:Addr} {cdv:Value} {A:Around} {outer:List Env} {s:Shared} {H:Hp} {E:XK} :
  Own (v9 CX P w K mg base N qual sc f cdv A outer s H E):=⟨rfl,rfl,rfl⟩
section
variable {P:Program} {w:World} {K:PySem.W.Frag} {mg:Str->Option Value} {base:Heap} {N:List Str} {qual:Str} {sc:Scope} {f:Addr} {cdv:Value} {A:Around} {outer:List Env} {s:Shared} {H H':Hp} {E:XK} {C:Addr} {σ:L2.St}
theorem C5 (same:ao H H') (hE:E (.ref C) none H'):ew (v9 (CXF P w) P w K mg base N qual sc f cdv A outer s H E) C σ H' :=
 fun pins H1 s1 ea s' I F=>yr I kS F same fun s'' F'=>⟨C,H',ea,rfl,F',hE⟩
theorem yR (same:ao H H') (hE:E (.ref C) none H'):ehx (v9 (CXF P w) P w K mg base N qual sc f cdv A outer s H E) C σ H' :=
 fun pins ea s' F=>rZ kS F same fun s'' F'=>⟨C,H',ea,rfl,F',hE⟩
theorem C7 (same:ao H H') (hE:E (.ref C) none H'):em (v9 (CXF P w) P w K mg base N qual sc f cdv A outer s H E) C σ H' :=
 fun pins s1 h' ea vs I made=>rY I kS made same fun s'' F'=>⟨C,H',ea,rfl,F',hE⟩
end
structure ScF (N G ps:List Str) (sc:Scope):Prop where
 fs:FnScope N ps sc
 loc:∀ x∈N,Loc sc x
 glb:∀ x∈G,sc.names.lookup x=some .globalImplicit
 dbg:∀ x∈N,↥35=false/\(x == ("__classdict__":Str))=false
 dbgG:∀ x∈G,↥35=false/\x≠"__name__"
structure Pl (X:Cx) (N G:List Str):Prop extends Sx X N where
 sto:∀ x∈N,Sto X x
 gb:∀ x∈G,Gb X x
noncomputable instance locDec {sc:Scope} {x:Str}:Decidable (Loc sc x):=inferInstanceAs (Decidable (_\/_))
theorem CW {sc:Scope} {x:Str} (h:Loc sc x):Vis sc x:=h.elim .inl fun z=>.inr (.inl z)
theorem pP {K:PySem.W.Frag} {mg:Str->Option Value} {H:Hp} {N:List Str} {n m:Nat}:∀ {vs:List V} {ds:List D},Reps K mg H vs ds->ds.length=n->N.length=m->Stt K mg H (L2.start N vs) (EV.start n m ds):=by
 intro vs ds r hn hm
 have hl:=r.length
 refine ⟨by simp [L2.start,EV.start,hl,hn,hm],fun i d e _ => ?_⟩
 unfold EV.start at e
 by_cases hi:i<ds.length
 ·rw [List.getElem?_append_left (by simpa using hi),List.getElem?_map] at e
  cases q:ds[i]? with
  | none=>rw [q] at e;cases e
  | some d' =>
   rw [q] at e
   have e':d'=d:=Option.some.inj (Option.some.inj e)
   subst e'
   obtain ⟨v,h1,h2⟩:=r.get q
   exact ⟨v,by unfold L2.start;rw [List.getElem?_append_left (by simp;omega),List.getElem?_map,h1];rfl,h2⟩
 ·rw [List.getElem?_append_right (by simpa using hi),List.getElem?_replicate] at e
  split at e<;>cases e
theorem kD {K:PySem.W.Frag} {mg:Str->Option Value} {H:Hp} {n m:Nat} {vs:List V} {ds:List D} (r:Reps K mg H vs ds) (i:Nat) (es:List D):(EV.start n m ds)[i]? ≠ some (some (.own es)):=fun e=>by
 unfold EV.start at e
 by_cases hi:i<ds.length
 ·rw [List.getElem?_append_left (by simpa using hi),List.getElem?_map] at e
  cases q:ds[i]? with
  | none=>rw [q] at e;cases e
  | some d' =>
   rw [q] at e
   have e':d'=.own es:=Option.some.inj (Option.some.inj e)
   subst e'
   obtain ⟨v,h1,h2⟩:=r.get q
   cases h2
 ·rw [List.getElem?_append_right (by simpa using hi),List.getElem?_replicate] at e
  split at e<;>cases e
theorem Mn {P:Program} {w:World} {K:PySem.W.Frag} {mg:Str->Option Value} {base:Heap} {x qual:Str} {st:Stmt} {f:Addr} {fd:FuncData} {N G ps:List Str} {k n m:Nat} {g:S}
  (F:Fun K x qual st f fd) (S:ScF N G ps (aa st)) (hn:ps.length=n) (hm:N.length=m)
  (hbody:∀ X:Cx,X.prog=P->X.w=w->X.K=K->X.mg=mg->X.base=base->Room k X.A->Lp X->Own X->Pl X N G->X.env.scope=aa st->SSs X (ag st) g) :
  FnOk P w K mg base (CXF P w) (k+1) f fd ps (spP K mg (fn n m g)):=by
 obtain ⟨oc,od,kV,doc,pm,an,cdv,ct,osl,rfl,lk,hcd⟩:=F.ex
 have len:∀ {ds:List D},fn n m g ds ≠ .bad->ds.length=n:=fun {ds} h=>by
  unfold fn at h
  split at h
  ·assumption
  ·exact absurd rfl h
 refine Gi lk hcd S.fs (fun vs H Q E h => ?_) fun A outer s H vs Q E hr h => ?_
 ·obtain ⟨ds,rs,h⟩:=h
  rw [rs.length,hn]
  refine len fun z => ?_
  rw [z] at h
  exact h
 ·obtain ⟨ds,rs,h⟩:=h
  have hl:ds.length=n:=len fun z=>by rw [z] at h;exact h
  refine ⟨_,hbody (v9 (CXF P w) P w K mg base N qual (aa st) f cdv A outer s H E) rfl rfl rfl rfl rfl hr ⟨PassesOwn.leaving,rfl⟩ kS ⟨⟨⟨rfl,S.fs.nd,fun y hy=>CW (S.loc y hy),S.dbg⟩,rfl⟩,fun y hy=>⟨S.loc y hy,.inl rfl⟩,fun y hy=>⟨S.glb y hy,(S.dbgG y hy).1,(S.dbgG y hy).2⟩⟩ rfl,_,[],StO.nil (pP rs hl hm) (kD rs),?_⟩
  rw [kf]
  unfold fn at h
  rw [if_pos hl] at h
  cases e:g (EV.start n m ds) with
  | nx δ=>rw [e] at h;exact fun σ H' os _ s'=>h .non H' (s'.trans (az _ _)) .non
  | rt d=>rw [e] at h;exact fun v H' s' r=>h v H' s' r
  | ex C δ=>rw [e] at h;exact fun σ H' s' _ Ca hc=>C5 s' (h Ca hc H' s')
  | mk C δ=>rw [e] at h;exact fun σ H' s' Ca hc=>C7 s' (h Ca hc H' s')
  | hx C δ=>rw [e] at h;exact fun σ H' s' _ Ca hc=>yR s' (h Ca hc H' s')
  | bk δ=>rw [e] at h;exact False.elim h
  | ct δ=>rw [e] at h;exact False.elim h
  | bad=>rw [e] at h;exact False.elim h
abbrev at5 (X:Cx) (P:Program) (w:World) (K:PySem.W.Frag) (mg:Str->Option Value) (base:Heap):Cx:={ X with prog:=P,w:=w,K:=K,mg:=mg,base:=base }
theorem qq {P:Program} {w:World} {K:PySem.W.Frag} {mg:Str->Option Value} {base:Heap} {x qual:Str} {st:Stmt} {f:Addr} {fd:FuncData} {N G ps:List Str} {k n m:Nat} {g:S}
  (F:Fun K x qual st f fd) (S:ScF N G ps (aa st)) (hn:ps.length=n) (hm:N.length=m)
  (hbody:∀ X:Cx,Room k (at5 X P w K mg base).A->Lp (at5 X P w K mg base)->Own (at5 X P w K mg base)->Pl (at5 X P w K mg base) N G->(at5 X P w K mg base).env.scope=aa st->SSs (at5 X P w K mg base) (ag st) g) :
  FnOk P w K mg base (CXF P w) (k+1) f fd ps (spP K mg (fn n m g)):=Mn F S hn hm fun X hP hw hK hM hB hr L O Pl hS=>by
 subst hP hw hK hM hB
 exact hbody X hr L O Pl hS
theorem us1 {C:List Value->Prop} (h:∀ a,C [a]) (us:List Value) (hl:us.length=1):C us:=by
 match us,hl with
 | [_],_=>exact h _
theorem us2 {C:List Value->Prop} (h:∀ a b,C [a,b]) (us:List Value) (hl:us.length=2):C us:=by
 match us,hl with
 | a::us,hl=>exact us1 (C:=fun us=>C (a::us)) (h a) us (Nat.succ.inj hl)
theorem us3 {C:List Value->Prop} (h:∀ a b c,C [a,b,c]) (us:List Value) (hl:us.length=3):C us:=by
 match us,hl with
 | a::us,hl=>exact us2 (C:=fun us=>C (a::us)) (h a) us (Nat.succ.inj hl)
theorem us4 {C:List Value->Prop} (h:∀ a b c d,C [a,b,c,d]) (us:List Value) (hl:us.length=4):C us:=by
 match us,hl with
 | a::us,hl=>exact us3 (C:=fun us=>C (a::us)) (h a) us (Nat.succ.inj hl)
theorem us5 {C:List Value->Prop} (h:∀ a b c d e,C [a,b,c,d,e]) (us:List Value) (hl:us.length=5):C us:=by
 match us,hl with
 | a::us,hl=>exact us4 (C:=fun us=>C (a::us)) (h a) us (Nat.succ.inj hl)
theorem us6 {C:List Value->Prop} (h:∀ a b c d e f,C [a,b,c,d,e,f]) (us:List Value) (hl:us.length=6):C us:=by
 match us,hl with
 | a::us,hl=>exact us5 (C:=fun us=>C (a::us)) (h a) us (Nat.succ.inj hl)
theorem dU {K:PySem.W.Frag} {x qual:Str} {st:Stmt} {f:Addr} {fd:FuncData} {ps:List Str} (F:Fun K x qual st f fd) (hp:ps.length=1)
  (h:∀ (kV doc pm:Value) (an:Option Addr) (cdv ct:Value) (a:Value),bindArgs ↥0 ⟨[a],[]⟩=pure (ps.zip [a])):Binds K fd ps [] :=
 F.binds fun kV doc pm an cdv ct us hl=>us1 (C:=fun us=>bindArgs ↥0 ⟨us,[]⟩=pure (ps.zip us)) (h kV doc pm an cdv ct) us (hl.trans hp)
theorem bw {K:PySem.W.Frag} {x qual:Str} {st:Stmt} {f:Addr} {fd:FuncData} {ps:List Str} (F:Fun K x qual st f fd) (hp:ps.length=2)
  (h:∀ (kV doc pm:Value) (an:Option Addr) (cdv ct:Value) (a b:Value),bindArgs ↥0 ⟨[a,b],[]⟩=pure (ps.zip [a,b])):Binds K fd ps [] :=
 F.binds fun kV doc pm an cdv ct us hl=>us2 (C:=fun us=>bindArgs ↥0 ⟨us,[]⟩=pure (ps.zip us)) (h kV doc pm an cdv ct) us (hl.trans hp)
theorem dS {K:PySem.W.Frag} {x qual:Str} {st:Stmt} {f:Addr} {fd:FuncData} {ps:List Str} (F:Fun K x qual st f fd) (hp:ps.length=3)
  (h:∀ (kV doc pm:Value) (an:Option Addr) (cdv ct:Value) (a b c:Value),bindArgs ↥0 ⟨[a,b,c],[]⟩=pure (ps.zip [a,b,c])):Binds K fd ps [] :=
 F.binds fun kV doc pm an cdv ct us hl=>us3 (C:=fun us=>bindArgs ↥0 ⟨us,[]⟩=pure (ps.zip us)) (h kV doc pm an cdv ct) us (hl.trans hp)
theorem uG {K:PySem.W.Frag} {x qual:Str} {st:Stmt} {f:Addr} {fd:FuncData} {ps:List Str} (F:Fun K x qual st f fd) (hp:ps.length=4)
  (h:∀ (kV doc pm:Value) (an:Option Addr) (cdv ct:Value) (a b c d:Value),bindArgs ↥0 ⟨[a,b,c,d],[]⟩=pure (ps.zip [a,b,c,d])):Binds K fd ps [] :=
 F.binds fun kV doc pm an cdv ct us hl=>us4 (C:=fun us=>bindArgs ↥0 ⟨us,[]⟩=pure (ps.zip us)) (h kV doc pm an cdv ct) us (hl.trans hp)
theorem Kh {K:PySem.W.Frag} {x qual:Str} {st:Stmt} {f:Addr} {fd:FuncData} {ps:List Str} (F:Fun K x qual st f fd) (hp:ps.length=5)
  (h:∀ (kV doc pm:Value) (an:Option Addr) (cdv ct:Value) (a b c d e:Value),bindArgs ↥0 ⟨[a,b,c,d,e],[]⟩=pure (ps.zip [a,b,c,d,e])):Binds K fd ps [] :=
 F.binds fun kV doc pm an cdv ct us hl=>us5 (C:=fun us=>bindArgs ↥0 ⟨us,[]⟩=pure (ps.zip us)) (h kV doc pm an cdv ct) us (hl.trans hp)
theorem Kg {K:PySem.W.Frag} {x qual:Str} {st:Stmt} {f:Addr} {fd:FuncData} {ps:List Str} (F:Fun K x qual st f fd) (hp:ps.length=6)
  (h:∀ (kV doc pm:Value) (an:Option Addr) (cdv ct:Value) (a b c d e f:Value),bindArgs ↥0 ⟨[a,b,c,d,e,f],[]⟩=pure (ps.zip [a,b,c,d,e,f])):Binds K fd ps [] :=
 F.binds fun kV doc pm an cdv ct us hl=>us6 (C:=fun us=>bindArgs ↥0 ⟨us,[]⟩=pure (ps.zip us)) (h kV doc pm an cdv ct) us (hl.trans hp)
structure FnP (P:Program) (w:World) (K:PySem.W.Frag) (mg:Str->Option Value) (base:Heap) (x:Str) (k:Nat) (f:List D->R D):Prop where
 ex:∃ fa fd ps,FnOk P w K mg base (CXF P w) k fa fd ps (spP K mg f)/\mg x=some (.ref fa)/\PySem.W.keepIn K (.ref fa)=true/\Binds K fd ps []
theorem JU {P:Program} {w:World} {K:PySem.W.Frag} {mg:Str->Option Value} {base:Heap} {x:Str} {fa:Addr} {fd:FuncData} {ps:List Str} {k:Nat} {f:List D->R D}
  (F:FnOk P w K mg base (CXF P w) k fa fd ps (spP K mg f)) (kp:PySem.W.keepIn K (.ref fa)=true) (hm:mg x=some (.ref fa)) (hb:Binds K fd ps []):FnP P w K mg base x k f:=⟨fa,fd,ps,F,hm,kp,hb⟩
structure Callee (X:Cx) (x:Str) (f:List D->R D):Prop where
 ex:∃ k fa fd ps,FnOk X.prog X.w X.K X.mg X.base (CXF X.prog X.w) k fa fd ps (spP X.K X.mg f)/\Room k X.A/\X.mg x=some (.ref fa)/\PySem.W.keepIn X.K (.ref fa)=true/\Binds X.K fd ps []
theorem FnP.callee {X:Cx} {x:Str} {k j:Nat} {f:List D->R D} (F:FnP X.prog X.w X.K X.mg X.base x k f) (hr:Room j X.A) (h:k<=j):Callee X x f:=by
 obtain ⟨fa,fd,ps,a,b,c,d⟩:=F.ex
 exact ⟨k,fa,fd,ps,a,hr.mono h,b,c,d⟩
section
variable {X:Cx} {x:Str} {f:List D->R D} {e:Expr} {es:List Expr} {gs:List E} {p pos:Pos}
theorem Io {k:Nat} {fa:Addr} {fd:FuncData} {ps:List Str} {pins:List ↥10} {σ:L2.St} {H:Hp} {s:Shared} {Q:VK} {us:List Value} {vs:List V} {ds:List D}
  (F:FnOk X.prog X.w X.K X.mg X.base (CXF X.prog X.w) k fa fd ps (spP X.K X.mg f)) (hr:Room k X.A) (hb:Binds X.K fd ps []) (I:Inv X pins σ H s) (r:Vals vs us) (rs:Reps X.K X.mg H vs ds) (q:RQ X σ H (f ds) Q) :
  wpAny ↥4 X.A (PySem.call (.ref fa) us) (EP X pins σ Q) X.xe s:=by
 have hsp:spP X.K X.mg f vs H Q (fun c _ H'=>∃ C Ca,f ds=.ex C/\X.mg C=some (.ref Ca)/\c=.ref Ca/\ao H H'):=⟨ds,rs,by
  cases e:f ds with
  | ok d=>rw [e] at q;exact q
  | ex C=>exact fun Ca hc H' s'=>⟨C,Ca,rfl,hc,rfl,s'⟩
  | bad=>rw [e] at q;exact q⟩
 have hl:us.length=ps.length:=by rw [<- r.length];exact F.len _ _ _ _ hsp
 have hb':=hb s us I.kIn (by rw [List.append_nil];exact hl)
 rw [List.append_nil] at hb'
 refine wpAny_call (codeAny_mono (F.run X.A X.stack s H ⟨us,[]⟩ us vs _ _ hr I.env0 hb' r hsp) fun r s' hq => ?_)
 cases r with
 | error er =>
  obtain ⟨C',H',ea,rfl,FX,C,Ca,e1,hc,e2,s2⟩:=hq
  cases e2
  rw [e1] at q
  exact q C' hc H' s2 pins H s ea s' I FX
 | ok fl =>
  cases fl with
  | ret u=>exact I.after hq
  | next=>exact False.elim hq
  | brk=>exact False.elim hq
  | cont=>exact False.elim hq
theorem jt (c:Callee X x f) (G:Gb X x) (ha:SA X (e::es) gs) (he:starEach (e::es) X.env=↥25::starEach es X.env:=by rfl) (hpl:(backTo pos (starEach es X.env)).any (·.1)=false:=by rfl) :
  SE X (.Call (.Name x p) (e::es) [] pos) (EV.call f gs):=by
 obtain ⟨k,fa,fd,ps,F,hr,hm,hk,hb⟩:=c.ex
 intro pins s σ H Q I ⟨δ,hσ,h⟩
 refine wpAny_Call_Name_kw (je I G.g hm ?_ G.d)
 refine PySem.W.callWith_K (h₀:=X.base) I.ok.mod.kin hk (thn (ha pos pins s σ H _ I ⟨δ,hσ,RA.bind h⟩) fun us s1 ⟨vs,H1,I1,r,sm,ds,rs,q⟩=>⟨I1.kIn,Io F hr hb I1 r rs q⟩) he hpl
end
theorem EY {K:PySem.W.Frag} {h:Heap} {C:Addr} {bmB:List Value} {newId:String} (KX:K.In h) (q:PySem.W.excIn K C bmB newId=true) :
  ∃ bm M nm qn bs hd sn sub ab col dd k0 k1 k2 k3 k5 mN,h.get? C=some (excClassObj nm qn C M bs bm hd sn sub ab col dd k0 k1 k2 k3 k5 newId)/\h.Ns M mN/\mN "__init__"=none/\OwnTail h bmB bm:=by
 unfold PySem.W.excIn at q
 split at q
 ·rename_i d1 cd sl hlk
  split at q
  ·rename_i C' bm k0 k1 k2 k3 n k5 e1 e2
   simp only [Bool.and_eq_true,beq_iff_eq,Bool.not_eq_true'] at q
   obtain ⟨⟨⟨⟨⟨r1,r2⟩,r3⟩,r4⟩,r5⟩,r6⟩:=q
   subst r1 r2
   obtain ⟨nm,bs,mro,ns,qn,hd,sn,sub,ab,col,del⟩:=cd
   dsimp only at e1 r3 r5 r6
   subst e1 r3
   have e3:sl = #[k0,k1,k2,k3,some (.builtin n),k5]:=by
    obtain ⟨l⟩:=sl
    simp only at e2
    rw [e2]
   subst e3
   exact ⟨bm,ns,nm,qn,bs,hd,sn,sub,ab,col,d1,k0,k1,k2,k3,k5,_,KX _ _ hlk,.of_isNs (PySem.W.isNs_of_in KX r5),PySem.W.nsMap_none_of_in KX r5 r6,PySem.W.tail_of_in KX r4⟩
  ·cases q
 ·cases q
def bmV:List Value:=[.type "ValueError",.type "Exception",.type "BaseException",.type "object"]
section
variable {X:Cx} {pos:Pos} {x:String} {C:Addr}
theorem ft (hc:X.calm=true) {np cp p3:Pos} {m:Str} {j:Nat} (G:Gb X x) (hm:X.mg x=some (.ref C)) (hq:PySem.W.excIn X.K C bmV "ValueError.__new__"=true) :
  SS X (.Raise (some (.Call (.Name x np) [.Constant (.str m) j p3] [] cp)) none pos) (raise x):=by
 intro pins s σ H D I ⟨δ,os,S,h⟩
 obtain ⟨bm,M,nm,qn,bs,hd,sn,sub,ab,col,dd,k0,k1,k2,k3,k5,mN,hC,hN,hni,T⟩:=EY I.mod.kin hq
 have FB:ExcBaseFacts "ValueError" "ValueError.__new__" "ValueError.__init__" bmV:=PySem.F.excBase_ValueError
 refine wpAny_Raise_call_subT (C:=C) (nm:=nm) (q:=qn) (N:=M) (bs:=bs) (bm:=bm) (hdct:=hd) (sn:=sn) (sub:=sub) (ab:=ab) (col:=col) (dd:=dd) (k0:=k0) (k1:=k1) (k2:=k2) (k3:=k3) (k5:=k5)
  FB (mN:=mN) (T.hasType FB.hasBase) (I.ok.hd hc) rfl hni (je I G.g hm ⟨rfl,?_⟩ G.d)
 have hsp:=(dY (X:=X) (CN (x:=m) (j:=j) (pos:=p3)) gE) cp pins s σ H (fun vs H1=>vs.length=1/\H1=H) I (show (1=1/\H=H) from ⟨rfl,rfl⟩)
 refine Calls.evalArgs_plain (thn hsp fun us s2 ⟨vs,H1,I1,r,q1,q2⟩ => ?_)
 subst q2
 have hl:us.length=1:=by rw [<- r.length];exact q1
 exact ⟨rfl,by show us.length<=_;rw [hl,sizeLine_eq];decide,I1.bk _ _ hC,hN.keeps I1.bk,T.keeps I1.bk,fun h' e1 made=>h σ H1 (az _ _) C hm pins s2 h' e1 us I1 made⟩
end
section
variable {K:PySem.W.Frag} {M:Model} {h:Heap} {C C' e:Addr}
open PySem.W in
theorem u9 {A:Around} {E:Value->Shared->Prop} {s:Shared} {Q:Bool->Shared->Prop} (KX:K.In s.heap) (he:∃ o,s.heap.get? e=some o/\o.cls=.ref C) (c1:(clsIn K C').isSome=true) (c2:typeIn K (.ref C')=some (.type "type"))
  (c3:subIn K (.type "type") ↥5=some false) (c4:mroIn K C' ↥33=some true) (c5:mroIn K C (.ref C')=some true) (h:Q true s):wpAny M A (excMatches (.ref e) (.ref C')) Q E s:=by
 obtain ⟨o,ho,hcl⟩:=he
 have L1:Looks M s.heap (isInstance (.ref C') ↥5) false:=(looks_typeIn KX c2).andThen (looks_subIn KX c3)
 have L2:Looks M s.heap (isType (.ref C')) true:=by
  obtain ⟨cd,c1⟩:=Option.isSome_iff_exists.mp c1
  unfold clsIn at c1
  split at c1
  ·rename_i hlk
   intro A' Q' E' s' k q
   unfold isType loadHead
   exact wpAny_bind (wpAny_loadPart (k _ _ (KX _ _ hlk)) (wpAny_pure q))
  ·cases c1
 have L3:Looks M s.heap (isExcClass (.ref C')) true:=L2.andThen (looks_mroIn KX c4)
 have L4:Looks M s.heap (typeOf (.ref e)) (.ref C):=hcl▸(Looks.ld ho).andThen .now
 have L5:Looks M s.heap (isSubtype (.ref C) (.ref C')) true:=looks_mroIn KX c5
 unfold excMatches
 refine wpAny_bind (L1.here ?_)
 simp only [Bool.false_eq_true,if_false]
 refine wpAny_bind (wpAny_pure ?_)
 simp only [List.forIn_cons,List.forIn_nil]
 refine wpAny_bind (wpAny_bind (wpAny_bind (L3.here ?_)))
 simp only [Bool.not_true,Bool.false_eq_true,if_false]
 refine wpAny_pure ?_
 refine wpAny_pure ?_
 refine wpAny_bind (L4.here ?_)
 refine wpAny_bind (wpAny_bind (wpAny_bind (L5.here ?_)))
 simp only [if_true]
 exact wpAny_pure (wpAny_pure (wpAny_pure h))
end
abbrev rl (X:Cx) (pins:List ↥10) (W:Value->Shared->Prop):Cx:={ X with xe:=W,pn:=X.pn++pins }
abbrev zQ (X:Cx) (ea:Addr):Cx:={ X with A:=X.A.mark (some (.ref ea)),calm:=false,xe:=fun _ _=>False }
section
variable {X:Cx} {pins:List ↥10} {σ:L2.St} {H H':Hp} {s s':Shared} {C ea:Addr} {W:Value->Shared->Prop}
theorem Jm (o:X.Ok):(rl X pins W).Ok:=⟨o.mod,o.kind,o.glob,o.blt,o.above,o.inj,o.has,o.cab,o.hd,o.frames,o.stk,o.exf,o.bs,o.bsz,o.noex,o.exfs,o.funs,o.frf⟩
theorem yv (I:Inv X pins σ H s):Inv (rl X pins W) [] σ H s :=
 ⟨Jm I.ok,I.os,I.bare,I.base,I.loc,I.cell,I.free,I.freeC,fun p hp=>I.pin p (by rw [List.append_nil] at hp;exact hp),I.hok,I.len⟩
theorem qo {p2:List ↥10} (ok:X.Ok) (I:Inv (rl X pins W) p2 σ H s):Inv X pins σ H s :=
 ⟨ok,I.os,I.bare,I.base,I.loc,I.cell,I.free,I.freeC,fun p hp=>I.pin p (List.mem_append_left _ hp),I.hok,I.len⟩
theorem CZ (I:Inv X pins σ H s) (ea:Addr):Inv (zQ X ea) pins σ H s :=
 let o:=I.ok
 ⟨⟨o.mod,o.kind,o.glob,o.blt,o.above,o.inj,o.has,o.cab,(fun z=>absurd z Bool.false_ne_true),o.frames,o.stk,o.exf,o.bs,o.bsz,o.noex,o.exfs,o.funs,o.frf⟩,I.os,I.bare,I.base,I.loc,I.cell,I.free,I.freeC,I.pin,I.hok,I.len⟩
theorem Ga (ok:X.Ok) (I:Inv (zQ X ea) pins σ H s):Inv X pins σ H s:=⟨ok,I.os,I.bare,I.base,I.loc,I.cell,I.free,I.freeC,I.pin,I.hok,I.len⟩
theorem BM (I:Inv X pins σ H s) {i:Nat} {n:Str} {m:Str->Option Value} {v:Option Value} {h':Heap} {tk:Nat} (hN:X.N.Nodup) (hi:X.N[i]? = some n)
  (hl:∀ (i:Nat) (x:Str) (v:V),X.N[i]? = some x->σ[i]? = some (some v)->Vis X.env.scope x->∃ u,RelV v u/\Look X.env s.heap m x u)
  (hn':h'.Ns X.env.locals (fun x=>if x=n then v else m x)) (hs:Heap.SameBut X.env.locals s.heap h'):Inv X pins (σ.set i none) H { s with heap:=h',toks:=tk }:=by
 have cne:=I.cne
 obtain ⟨m0,hn0,_⟩:=id I.loc
 have iσ:i<σ.length:=by rw [I.len];exact (List.getElem?_eq_some_iff.mp hi).1
 have ne0:∀ {b:Addr} {o:Obj},X.s₀.heap.get? b=some o->b≠X.env.locals:=fun {b o} e=>Nat.ne_of_lt (Nat.lt_of_lt_of_le (Heap.lt_size e) I.ok.above)
 refine ⟨I.ok,I.os,I.bare,⟨fun b o e k hb hx => ?_,fun b o e k hb hx => ?_,I.base.free,fun b o e hx => ?_,I.base.tups,I.base.frzs,I.base.tbls⟩,⟨_,hn',fun j y v' e1 e2 e3 => ?_⟩,fun y c e => ?_,I.free,I.freeC,fun p hp => ?_,fun b ob e => ?_,by rw [List.length_set];exact I.len⟩
 ·exact (hs.2 b (ne0 e)).trans (I.base.keep b o e k hb hx)
 ·obtain ⟨sl,q⟩:=I.base.slot b o e k hb hx
  exact ⟨sl,(hs.2 b (ne0 e)).trans q⟩
 ·obtain ⟨o',q⟩:=I.base.there b o e hx
  exact ⟨o',(hs.2 b (ne0 e)).trans q⟩
 ·by_cases hj:j=i
  ·subst hj
   rw [List.getElem?_set_self iσ] at e2
   cases e2
  ·rw [List.getElem?_set_ne (Ne.symm hj)] at e2
   obtain ⟨u,r,q⟩:=hl j y v' e1 e2 e3
   refine ⟨u,r,?_⟩
   rcases q with ⟨k,e⟩ | ⟨k,c,e,z⟩
   ·refine .inl ⟨k,?_⟩
    have:y≠n:=fun q=>hj (oO hN e1 (q▸hi))
    simp [this,e]
   ·exact .inr ⟨k,c,e,z.sameBut hs (cne y c e)⟩
 ·obtain ⟨w',z⟩:=I.cell y c e
  exact ⟨w',z.sameBut hs (cne y c e)⟩
 ·obtain ⟨e,k,ne,nf,d⟩:=I.pin p hp
  exact ⟨(hs.2 p.1 ne).trans e,k,ne,nf,d⟩
 ·refine (I.hok b ob e).stay (fun c w' hc q=>(hs.2 c ?_).trans q) (fun _ q=>q) fun _ _ q=>q
  rintro rfl
  rcases hc with rfl | hc
  ·rw [I.free] at e;cases e
  ·rw [I.free] at hc;cases hc
theorem Aq {fs:List Addr} {h h2:Heap} {o:HO} (u:Un fs [] H H' h h2) (k1:h.get? ea=none) (k2:H' ea=none):Un fs [] H (upd H' ea o) h h2:=by
 have ne1:∀ {b:Addr} {ob:Obj},h.get? b=some ob->b≠ea:=fun {b ob} e z=>by rw [z,k1] at e;cases e
 have ne2:∀ {b:Addr} {x:HO},H' b=some x->b≠ea:=fun {b x} e z=>by rw [z,k2] at e;cases e
 refine ⟨u.keep,u.slot,fun b ob e n hx=>by rw [aB (ne1 e)];exact u.free b ob e n hx,u.there,fun b xs e => ?_,fun b ob x e => ?_,fun b ps e => ?_⟩
 ·have q:=u.tups b xs e
  rw [aB (ne2 q)];exact q
 ·have q:=u.frzs b ob x e
  rw [aB (ne2 q)];exact q
 ·obtain ⟨more,q⟩:=u.tbls b ps e
  exact ⟨more,by rw [aB (ne2 q)];exact q⟩
theorem yB {P:Program} {w:World} {h2:Heap} (hok:HOk P w H' h2) (k2:H' ea=none) (he:∃ o vs,h2.get? ea=some o/\o.cls=.ref C/\o.data=.fields vs):HOk P w (upd H' ea (Gp ea C)) h2:=fun b u e=>by
 by_cases hb:b=ea
 ·subst hb
  rw [au] at e
  cases e
  obtain ⟨o,vs,h1,h2',h3⟩:=he
  exact ⟨⟨o,vs,h1,h2',h3⟩,⟨o,h1⟩,fun g1 g2 ⟨o1,vs1,q1,q2⟩ k=>⟨o1,vs1,k o1 q1,q2⟩⟩
 ·rw [aB hb] at e
  refine (hok b u e).stay (fun _ _ _ q=>q) (fun c q => ?_) fun c xs q => ?_
  ·rw [aB (fun z=>by rw [z,k2] at q;cases q)];exact q
  ·rw [aB (fun z=>by rw [z,k2] at q;cases q)];exact q
end
structure Catch (K:PySem.W.Frag) (C C':Addr):Prop where
 c1:(PySem.W.clsIn K C').isSome=true
 c2:PySem.W.typeIn K (.ref C')=some (.type "type")
 c3:PySem.W.subIn K (.type "type") ↥5=some false
 c4:PySem.W.mroIn K C' ↥33=some true
 c5:PySem.W.mroIn K C (.ref C')=some true
section
variable {X:Cx} {N G:List Str} {pos np hpos:Pos} {n:Str} {cls:String} {C':Addr} {body suite:List Stmt} {b₀:Stmt} {gb gs:S}
def tf (X:Cx) (cls:String) (C':Addr):Prop:=∀ (C:String) (Ca:Addr),pj C cls=true->X.mg C=some (.ref Ca)->Catch X.K Ca C'
theorem xS {K:PySem.W.Frag} {mg:Str->Option Value} {H:Hp} {σ:L2.St} {δ:Dt} (h:Stt K mg H σ δ):Stt K mg H σ (noOwn δ):=by
 refine ⟨by unfold noOwn;rw [List.length_map];exact h.1,fun i d e n => ?_⟩
 unfold noOwn at e
 rw [List.getElem?_map] at e
 cases q:δ[i]? with
 | none=>rw [q] at e;cases e
 | some c =>
  rw [q] at e
  cases c with
  | none=>cases e
  | some d0 =>
   by_cases ho:∃ ds,d0=.own ds
   ·obtain ⟨ds,rfl⟩:=ho
    cases e
   ·have e':d0=d:=by
     cases d0<;>first | exact absurd ⟨_,rfl⟩ ho | exact Option.some.inj (Option.some.inj e)
    subst e'
    exact h.2 i d0 q n
theorem Bx {δ:Dt} {i:Nat} {d:D} (hd:∀ ds,d ≠ .own ds) (j:Nat) (ds:List D):((noOwn δ).set i (some d))[j]? ≠ some (some (.own ds)):=fun e=>by
 by_cases hj:j=i
 ·subst hj
  by_cases hl:j<(noOwn δ).length
  ·rw [List.getElem?_set_self hl] at e
   exact hd ds (Option.some.inj (Option.some.inj e))
  ·rw [List.getElem?_eq_none (by rw [List.length_set];omega)] at e
   cases e
 ·rw [List.getElem?_set_ne (Ne.symm hj)] at e
  unfold noOwn at e
  rw [List.getElem?_map] at e
  cases q:δ[j]? with
  | none=>rw [q] at e;cases e
  | some c =>
   rw [q] at e
   cases c with
   | none=>cases e
   | some d0=>cases d0<;>cases e
theorem Kc (P:Pl X N G) (O:Own X) (i:Nat) (hn:N[i]? = some n) (hloc:X.env.scope.names.lookup n=some .local) (GC:Gb X cls) (hm:X.mg cls=some (.ref C')) {C:String} {Ca:Addr} (hC:X.mg C=some (.ref Ca)) (hk:Catch X.K Ca C')
  (hs:∀ ea,SSs (zQ X ea) (b₀::suite) gs) {δe δ2:Dt} (eg:gs (δe.set i (some (.exc C)))=.nx δ2)
  (ne':∀ (j:Nat) (ds:List D),(δe.set i (some (.exc C)))[j]? ≠ some (some (.own ds)))
  {pins:List ↥10} {σ:L2.St} {H1 H':Hp} {s1 s':Shared} {ea:Addr} {D:Ends} {hrest:List ExceptHandler}
  (I1:Inv X pins σ H1 s1) (F:FlyX X.prog X.w X.stack H1 s1 Ca H' ea s') (hσ:Stt X.K X.mg H' σ δe) (hD:∀ σ2 H2 os,ao H' (hide H2 os)->StO X H2 σ2 (δ2.set i none) os->D.nx σ2 H2) :
  wpAny ↥4 X.A (noteFrame (.ref ea) X.env) (fun _ s2=>wpAny ↥4 X.A (setFlight (.ref ea) none) (fun _ s3 =>
   wpAny ↥4 X.A (handleBy (.ref ea) X.env (.ExceptHandler (some (.Name cls np)) (some n) (b₀::suite) hpos::hrest)) (SP X pins D) X.xe s3) X.xe s2) X.xe s':=by
 have hmn:n∈N:=List.mem_of_getElem? hn
 obtain ⟨a0,B,hfl,i1,i2⟩:=F.fly
 have ff:=sE hfl.2.2.1
 have noea:H' ea=none:=by
  cases q:H' ea with
  | none=>rfl
  | some u =>
   obtain ⟨ob,e⟩:=kU (F.hok ea u q)
   have z:=i2 ea u ob q e
   rw [hfl.2.1] at z
   cases z
 rw [O.stk] at hfl
 refine wpAny_looks_onW (by rw [I1.ok.frames,O.stk]) O.frm hfl fun h4 held4 up4 => ?_
 refine wpAny_landsW held4 fun h5 fl5 up5 => ?_
 have up45:=up4.trans up5
 have at_:∀ {h6:Heap} {g:Nat},B.StaysIn h6->s'.heap.UpToSlots h6->Inv X pins σ H' { s' with heap:=h6,toks:=g }:=fun {h6 g} st up =>
  I1.call' (s':={ s' with heap:=h6,toks:=g }) (ch:=[]) F.os (pM F.un F.same i1 i2 st up ff) (jf F.hok i2 st) F.bare fun b z=>absurd z (by simp)
 have I5:=at_ (g:=s'.toks) fl5.1 up45
 refine wpAny_handleBy_cons (codeAny_handlers_test ?_) (by intro q;cases q)
 refine je (X:=zQ X ea) (CZ I5 ea) GC.g hm ?_ GC.d
 refine u9 (K:=X.K) I5.kIn fl5.there hk.c1 hk.c2 hk.c3 hk.c4 hk.c5 ?_
 refine codeAny_handlers_suite_as ?_
 refine lands_againW fl5 fun h6 fl6 up6 => ?_
 have up456:=up45.trans up6
 have u6:=pM F.un F.same i1 i2 fl6.1 up456 ff
 have fl6':∃ o vs,h6.get? ea=some o/\o.cls=.ref Ca/\o.data=.fields vs:=by
  obtain ⟨_,_,_,oe,vs,_,_,_,he,hc,hd,_⟩:=fl6
  exact ⟨oe,vs,he,hc.1,hd⟩
 have I6:Inv X pins σ (upd H' ea (Gp ea Ca)) { s' with heap:=h6 } :=
  I1.call' (s':={ s' with heap:=h6 }) (ch:=[]) F.os (Aq u6 F.new noea) (yB (jf F.hok i2 fl6.1) noea fl6') F.bare fun b z=>absurd z (by simp)
 have same2:ao H' (upd H' ea (Gp ea Ca)):=ar noea _
 have J6:=CZ I6 ea
 refine j1 (X:=zQ X ea) (v:=.ref ea) (i:=i) J6 (by rw [show (zQ X ea).N=X.N from rfl,P.sc.n];exact P.sc.nd) (by rw [show (zQ X ea).N=X.N from rfl,P.sc.n];exact hn) (.inl hloc) rfl (fun s7 J7 => ?_) (.inr hloc)
 have hσ7:Stt X.K X.mg (upd H' ea (Gp ea Ca)) (σ.set i (some (.ref ea))) (δe.set i (some (.exc C))):=(hσ.mono same2).set (.exc hC au)
 have S7:StO (zQ X ea) (upd H' ea (Gp ea Ca)) (σ.set i (some (.ref ea))) (δe.set i (some (.exc C))) []:=StO.nil hσ7 ne'
 refine wpAny_mono (hs ea pins s7 _ _ { nx:=fun σ2 H2=>∃ os,ao (upd H' ea (Gp ea Ca)) (hide H2 os)/\StO X H2 σ2 δ2 os,rt:=fun _ _=>False } J7 ⟨_,[],S7,by rw [eg];exact fun σ2 H2 os S sm=>⟨os,by rw [kf] at sm;exact sm,⟨S.st,S.lst,S.own,S.inj⟩⟩⟩) (fun f s8 q8 => ?_) fun _ _ z=>False.elim z
 cases f with
 | ret v=>obtain ⟨_,_,_,_,_,z⟩:=q8;exact z.elim
 | brk=>obtain ⟨_,_,_,z⟩:=q8;exact z.elim
 | cont=>obtain ⟨_,_,_,z⟩:=q8;exact z.elim
 | next =>
  obtain ⟨σ8,H8,J8,os,sm,S8⟩:=q8
  have I8:=Ga I1.ok J8
  obtain ⟨m,hns,hl⟩:=id I8.loc
  refine wpAny_nameGoes_keeps hloc hns (by rw [I8.ok.kind];rfl) fun h9 v hn9 hs9 => ?_
  have hless:ao (hide H8 os) (hide H8 (os.filter fun p=>p.1 != i)):=lG fun p hp=>(aH os i p hp).1
  refine ⟨σ8.set i none,H8,BM I8 (by rw [P.sc.n];exact P.sc.nd) (by rw [P.sc.n];exact hn) hl hn9 hs9,hD _ _ (os.filter fun p=>p.1 != i) ((same2.trans sm).trans hless) ?_⟩
  have setn:∀ {α:Type} {l:List (Option α)} {j:Nat} {d:α},(l.set i none)[j]? = some (some d)->l[j]? = some (some d)/\j≠i:=fun {α l j d} e=>by
   by_cases hj:j=i
   ·subst hj
    by_cases hjl:j<l.length
    ·rw [List.getElem?_set_self hjl] at e;cases e
    ·rw [List.getElem?_eq_none (by rw [List.length_set];omega)] at e;cases e
   ·rw [List.getElem?_set_ne (Ne.symm hj)] at e
    exact ⟨e,hj⟩
  refine ⟨⟨by rw [List.length_set,List.length_set];exact S8.st.1,fun j d e nd => ?_⟩,fun p hp => ?_,fun j ds e => ?_,fun a b c h1 h2=>S8.inj a b c (aH os i _ h1).1 (aH os i _ h2).1⟩
  ·obtain ⟨e,hj⟩:=setn e
   obtain ⟨v1,q1,q2⟩:=S8.st.2 j d e nd
   exact ⟨v1,by rw [List.getElem?_set_ne (Ne.symm hj)];exact q1,q2.mono hless⟩
  ·obtain ⟨hp',hne⟩:=aH os i p hp
   obtain ⟨xs,ds,h1,h2,h3,h4⟩:=S8.lst p hp'
   exact ⟨xs,ds,h1,by rw [List.getElem?_set_ne (Ne.symm hne)];exact h2,by rw [List.getElem?_set_ne (Ne.symm hne)];exact h3,h4.mono hless⟩
  ·obtain ⟨e,hj⟩:=setn e
   obtain ⟨a,ha⟩:=S8.own j ds e
   exact ⟨a,List.mem_filter.mpr ⟨ha,by simpa using hj⟩⟩
theorem Lr (P:Pl X N G) (O:Own X) (i:Nat) (hn:N[i]? = some n) (hloc:X.env.scope.names.lookup n=some .local) (GC:Gb X cls) (hm:X.mg cls=some (.ref C')) (hk:tf X cls C')
  (hb:∀ pins W,SSs (rl X pins W) body gb) (hs:∀ ea,SSs (zQ X ea) (b₀::suite) gs) :
  SS X (.Try body [.ExceptHandler (some (.Name cls np)) (some n) (b₀::suite) hpos] [] [] pos) (Kw gb cls i gs):=by
 intro pins s σ H D I ⟨δ,os,S,h⟩
 refine wpAny_Try_except ?_
 have S':∀ W,StO (rl X pins W) H σ δ os:=fun W=>⟨S.st,S.lst,S.own,S.inj⟩
 unfold Kw Cy at h
 cases e:gb δ with
 | nx δ1 =>
  rw [e] at h
  refine wpAny_mono (hb pins _ [] s σ H { nx:=D.nx,rt:=fun _ _=>False } (yv I) ⟨δ,os,S' _,by rw [e];exact fun σ1 H1 os1 S1 s1=>h σ1 H1 os1 ⟨S1.st,S1.lst,S1.own,S1.inj⟩ s1⟩) (fun f s1 q => ?_) fun _ _ z=>z
  cases f with
  | next =>
   obtain ⟨σ1,H1,I1,q⟩:=q
   exact wpAny_execs_nil ⟨σ1,H1,qo I.ok I1,q⟩
  | ret v=>obtain ⟨_,_,_,_,_,z⟩:=q;exact z.elim
  | brk=>obtain ⟨_,_,_,z⟩:=q;exact z.elim
  | cont=>obtain ⟨_,_,_,z⟩:=q;exact z.elim
 | ex C δe =>
  rw [e] at h
  simp only [forget] at h
  split at h
  ·rename_i hcl
   cases eg:gs ((noOwn δe).set i (some (.exc C))) with
   | nx δ2 =>
    rw [eg] at h
    have ho:∀ W,(∀ ea s',(∃ p2 Hc sc σ1 H1 Ca,Inv X pins σ1 Hc sc/\ao ↥20 H1/\Stt X.K X.mg H1 σ1 δe/\X.mg C=some (.ref Ca)/\FlyX X.prog X.w X.stack Hc sc Ca H1 ea s'/\p2=pins)->W (.ref ea) s')->OQ (rl X pins W) { nx:=fun _ _=>False,rt:=fun _ _=>False } ↥20 (gb δ):=fun W hW=>by
     rw [e]
     exact fun σ1 H1 s1 hσ1 Ca hCa p2 Hc sc ea s' Ic F=>hW ea s' ⟨pins,Hc,sc,σ1,H1,Ca,qo I.ok Ic,s1,hσ1,hCa,F,rfl⟩
    refine wpAny_mono (hb pins _ [] s σ H _ (yv I) ⟨δ,os,S' _,ho _ ?_⟩) (fun f s1 q => ?_) fun _ _ z=>z
    ·rintro ea s' ⟨p2,Hc,sc,σ1,H1,Ca,Ic,s1,hσ1,hCa,F,_⟩
     exact Kc P O i hn hloc GC hm hCa (hk C Ca hcl hCa) hs eg (Bx (fun _ z=>nomatch z)) Ic F (xS hσ1) fun σ2 H2 os2 sm S2=>h σ2 H2 os2 S2 (s1.trans sm)
    ·cases f with
     | next=>obtain ⟨_,_,_,z⟩:=q;exact z.elim
     | ret v=>obtain ⟨_,_,_,_,_,z⟩:=q;exact z.elim
     | brk=>obtain ⟨_,_,_,z⟩:=q;exact z.elim
     | cont=>obtain ⟨_,_,_,z⟩:=q;exact z.elim
   | _=>rw [eg] at h;exact False.elim h
  ·exact False.elim h
 | _=>rw [e] at h;exact False.elim h
theorem Pl.try (P:Pl X N G) (p:List ↥10) (W:Value->Shared->Prop):Pl (rl X p W) N G:=⟨⟨⟨P.sc.n,P.sc.nd,P.sc.vis,P.sc.dbg⟩,P.ex⟩,P.sto,fun x hx=>⟨(P.gb x hx).g,(P.gb x hx).d,(P.gb x hx).n⟩⟩
theorem Pl.inn (P:Pl X N G) (ea:Addr):Pl (zQ X ea) N G:=⟨⟨⟨P.sc.n,P.sc.nd,P.sc.vis,P.sc.dbg⟩,P.ex⟩,P.sto,fun x hx=>⟨(P.gb x hx).g,(P.gb x hx).d,(P.gb x hx).n⟩⟩
end
end ES
namespace ES
open PySem PySem.Spec PyProof.Rows L2 EV
unseal SE ST SW SA SS SSs
def rC (X:Cx) (f:List D->R D):List V->Hp->VK->Prop:=fun vs H Q=>∃ ds d,Reps X.K X.mg H vs ds/\f ds=.ok d/\∀ v H',ao H H'->Rep X.K X.mg H' v d->Q v H'
def NoX (f:List D->R D):Prop:=∀ ds C,f ds ≠ .ex C
theorem RQ.cl (nx:NoX f) (r:Reps X.K X.mg H vs ds) (h:RQ X σ H (f ds) Q):rC X f vs H Q:=by
 cases e:f ds with
 | ok d=>rw [e] at h;exact ⟨ds,d,r,e,h⟩
 | ex C=>exact absurd e (nx ds C)
 | bad=>rw [e] at h;exact False.elim h
section
variable {X:Cx} {x:Str} {id T:String} {f:List D->R D} {e o:Expr} {es:List Expr} {gs:List E} {g:E} {p pos apos:Pos}
theorem cv (hc:fk X (.builtin id) (rC X f)) (nx:NoX f) (G:Gb X x) (hm:X.mg x=none) (hv:bootBuiltins x=some (.builtin id)) (ha:SA X (e::es) gs)
  (he:starEach (e::es) X.env=↥25::starEach es X.env:=by rfl) (hpl:(backTo pos (starEach es X.env)).any (·.1)=false:=by rfl):SE X (.Call (.Name x p) (e::es) [] pos) (EV.call f gs) :=
 PE.weak (tU hc G.g hm hv ha G.n G.d he hpl) fun σ H Q ⟨δ,hσ,h⟩=>⟨δ,hσ,(RA.bind h).to fun vs H' s ⟨_,ds,rs,q⟩=>RQ.cl nx rs q⟩
theorem uA (hc:fk X (.type T) (rC X f)) (nx:NoX f) (G:Gb X x) (hm:X.mg x=none) (hv:bootBuiltins x=some (.type T)) (ha:SA X (e::es) gs)
  (he:starEach (e::es) X.env=↥25::starEach es X.env:=by rfl) (hpl:(backTo pos (starEach es X.env)).any (·.1)=false:=by rfl):SE X (.Call (.Name x p) (e::es) [] pos) (EV.call f gs) :=
 PE.weak (p8 hc G.g hm hv ha G.n G.d he hpl) fun σ H Q ⟨δ,hσ,h⟩=>⟨δ,hσ,(RA.bind h).to fun vs H' s ⟨_,ds,rs,q⟩=>RQ.cl nx rs q⟩
theorem mD (r:Reps X.K X.mg H vs [d]):∃ v,vs=[v]/\Rep X.K X.mg H v d:=by
 cases r with
 | cons r rr=>cases rr;exact ⟨_,rfl,r⟩
theorem AX (r:Reps X.K X.mg H vs [d,d']):∃ v v',vs=[v,v']/\Rep X.K X.mg H v d/\Rep X.K X.mg H v' d':=by
 cases r with
 | cons r rr =>
  cases rr with
  | cons r' rr=>cases rr;exact ⟨_,_,rfl,r,r'⟩
theorem mH:NoX qZ:=fun ds C z=>by unfold qZ at z;split at z<;>first | cases z | exact d6 z
theorem mL:fk X (.builtin "len") (rC X qZ):=by
 intro pins s σ H xs us Q I rs ⟨ds,d,r,e,q⟩
 unfold qZ at e
 split at e
 ·cases e
  obtain ⟨v,rfl,r1⟩:=mD r
  cases r1 with
  | @lst a ys _ hq rr=>exact jv pins s σ H _ us Q I rs ⟨a,ys,rfl,.inl hq,by rw [rr.length];exact q _ _ ↥21 (.int _)⟩
 ·cases e
  obtain ⟨v,rfl,r1⟩:=mD r
  cases r1 with
  | @tup a ys _ hq rr=>exact jv pins s σ H _ us Q I rs ⟨a,ys,rfl,.inr hq,by rw [rr.length];exact q _ _ ↥21 (.int _)⟩
 ·split at e
  ·rename_i hz
   cases e
   obtain ⟨v,rfl,r1⟩:=mD r
   cases r1
   exact qw pins s σ H _ us Q I rs ⟨_,rfl,Nat.le_trans hz (by rw [sizeLine_eq];decide),q _ _ ↥21 (.int _)⟩
  ·cases e
 ·cases e
theorem Mc:NoX Ha:=fun ds C z=>by unfold Ha at z;split at z<;>cases z
theorem Mw:fk X (.builtin "abs") (rC X Ha):=by
 intro pins s σ H xs us Q I rs ⟨ds,d,r,e,q⟩
 unfold Ha at e
 split at e
 ·cases e
  obtain ⟨v,rfl,r1⟩:=mD r
  cases r1
  exact B5 pins s σ H _ us Q I rs ⟨_,rfl,q _ _ ↥21 (.int _)⟩
 ·cases e
theorem FF:NoX Ci:=fun ds C z=>by unfold Ci at z;split at z<;>cases z
theorem Gy (hc:X.calm=true):fk X (.builtin "max") (rC X Ci):=by
 intro pins s σ H xs us Q I rs ⟨ds,d,r,e,q⟩
 unfold Ci at e
 split at e
 ·cases e
  obtain ⟨v,v',rfl,r,r'⟩:=AX r
  cases r;cases r'
  exact zc hc pins s σ H _ us Q I rs ⟨_,_,rfl,q _ _ ↥21 (.int _)⟩
 ·cases e
theorem Jr:NoX De:=fun ds C z=>by unfold De at z;split at z<;>cases z
theorem Kf (hc:X.calm=true):fk X (.builtin "min") (rC X De):=by
 intro pins s σ H xs us Q I rs ⟨ds,d,r,e,q⟩
 unfold De at e
 split at e
 ·cases e
  obtain ⟨v,v',rfl,r,r'⟩:=AX r
  cases r;cases r'
  exact zb hc pins s σ H _ us Q I rs ⟨_,_,rfl,q _ _ ↥21 (.int _)⟩
 ·cases e
theorem tZ:NoX iJ:=fun ds C z=>by unfold iJ at z;split at z<;>cases z
theorem uE:fk X (.type "list") (rC X iJ):=by
 intro pins s σ H xs us Q I rs ⟨ds,d,r,e,q⟩
 unfold iJ at e
 split at e
 ·cases e
  obtain ⟨v,rfl,r1⟩:=mD r
  cases r1 with
  | @lst a ys _ hq rr=>exact fO pins s σ H _ us Q I rs ⟨a,ys,rfl,.inl hq,fun l hl=>q _ _ (ar hl _) (.lst (SqL.of au) (rr.mono (ar hl _)))⟩
 ·cases e
  obtain ⟨v,rfl,r1⟩:=mD r
  cases r1 with
  | @tup a ys _ hq rr=>exact fO pins s σ H _ us Q I rs ⟨a,ys,rfl,.inr hq,fun l hl=>q _ _ (ar hl _) (.lst (SqL.of au) (rr.mono (ar hl _)))⟩
 ·cases e
theorem Jp:NoX Dd:=fun ds C z=>by
 unfold Dd at z
 split at z
 ·split at z<;>cases z
 ·cases z
theorem lD:∀ {xs:List V} {ds:List D} {ns:List Int} {us:List Value},intsOf ds=some ns->Reps X.K X.mg H xs ds->Vals xs us->∃ ts:List (Int×Tok),us=ts.map (fun p=>Value.int p.1 p.2)/\ts.map (·.1)=ns
 | _,[],_,_,e,.nil,.nil=>by cases e;exact ⟨[],rfl,rfl⟩
 | _,.int i::r,ns,_,e,.cons h t,.cons h' t'=>by
  cases h
  unfold intsOf at e
  cases q:intsOf r with
  | none=>rw [q] at e;cases e
  | some ms =>
   rw [q] at e
   have e':i::ms=ns:=Option.some.inj e
   subst e'
   obtain ⟨tk,rfl⟩:=h'
   obtain ⟨ts,e1,e2⟩:=lD q t t'
   exact ⟨(i,tk)::ts,by rw [e1];rfl,by rw [List.map_cons,e2]⟩
 | _,.non::_,_,_,e,_,_=>by cases e
 | _,.bl _::_,_,_,e,_,_=>by cases e
 | _,.str _::_,_,_,e,_,_=>by cases e
 | _,.tup _::_,_,_,e,_,_=>by cases e
 | _,.lst _::_,_,_,e,_,_=>by cases e
 | _,.own _::_,_,_,e,_,_=>by cases e
 | _,.ty _::_,_,_,e,_,_=>by cases e
 | _,.cls _::_,_,_,e,_,_=>by cases e
 | _,.exc _::_,_,_,e,_,_=>by cases e
 | _,.ins _ _::_,_,_,e,_,_=>by cases e
theorem yI (ns:List Int):ns.foldl (· + ·) 0=ns.sum:=by
 have h:∀ (l:List Int) (a:Int),l.foldl (· + ·) a=a+l.sum:=by
  intro l
  induction l with
  | nil=>intro a;simp
  | cons b r ih=>intro a;rw [List.foldl_cons,ih,List.sum_cons];omega
 rw [h];omega
theorem Kd (hc:X.calm=true):fk X (.builtin "sum") (rC X Dd):=by
 intro pins s σ H xs us Q I rs ⟨ds,d,r,e,q⟩
 unfold Dd at e
 split at e
 ·rename_i ds'
  split at e
  ·rename_i ns hns
   cases e
   obtain ⟨v,rfl,r1⟩:=mD r
   cases r1 with
   | @lst a ys _ hq rr =>
    obtain ⟨its,rv,pl,_⟩:=I.list hq
    obtain ⟨ts,e1,e2⟩:=lD hns rr rv
    cases rs with
    | cons h1 h2 =>
     cases h2
     cases h1
     have hl:s.heap.IsList a (intItems ts.toArray):=by
      have:=pl.isList
      rw [e1] at this
      have e3:(ts.map fun p=>Value.int p.1 p.2).toArray=intItems ts.toArray:=by simp [intItems]
      rw [<- e3]
      exact this
     refine sum_intListG (I.ok.hd hc) hl fun h' tk t' hk => ?_
     have hs:preSum (numAt ts.toArray) ts.toArray.size=ns.foldl (· + ·) 0:=by
      rw [preSum_eq,List.take_of_length_le (by simp),yI,<-e2]
     rw [hs]
     exact ⟨.int _,H,I.kept (t':=tk) hk,⟨_,rfl⟩,q _ _ ↥21 (.int _)⟩
  ·cases e
 ·cases e
theorem yg:MtR X "int.bit_length" (fun x xs H Q=>∃ i,x=.int i/\xs=[]/\Q (.int (nb i)) H):=by
 intro pins s σ H x xs v us Q I rx rs ⟨i,ex,exs,q⟩
 subst ex exs
 obtain ⟨t,rfl⟩:=rx
 cases rs
 refine call_int_bit_length ⟨.int (nb i),H,I.tok _,⟨_,by rw [ye]⟩,q⟩
theorem uB (ho:SE X o g) (hbase:attributeBase o "bit_length" X.env (eval o X.env)=eval o X.env:=by rfl) (hline:(apos.endLine == pos.line)=true:=by rfl):SE X (.Call (.Attribute o "bit_length" apos) [] [] pos) (EV.call ji [g]) :=
 PE.weak (IQ PySem.F.plainAttrs_int PySem.F.slot_int_bit_length PySem.F.type_int_bit_length yg ho hbase hline) fun σ H Q ⟨δ,hσ,h⟩=>⟨δ,hσ,by
  have h':RQ X σ H ((g δ).bind fun d=>ji [d]) Q:=by
   unfold EV.call evs at h
   cases r:g δ with
   | ok d=>rw [r] at h;exact h
   | ex C=>rw [r] at h;exact h
   | bad=>rw [r] at h;exact h
  refine (RQ.bind h').to fun v H' s ⟨_,d,r,q⟩ => ?_
  unfold ji at q
  split at q
  ·rename_i e
   cases e
   cases r
   exact ⟨rfl,_,rfl,rfl,q _ _ ↥21 (.int _)⟩
  ·exact False.elim q⟩
def tyV (mg:Str->Option Value):D->Option Value
 | .non=>some (.type "NoneType")
 | .bl _=>some (.type "bool")
 | .int _=>some (.type "int")
 | .str _=>some (.type "str")
 | .tup _=>some ↥5
 | .lst _=>some (.type "list")
 | .exc n=>mg n
 | _=>none
def Pu (mg:Str->Option Value):D->Option Value
 | .ty n=>some (.type n)
 | .cls n=>mg n
 | _=>none
def Isi (X:Cx) (c:D):Prop:=∀ d k t u,jX [d,c]=.ok (.bl k)->tyV X.mg d=some t->Pu X.mg c=some u->PySem.W.kitOne X.K t u=some k
def nN (X:Cx):Prop:=∀ (e C:Addr) (n:String),aj.contains n=true->X.mg n=some (.ref C)->PySem.W.KitX X.K (.ref e) (.ref C) (fun h=>∃ o vs,h.get? e=some o/\o.cls=.ref C/\o.data=.fields vs)
theorem zq:(∃ d c k,ds=[d,c]/\jX ds=.ok (.bl k))\/jX ds=.bad:=by
 rcases ds with _ | ⟨d,_ | ⟨c,_ | ⟨x,y⟩⟩⟩
 ·exact .inr rfl
 ·exact .inr rfl
 ·cases c<;>first
   | exact .inr rfl
   | (cases d<;>first
     | exact .inr rfl
     | exact JJ rfl)
 ·first
   | exact .inr rfl
   | (cases c<;>exact .inr rfl)
theorem yP (h:jX [.exc n,c]=.ok (.bl k)):aj.contains n=true:=by
 cases c with
 | cls B =>
  have z:=(dk h).1
  rw [Bool.and_eq_true] at z
  exact z.1
 | ty B =>
  have z:=(dk h).1
  rw [Bool.and_eq_true] at z
  exact z.1
 | _=>cases h
theorem Mu (hI:Isi X c) (hE:nN X):fk X (.builtin "isinstance") (fun vs H Q=>∃ dx d,Reps X.K X.mg H vs [dx,c]/\jX [dx,c]=.ok d/\∀ v H',ao H H'->Rep X.K X.mg H' v d->Q v H'):=by
 intro pins s σ H xs us Q I rs ⟨dx0,d,r,e,q⟩
 rcases zq (ds:=[dx0,c]) with ⟨dx,dc,k,ez,e'⟩ | e'<;>rw [e'] at e<;>cases e
 cases ez
 obtain ⟨v,v',rfl,r1,r2⟩:=AX r
 cases rs with
 | cons h1 h2 =>
  cases h2 with
  | cons h2 h3 =>
   cases h3
   rename_i u w
   have fin:∀ tk,EP X pins σ Q (.bool k) { s with toks:=tk }:=fun tk=>⟨.bl k,H,I.tok tk,rfl,q _ _ ↥21 (.bl k)⟩
   have hw:Pu X.mg c=some w:=by
    cases r2 with
    | ty n=>cases h2;rfl
    | cls hc=>cases h2;exact hc
    | _=>cases dx0<;>cases e'
   cases r1 with
   | non=>cases (show u=Value.none from h1);exact PySem.W.kia_one PySem.W.kitx_none I.kIn True.intro (hI _ k _ _ e' rfl hw) (fun z=>nomatch z) fin
   | bl y=>cases (show u=Value.bool y from h1);exact PySem.W.kia_one PySem.W.kitx_bool I.kIn True.intro (hI _ k _ _ e' rfl hw) (fun z=>nomatch z) fin
   | int i=>obtain ⟨t,z⟩:=(show ∃ t,u=Value.int i t from h1);cases z;exact PySem.W.kia_one PySem.W.kitx_int I.kIn True.intro (hI _ k _ _ e' rfl hw) (fun z=>nomatch z) fin
   | str y=>obtain ⟨t,z⟩:=(show ∃ t,u=Value.str y t from h1);cases z;exact PySem.W.kia_one PySem.W.kitx_str I.kIn True.intro (hI _ k _ _ e' rfl hw) (fun z=>nomatch z) fin
   | @tup a ys ds hq rr =>
    cases (show u=Value.ref a from h1)
    obtain ⟨its,_,⟨o,g1,g2,_⟩,_⟩:=I.tuple hq
    exact PySem.W.kia_one PySem.W.kitx_tuple I.kIn ⟨o,g1,g2⟩ (hI _ k _ _ e' rfl hw) (fun z=>nomatch z) fin
   | @lst a ys ds hq rr =>
    cases (show u=Value.ref a from h1)
    obtain ⟨its,_,⟨o,n,g1,g2,_⟩,_⟩:=I.list hq
    exact PySem.W.kia_one PySem.W.kitx_list I.kIn ⟨o,g1,g2⟩ (hI _ k _ _ e' rfl hw) (fun z=>nomatch z) fin
   | @exc a C n hn hq =>
    cases (show u=Value.ref a from h1)
    exact PySem.W.kia_one (hE a C n (yP e') hn) I.kIn (I.hok a _ hq).1 (hI _ k _ _ e' hn hw) (fun z=>nomatch z) fin
   | ty n=>cases c<;>cases e'
   | cls _=>cases c<;>cases e'
   | ins _ _ _=>cases c<;>cases e'
theorem sJ (hI:Isi X c) (hE:nN X) (G:Gb X "isinstance") (hm:X.mg "isinstance"=none) (ha:SE X e g) (hb:SE X e2 (con c))
  (hs:starEach [e,e2] X.env=↥25::starEach [e2] X.env:=by rfl) (hs2:starEach [e2] X.env=[(false,eval e2 X.env)]:=by rfl) (hpl:(backTo pos (starEach [e2] X.env)).any (·.1)=false:=by rfl) :
  SE X (.Call (.Name "isinstance" p) [e,e2] [] pos) (EV.call jX [g,con c]) :=
 PE.weak (tU (Mu hI hE) G.g hm PyProof.Rows.boot_isinstance (ak ha (ak hb fQ hs2) hs) G.n G.d hs hpl) fun σ H Q ⟨δ,hσ,h⟩=>⟨δ,hσ,by
  cases r:g δ with
  | ok d =>
   have e1:evs [g,con c] δ=.ok [d,c]:=by simp [evs,r,con,R.bind]
   unfold EV.call at h
   rw [e1] at h ⊢
   refine fun vs H' s rs => ?_
   have h':RQ X σ H' (jX [d,c]) Q:=RQ.mono s h
   rcases zq (ds:=[d,c]) with ⟨_,_,k,_,e'⟩ | e'
   ·rw [e'] at h';exact ⟨d,_,rs,e',h'⟩
   ·rw [e'] at h';exact False.elim h'
  | ex C =>
   have e1:evs [g,con c] δ=.ex C:=by simp [evs,r,R.bind]
   unfold EV.call at h
   rw [e1] at h ⊢
   exact h
  | bad =>
   have e1:evs [g,con c] δ=.bad:=by simp [evs,r,R.bind]
   unfold EV.call at h
   rw [e1] at h
   exact False.elim h⟩
end
end ES
namespace ES
open PySem PySem.Spec PyProof.Rows L2 EV
unseal SE ST SW SA SS SSs
section
variable {prog:Program} {w:World} {A:Around} {s:Shared} {K:PySem.W.Frag} {e C:Addr}
open PySem.W PySem.Builtin PySem.Builtin.Getset_descriptor in
theorem Hs {R:Result->Shared->Prop} {tp:Value} (L1:Looks ↥17 s.heap (isSubtype (.ref C) (.type "object")) true) (L0:Looks ↥17 s.heap (typeOf (.ref e)) (.ref C)) (done:R (.ok (.ret (.ref C))) s) :
  codeAny ↥17 A (.call (.builtin "getset_descriptor.__get__") ⟨[.builtin "object.__class__",.ref e,tp],[]⟩) R s:=by
 obtain ⟨hh,g,dr,t,os⟩:=s
 refine codeAny_call_builtin KF.slot_gs.plain KF.entry_gs (KF.slot_gs.check _ _ _ _ _ _ _ _ KF.type_class (KF.args_gs _ _ tp) ?_)
 unfold Builtin.«getset_descriptor.__get__»;unfold descrGet;rw [dga_obj]
 refine wpAny_bind (wpAny_pure ?_)
 simp only [descrGetter,descrCheckInstance,descrNameAndClass,isInstance,KF.owner_class]
 repeat lk
 refine ⟨Code.quiet_builtin _ (by decide +kernel),?_⟩
 refine codeAny_builtin KF.entry_class ?_
 unfold Builtin.«object.__class__»;unfold shownTypeOf
 repeat lk
 exact done
open PySem.W PySem.Builtin PySem.Builtin.Getset_descriptor in
theorem zX {E:Value->Shared->Prop} {Q:Fin->Shared->Prop} {tk:Tok} (L1:Looks ↥17 s.heap (isSubtype (.ref C) (.type "object")) true) (L0:Looks ↥17 s.heap (typeOf (.ref e)) (.ref C))
  (L2:Looks ↥17 s.heap (typeLookup (.ref C) "__class__") (some (.builtin "object.__class__"))) (done:Q (.done (.ret (.ref C))) s) :
  wpAny ↥17 A (Builtin.«object.__getattribute__» ⟨[.ref e,.str "__class__" tk],[]⟩) Q E s:=by
 obtain ⟨hh,g,dr,t,os⟩:=s
 have f5:=F.typeOf_object_class
 have f6:=F.slot_gs_get.lookup
 have f7:=F.slot_gs_set.lookup
 have hT5:(⟨hh,g,dr,t,os⟩:Shared).TypeIs (.builtin "object.__class__") "getset_descriptor":=F.typeOf_object_class
 repeat (any_goals (first | assumption | with_reducible refine L0.at ?_ | with_reducible refine L2.at ?_ | wp_step))
 refine Hs L1 L0 ?_
 repeat (any_goals (first | assumption | wp_step))
open PySem.W PySem.Builtin PySem.Builtin.Getset_descriptor in
theorem zY {M:Model} {E:Value->Shared->Prop} {nameV:Value} {Q:Unit->Shared->Prop} (L3:Looks M s.heap (isSubtype (.ref C) ↥33) true) (L0:Looks M s.heap (typeOf (.ref e)) (.ref C)) (done:Q () s) :
  wpAny M A (checkBuiltinCall "BaseException.__getattribute__" ⟨[.ref e,nameV],[]⟩) Q E s:=by
 obtain ⟨hh,g,dr,t,os⟩:=s
 have k1:builtinKind "BaseException.__getattribute__"=some .slot:=by decide +kernel
 have k2:splitId "BaseException.__getattribute__"=some ("BaseException","__getattribute__"):=by decide +kernel
 have ha:=F.args_bexc_ga (.ref e) nameV
 simp only [checkBuiltinCall,k1,k2]
 refine wpAny_bind ?_
 unfold isInstance
 repeat (first | with_reducible refine L0.at ?_ | with_reducible refine L3.at ?_ | wp_step)
 exact done
structure XCls (K:PySem.W.Frag) (C:Addr):Prop where
 c0:PySem.W.mroIn K C (.type "object")=some true
 c1:PySem.W.mroIn K C ↥33=some true
 c2:PySem.W.findIn K (.ref C) "__class__"=some (some (.builtin "object.__class__"))
 c3:PySem.W.findIn K (.ref C) "__getattribute__"=some (some (.builtin "BaseException.__getattribute__"))
 c4:PySem.W.findIn K (.ref C) "__getattr__"=some none
 c5:∃ cd,PySem.W.clsIn K C=some cd
open PySem.W PySem.Builtin PySem.Builtin.Getset_descriptor in
theorem KO {E:Value->Shared->Prop} {Q:Value->Shared->Prop} {tk:Tok} (FB:ExcAttrFacts "ValueError") (L0:Looks ↥17 s.heap (typeOf (.ref e)) (.ref C)) (c:XCls K C) (KX:K.In s.heap) (done:Q (.ref C) s) :
  wpAny ↥17 A (getAttrBy (.ref e) (.str "__class__" tk) false) Q E s:=by
 have L1:Looks ↥17 s.heap (isSubtype (.ref C) (.type "object")) true:=looks_mroIn KX c.c0
 have L3:Looks ↥17 s.heap (isSubtype (.ref C) ↥33) true:=looks_mroIn KX c.c1
 have L2:Looks ↥17 s.heap (typeLookup (.ref C) "__class__") (some (.builtin "object.__class__")):=looks_findIn KX c.c2
 have L4:Looks ↥17 s.heap (typeLookup (.ref C) "__getattribute__") (some (.builtin "BaseException.__getattribute__")):=looks_findIn KX c.c3
 have L5:Looks ↥17 s.heap (typeLookup (.ref C) "__getattr__") none:=looks_findIn KX c.c4
 obtain ⟨hh,g,dr,t,os⟩:=s
 have f3:=FB.ga.bind (.ref e)
 have q2:(Value.builtin "BaseException.__getattribute__" == Value.builtin "object.__getattribute__")=false:=by decide +kernel
 have q0:(false&&onTheHeap (Value.builtin "BaseException.__getattribute__"))=false:=rfl
 have q1:(onTheHeap (Value.ref C)&&Value.builtin "BaseException.__getattribute__" == Value.builtin "object.__getattribute__")=false:=by rw [q2];rfl
 repeat (any_goals (first | assumption | with_reducible refine L0.at ?_ | with_reducible refine L4.at ?_ | with_reducible refine L5.at ?_ | wp_step))
 refine codeAny_call_builtin FB.ga.plain F.entry_bexc_ga (zY L3 L0 (zX L1 L0 L2 ?_))
 repeat (any_goals (first | assumption | wp_step))
open PySem.W in
theorem Gn (c:XCls K C):KitX K (.ref e) (.ref C) (fun h=>∃ o vs,h.get? e=some o/\o.cls=.ref C/\o.data=.fields vs) where
 ty:=fun M h KX ⟨o,vs,h1,h2,h3⟩=>h2▸(Looks.ld h1).andThen .now
 it:=fun M h KX _=>by
  obtain ⟨cd,hc⟩:=c.c5
  unfold clsIn at hc
  split at hc
  ·rename_i hlk
   intro A' Q' E' s' k q
   unfold isType loadHead
   exact wpAny_bind (wpAny_loadPart (k _ _ (KX _ _ hlk)) (wpAny_pure q))
  ·cases hc
 ne:=fun h tp dd its n sl KX htp=>by
  obtain ⟨cd,hc⟩:=c.c5
  unfold clsIn at hc
  split at hc
  ·rename_i hlk
   have h1:=KX _ _ hlk
   by_cases z:C=tp
   ·subst z
    rw [htp] at h1
    cases h1
   ·simpa using z
  ·cases hc
 ca:=fun {prog w A E Q s} KX ⟨o,vs,h1,h2,h3⟩ q=>by
  obtain ⟨hh,g,dr,t,os⟩:=s
  have L0:Looks ↥17 hh (typeOf (.ref e)) (.ref C):=h2▸(Looks.ld h1).andThen .now
  have by_:∀ {tk:Tok} {t':Nat} {E':Value->Shared->Prop} {Q':Value->Shared->Prop},Q' (.ref C) ⟨hh,g,dr,t',os⟩->wpAny ↥17 A (getAttrBy (.ref e) (.str "__class__" tk) false) Q' E' ⟨hh,g,dr,t',os⟩:=fun {tk t' E' Q'} done=>KO (s:=⟨hh,g,dr,t',os⟩) PySem.F.excAttr_ValueError L0 c KX done
  clear h1
  unfold getAttr? getAttrBy?
  repeat (any_goals (first | assumption | with_reducible apply by_ | wp_step))
end
theorem lI (h:∀ (n:String) (C:Addr),aj.contains n=true->X.mg n=some (.ref C)->XCls X.K C):nN X:=fun e C n hx hn=>Gn (h n C hx hn)
end ES
namespace ES
open PySem PySem.Spec PyProof.Rows L2 EV
unseal SE ST SW SA SS SSs
theorem mG {G:List Str} (i:Nat) {x:Str} (h:G[i]? = some x:=by rfl):x∈G:=List.mem_of_getElem? h
structure XF (K:PySem.W.Frag) (mg:Str->Option Value) (n:String):Prop where
 ex:mg n=none\/∃ C,mg n=some (.ref C)/\XCls K C
theorem rh {K:PySem.W.Frag} {mg:Str->Option Value} (h:∀ n∈aj,XF K mg n) (n:String) (C:Addr) (hn:aj.contains n=true) (hm:mg n=some (.ref C)):XCls K C:=by
 rcases (h n (by simpa using hn)).ex with z | ⟨C',z,x⟩
 ·rw [hm] at z;cases z
 ·rw [hm] at z;cases z;exact x
structure CF (K:PySem.W.Frag) (mg:Str->Option Value) (B:Addr) (n:String):Prop where
 ex:mg n=none\/∃ C,mg n=some (.ref C)/\PySem.W.mroIn K C (.ref B)=some true
structure CB (K:PySem.W.Frag) (B:Addr):Prop where
 c1:∃ cd,PySem.W.clsIn K B=some cd
 c2:PySem.W.typeIn K (.ref B)=some (.type "type")
 c3:PySem.W.subIn K (.type "type") ↥5=some false
 c4:PySem.W.mroIn K B ↥33=some true
theorem vQ (b:CB X.K B) (h:∀ n∈aj,pj n cls=true->CF X.K X.mg B n):tf X cls B:=fun C Ca hs hm=>by
 have hn:C∈aj:=by
  unfold pj at hs
  rw [Bool.and_eq_true] at hs
  simpa using hs.1
 rcases (h C hn hs).ex with z | ⟨C',z,x⟩
 ·rw [hm] at z;cases z
 ·rw [hm] at z;cases z;exact ⟨by obtain ⟨_,e⟩:=b.c1;rw [e];rfl,b.c2,b.c3,b.c4,x⟩
theorem uh (hn:n≠"ValueError") (i0:PySem.W.kitOne X.K (.type "NoneType") (.type n)=some false) (i1:PySem.W.kitOne X.K (.type "bool") (.type n)=some (n == "int"||n == "bool")) (i2:PySem.W.kitOne X.K (.type "int") (.type n)=some (n == "int"))
  (i3:PySem.W.kitOne X.K (.type "str") (.type n)=some (n == "str")) (i4:PySem.W.kitOne X.K ↥5 (.type n)=some (n == "tuple")) (i5:PySem.W.kitOne X.K (.type "list") (.type n)=some (n == "list")):Isi X (.ty n):=by
 intro d k t u e ht hu
 cases hu
 cases d with
 | exc C =>
  have z:=(dk e).1
  rw [Bool.and_eq_true,beq_iff_eq] at z
  exact absurd z.2 hn
 | non=>cases ht;obtain ⟨_,rfl⟩:=dk e;exact i0
 | bl b=>cases ht;obtain ⟨_,rfl⟩:=dk e;exact i1
 | int b=>cases ht;obtain ⟨_,rfl⟩:=dk e;exact i2
 | str b=>cases ht;obtain ⟨_,rfl⟩:=dk e;exact i3
 | tup b=>cases ht;obtain ⟨_,rfl⟩:=dk e;exact i4
 | lst b=>cases ht;obtain ⟨_,rfl⟩:=dk e;exact i5
 | _=>cases e
structure IF (K:PySem.W.Frag) (mg:Str->Option Value) (c:Value) (k:Bool) (n:String):Prop where
 ex:mg n=none\/∃ C,mg n=some (.ref C)/\PySem.W.kitOne K (.ref C) c=some k
theorem IF.get {K:PySem.W.Frag} {mg:Str->Option Value} {c:Value} {k:Bool} {n:String} {C:Addr} (f:IF K mg c k n) (hm:mg n=some (.ref C)):PySem.W.kitOne K (.ref C) c=some k:=by
 rcases f.ex with z | ⟨C',z,x⟩
 ·rw [hm] at z;cases z
 ·rw [hm] at z;cases z;exact x
theorem yu (hB:X.mg B=some (.ref Ba)) (hr:∀ (n:String) u,aj.contains n=true->X.mg n=some u->∃ C,u=.ref C) (i0:PySem.W.kitOne X.K (.type "NoneType") (.ref Ba)=some false) (ix:∀ n∈aj,IF X.K X.mg (.ref Ba) (n == B||B == "MillError") n):Isi X (.cls B):=by
 intro d k t u e ht hu
 have hu':X.mg B=some u:=hu
 rw [hB] at hu'
 cases hu'
 cases d with
 | exc C =>
  obtain ⟨z,rfl⟩:=dk e
  rw [Bool.and_eq_true] at z
  obtain ⟨Ca,rfl⟩:=hr C t z.1 ht
  exact (ix C (by simpa using z.1)).get ht
 | non =>
  cases ht
  obtain ⟨_,rfl⟩:=dk e
  exact i0
 | _=>cases e
theorem CI {K:PySem.W.Frag} {mg:Str->Option Value} (h:∀ n∈aj,XF K mg n) (n:String) (u:Value) (hn:aj.contains n=true) (hm:mg n=some u):∃ C,u=.ref C:=by
 rcases (h n (by simpa using hn)).ex with z | ⟨C',z,x⟩
 ·rw [hm] at z;cases z
 ·rw [hm] at z;cases z;exact ⟨_,rfl⟩
theorem gJ:∀ {ns:List Int},PySem.W.WData.weightAll (ns.map PySem.W.WData.int)<=2^20->∀ n∈ns,nb n<=2^20
 | [],_,_,h=>nomatch h
 | m::r,hw,n,h=>by
  rw [List.map_cons,PySem.W.WData.weightAll] at hw
  rcases List.mem_cons.mp h with rfl | h
  ·have:PySem.W.WData.weight (.int n)=Builtin.Int.intBits n:=by simp only [PySem.W.WData.weight,Builtin.Int.intBits]
   rw [ye]
   omega
  ·exact gJ (ns:=r) ⋯ n h
open PySem.W PySem.Calls Att in
theorem sY {l:OpenLaw} {n:Nat} {q:Program} {loose:List Str} {XP:(Str->Option Value)->Heap->Prop} {YP:World->Heap->Prop} {d:DefRec}
  (hn:l.most=some n) (hdf:d.params.defaults=[])
  (call:∀ (w:World) (s₀ s₁:Shared) (mg mb:Str->Option Value) (fa:Addr) (a:Addr) (vs:List Value) (ns:List Int),
   Ground q loose [] XP w s₀ mg mb s₁.heap->YP w s₁.heap->mg d.name=some (.ref fa) ->
   s₁.heap.get? a=some { cls:=.type "list",data:=.seq vs.toArray }->IntsAre vs ns->ns.length<=n->(∀ m∈ns,nb m<=2^20)->s₁.gens = #[] ->
   codeAny (model l.prog w) callerA (.call (.ref fa) ⟨[.ref a],[]⟩) (fun r s'=>r=.ok (.ret (.bool true))/\OldK s₁.heap s'.heap/\s'.os=s₁.os/\AllBare s'.gens) s₁) :
  WalkO q loose XP YP l.row.toRowW d [] (fun f vs=>PySem.call f vs):=by
 intro w s₀ s₁ mg mb G Y fa o pm cd doc dV kV ho hd hcd hD hmg hg args vals as hpre hlay hrd hwl hlo
 obtain rfl:dV=.none:=Dflts.none hD hdf
 obtain rfl:kV=.none:=Dflts.noKw hD
 obtain ⟨a,vs,ns,rfl,rfl,hobj,hints,hlen⟩:=wW hn hpre hwl
 have hb:∀ m∈ns,nb m<=2^20:=by
  have h1:=(layableW_iff.mp (layW_cons hlay).1).2.2
  rw [WData.weight] at h1
  exact gJ h1
 refine enter_call (codeAny_mono (call w s₀ s₁ mg mb fa a vs ns G Y hmg hobj hints hlen hb hg) fun r s' hq => ?_)
 obtain ⟨rfl,h2,h3,h4⟩:=hq
 exact ⟨.inl ⟨.bool true,.bool true,[],rfl,fun _=>rfl,.bool true,xo l _,fun _=>⟨List.Pairwise.nil,fun _ hm=>(nomatch hm)⟩⟩,h2,h3,h4⟩
theorem Ad {l:PySem.W.OpenLaw} {k:Nat} {q:Program} {loose:List Str} {XP:(Str->Option Value)->Heap->Prop} {YP:World->Heap->Prop} {d:DefRec} {K:Params->PySem.W.Frag} {x:Str} {f:List D->R D}
  (hf:Good f) (hn:l.most=some 63) (hdf:d.params.defaults=[]) (hr:Room k callerA)
  (hY:∀ (w:World) (h:Heap),YP w h->(K w.params).In h)
  (F:∀ (w:World) (mg:Str->Option Value) (fa:Addr) (h:Heap),(K w.params).In h->h.Ns mainGlobals mg->mg d.name=some (.ref fa) ->
   ∃ fd:FuncData,(∀ (s:Shared) (u:Value),BindsTo s fd ⟨[u],[]⟩ [(x,u)]) /\
    ∀ base:Heap,(K w.params).In base->base.Ns mainGlobals mg->FnOk l.prog w (K w.params) mg base (CXF l.prog w) k fa fd [x] (spP (K w.params) mg f)) :
  PySem.W.WalkO q loose XP YP l.row.toRowW d [] (fun f vs=>PySem.call f vs):=by
 refine sY hn hdf fun w s₀ s₁ mg mb fa a vs ns G Y hmg hobj hints hlen hbits hg => ?_
 have KX:=hY w _ Y
 obtain ⟨fd,hb,hF⟩:=F w mg fa _ KX G.T.g hmg
 refine BH KX G.T.g G.T.b G.T.builtins G.T.nolimit hg hobj hints (Nat.le_trans hlen ↥2) hr hF hb (fun H hO hS=>⟨[.lst (ns.map .int)],.cons (.lst hS (Reps.ints ns)) .nil,?_⟩) fun H e s' ⟨_,_,_,_,_,z⟩=>z
 rw [hf ns hlen hbits]
 exact fun v H' _ r=>by cases r;rfl
end ES
namespace ES
open PySem PySem.Spec PyProof.Rows L2 EV
unseal SE ST SW SA SS SSs
structure FldOk (X:Cx) (cn f:String):Prop where
 ex:∃ C,X.mg cn=some (.ref C)/\Cls X.K C/\iK X.K C f
structure MethOk (X:Cx) (cn m:String) (F:List D->R D):Prop where
 ex:∃ C fa k fd ps,X.mg cn=some (.ref C)/\Cls X.K C/\Meth X.K C m fa/\FnOk X.prog X.w X.K X.mg X.base (CXF X.prog X.w) k fa fd ps (spP X.K X.mg F)/\Room k X.A/\Binds X.K fd ps []
section
variable {X:Cx} {o e:Expr} {es:List Expr} {go:E} {gs:List E} {pos apos p:Pos} {cn f m:String} {F:List D->R D}
theorem yT (h:FldOk X cn f) (ho:SE X o go) (hb:attributeBase o f X.env (eval o X.env)=eval o X.env:=by rfl):SE X (.Attribute o f pos) (un (v5 cn f) go):=by
 obtain ⟨C,hC,cl,na⟩:=h.ex
 refine PE.weak (IP ho hb) fun σ H Q ⟨δ,hσ,h⟩=>⟨δ,hσ,(RQ.bind h).to fun v H' s ⟨_,d,r,q⟩ => ?_⟩
 cases r with
 | @ins a C' dx n fs ds hn ha rf =>
  unfold v5 at q
  simp only at q
  split at q
  ·rename_i hcn
   rw [beq_iff_eq] at hcn
   subst hcn
   split at q
   ·rename_i d hd
    obtain ⟨v,e1,e2⟩:=rf.lookup hd
    rw [hC] at hn
    cases hn
    exact ⟨a,C,dx,fs,v,rfl,ha,cl,na,e1,q _ _ ↥21 e2⟩
   ·exact False.elim q
  ·exact False.elim q
 | _=>exact False.elim q
theorem FV {σ:L2.St} {H:Hp} {δ:Dt} {d:D} {es:List E} {Q:VK} (h:RQ X σ H (if d8 cn m d then (evs es δ).bind fun ds=>F (d::ds) else .bad) Q):d8 cn m d=true/\RA X σ H (evs es δ) fun vs H'=>ao H H'/\∃ ds,Reps X.K X.mg H' vs ds/\RQ X σ H' (F (d::ds)) Q:=by
 by_cases hm:d8 cn m d=true
 ·rw [if_pos hm] at h
  refine ⟨hm,?_⟩
  have h2:RQ X σ H ((evs es δ).bind fun ds=>F (d::ds)) Q:=h
  cases r:evs es δ with
  | ok ds=>rw [r] at h2;exact fun vs H' s rs=>⟨s,ds,rs,RQ.mono s h2⟩
  | ex C=>rw [r] at h2;exact h2
  | bad=>rw [r] at h2;exact h2
 ·rw [if_neg hm] at h;exact False.elim h
theorem uz (h:MethOk X cn m F) (ho:SE X o go) (ha:SA X (e::es) gs)
  (hst:starEach (e::es) X.env=↥25::starEach es X.env:=by rfl) (hpl:(backTo pos (starEach es X.env)).any (·.1)=false:=by rfl)
  (ht:eval (.Call (.Attribute o m apos) (e::es) [] pos) X.env=(do
   let ov<-eval o X.env
   standAt apos.atName
   let (f,first)<-holding [ov] (getMethod ov m pl)
   callWith pos f first (backTo pos (starEach (e::es) X.env)) (backToKw pos (keywordEach [] X.env))):=by rfl) :
  SE X (.Call (.Attribute o m apos) (e::es) [] pos) (G7 cn m F go gs):=by
 obtain ⟨C,fa,k,fd,ps,hC,cl,hm,FO,hr,hb⟩:=h.ex
 intro pins s σ H Q I ⟨δ,hσ,h⟩
 refine PySem.W.methodCall_KW (pl:=pl) (thn (ho pins s σ H _ I ⟨δ,hσ,RQ.bind h⟩) fun u s1 ⟨x,H1,I1,rx,sm,d,rd,q⟩ => ?_) ht
 obtain ⟨im,qa⟩:=FV q
 cases rd with
 | @ins a C' dx n fs ds hn hA rf =>
  unfold d8 at im
  rw [Bool.and_eq_true,beq_iff_eq] at im
  obtain ⟨e1,e2⟩:=im
  subst e1
  rw [hC] at hn
  cases hn
  have l:fs.lookup (m:Str)=none:=rf.lookupN (by simpa using e2)
  obtain rfl:u=Value.ref a:=rx
  refine vK I1 hA cl hm l ?_
  refine PySem.W.callWith_K (first:=[.ref a]) (h₀:=X.base) I.ok.mod.kin hm.kp (thn (ha pos pins s1 σ H1 _ I1 ⟨δ,hσ.mono sm,qa⟩) fun us s2 ⟨vs,H2,I2,r,sm2,ds',rs,q2⟩=>⟨I2.kIn,?_⟩) hst hpl
  exact Io (us:=.ref a::us) (vs:=.ref a::vs) FO hr hb I2 (.cons rfl r) (.cons (.ins hC (sm2 _ _ hA) (rf.mono sm2)) rs) q2
 | _=>cases im
def spI (K:PySem.W.Frag) (f:Str):Sp:=fun vs H Q _=>∃ x v C dx,vs=[.ref x,v]/\H x=some (.ins C dx [])/\Cls K C/\iK K C f/\Q .non (upd H x (.ins C dx [(f,v)]))
theorem Gd {P:Program} {w:World} {K:PySem.W.Frag} {mg:Str->Option Value} {base:Heap} {x qual ps pa f:Str} {st:Stmt} {fa:Addr} {fd:FuncData} {p1 p2 p3 p4:Pos} {k:Nat} (F:Fun K x qual st fa fd)
  (S:FnScope [ps,pa] [ps,pa] (aa st)) (h0:(aa st).names.lookup ps=some .local) (h1:(aa st).names.lookup pa=some .local) (d0:(ps == ("__debug__":Str))=false/\(ps == ("__classdict__":Str))=false) (d1:(pa == ("__debug__":Str))=false/\(pa == ("__classdict__":Str))=false)
  (hb:ag st=[.Assign [.Attribute (.Name ps p1) f p2] (.Name pa p3) p4]) (hsw:∀ env,swapsWith (.Name pa p3) (some (.Attribute (.Name ps p1) f p2)) p4.line env=pure false):FnOk P w K mg base CX0 (k+1) fa fd [ps,pa] (spI K f):=by
 refine F.ok S (fun vs H Q E h => ?_) fun cdv A outer s H vs Q E hr h => ?_
 ·obtain ⟨_,_,_,_,rfl,_⟩:=h
  rfl
 ·obtain ⟨a,v,C,dx,rfl,hH,cl,na,q⟩:=h
  rw [hb]
  refine ⟨_,oG (IH (ip (i:=0) rfl (.inl h0) d0.1 d0.2) (ip (i:=1) rfl (.inl h1) d1.1 d1.2) (hsw _)),?_⟩
  exact ⟨v,rfl,_,rfl,a,C,dx,[],rfl,hH,cl,na,by decide,q⟩
structure MakeOk (X:Cx) (cn f:String):Prop where
 ex:∃ C fa k fd ps,X.mg cn=some (.ref C)/\Cls X.K C/\iK X.K C f/\Mk X.K C fa/\FnOk X.prog X.w X.K X.mg X.base CX0 k fa fd ps (spI X.K f)/\Room (k+1) X.A/\Binds X.K fd ps []
theorem Gs (h:MakeOk X cn f) (G:Gb X cn) (ha:SA X (e::es) gs) (he:starEach (e::es) X.env=↥25::starEach es X.env:=by rfl) (hpl:(backTo pos (starEach es X.env)).any (·.1)=false:=by rfl) :
  SE X (.Call (.Name cn p) (e::es) [] pos) (EV.call (mk1 cn f) gs):=by
 obtain ⟨C,fa,k,fd,ps,hC,cl,na,M,F,hr,hb⟩:=h.ex
 refine PE.weak (ET (E:=fun _ _ _=>False) M F hr G.g hC hb .nil LK ha G.d he hpl) fun σ H Q ⟨δ,hσ,h⟩=>⟨δ,hσ,(RA.bind h).to fun vs H' s ⟨_,ds,rs,q⟩ x dx hx hdx hne => ?_⟩
 unfold mk1 at q
 split at q
 ·rename_i d
  obtain ⟨v,rfl,r⟩:=mD rs
  refine ⟨x,v,C,dx,rfl,au,cl,na,rfl,?_⟩
  have s1:ao H' (upd H' dx (.own x)):=ar hdx _
  have hx1:(upd H' dx (.own x)) x=none:=by rw [aB (Ne.symm hne)];exact hx
  have s2:ao (upd H' dx (.own x)) (upd (upd H' dx (.own x)) x (.ins C dx [])):=ar hx1 _
  have s3:ao H' (upd (upd (upd H' dx (.own x)) x (.ins C dx [])) x (.ins C dx [((f:Str),v)])):=fun b o e=>by
   have hb:b≠x:=bR e hx
   rw [aB hb,aB hb]
   exact s1 b o e
  exact q _ _ s3 (.ins hC au (.cons (r.mono s3) .nil))
 ·exact False.elim q
end
end ES
namespace ES
open PySem PySem.Spec PyProof.Rows L2 EV
unseal SE ST SW SA SS SSs
def zB (X:Cx) (J:It) (H:Hp) (ds:List D):Prop:=∀ Hc,ao H Hc ->
 (∀ i d,ds[i]? = some d->J.go i Hc/\∀ x H',J.yld i Hc x H'->ao Hc H'/\∀ Hq,ao H Hq->(∀ b o,H' b=some o->Hc b=none->Hq b=some o)->Rep X.K X.mg Hq x d)/\∀ i,ds.length<=i->J.stop i Hc
theorem ri {X:Cx} {H Hc H':Hp} {x:V} {d:D} (e:H'=Hc) (r:Rep X.K X.mg H x d):ao Hc H'/\∀ Hq,ao H Hq->(∀ b o,H' b=some o->Hc b=none->Hq b=some o)->Rep X.K X.mg Hq x d :=
 ⟨by rw [e];exact ao.refl _,fun Hq s _=>r.mono s⟩
def RI (X:Cx) (σ:L2.St) (H:Hp) (r:R (List D)) (Q:It->Hp->Prop):Prop:=match r with
 | .ok ds=>∀ J H',ao H H'->zB X J H' ds->Q J H'
 | .ex C=>∀ Ca,X.mg C=some (.ref Ca)->∀ H',ao H H'->ew X Ca σ H'
 | .bad=>False
def tI (X:Cx) (g:IT):TI:=fun σ H Q=>∃ δ,Stt X.K X.mg H σ δ/\RI X σ H (g δ) Q
@[irreducible] def SI (X:Cx) (tg iter:Expr) (g:IT):Prop:=PI X tg iter (tI X g)
unseal SI
section
variable {X:Cx} {tg e a b:Expr} {g ga gb:E} {σ:L2.St} {H H1:Hp}
theorem RI.mono (s:ao H H1) (h:RI X σ H r Q):RI X σ H1 r Q:=by
 cases r with
 | ok d=>exact fun v H' s' r=>h v H' (s.trans s') r
 | ex C=>exact fun Ca hc H' s'=>h Ca hc H' (s.trans s')
 | bad=>exact h
theorem RI.bind (h:RI X σ H (r.bind f) Q):RQ X σ H r (fun v H'=>ao H H'/\∃ d,Rep X.K X.mg H' v d/\RI X σ H' (f d) Q):=by
 cases r with
 | ok d=>exact fun v H' s r=>⟨s,d,r,h.mono s⟩
 | ex C=>exact h
 | bad=>exact h
theorem RI.bindA (h:RI X σ H (r.bind f) Q):RA X σ H r (fun vs H'=>ao H H'/\∃ ds,Reps X.K X.mg H' vs ds/\RI X σ H' (f ds) Q):=by
 cases r with
 | ok d=>exact fun v H' s r=>⟨s,d,r,h.mono s⟩
 | ex C=>exact h
 | bad=>exact h
theorem PI.weak (h:PI X tg e t) (w:∀ σ H Q,t' σ H Q->t σ H Q):PI X tg e t':=fun pins s σ H Q I q=>h pins s σ H Q I (w σ H Q q)
theorem C1 (h:SE X e g):SI X tg e (itL g):=PI.weak (ER h) fun σ H Q ⟨δ,hσ,q⟩=>⟨δ,hσ,(RI.bind q).to fun v H' s ⟨_,d,r,q⟩=>by
 cases d with
 | lst ds =>
  cases r with
  | @lst p xs _ hq rs =>
   refine ⟨p,rfl,⟨xs,hq⟩,q _ _ ↥21 fun Hc sc=>⟨fun i d hd => ?_,fun i hi=>⟨xs,sc.seq hq,by rw [rs.length];exact hi⟩⟩⟩
   obtain ⟨v,e1,r1⟩:=rs.get hd
   exact ⟨⟨xs,v,sc.seq hq,e1⟩,fun x H'' ⟨e2,y⟩=>by
    have:=y xs (sc.seq hq)
    rw [e1] at this
    cases this
    exact ri e2 r1⟩
 | _=>exact False.elim q⟩
theorem Mf (h:SE X e g):SI X tg e (itT g):=PI.weak (IJ h) fun σ H Q ⟨δ,hσ,q⟩=>⟨δ,hσ,(RI.bind q).to fun v H' s ⟨_,d,r,q⟩=>by
 cases d with
 | tup ds =>
  cases r with
  | @tup p xs _ hq rs =>
   refine ⟨p,rfl,⟨xs,hq⟩,q _ _ ↥21 fun Hc sc=>⟨fun i d hd => ?_,fun i hi=>⟨xs,fq sc hq,by rw [rs.length];exact hi⟩⟩⟩
   obtain ⟨v,e1,r1⟩:=rs.get hd
   exact ⟨⟨xs,v,fq sc hq,e1⟩,fun x H'' ⟨e2,y⟩=>by
    have:=y xs (fq sc hq)
    rw [e1] at this
    cases this
    exact ri e2 r1⟩
 | _=>exact False.elim q⟩
theorem Ac {lo hi:Int}:zB X (Itr lo (hi - lo).toNat) H (p6 lo hi):=fun Hc sc=>⟨fun i d hd=>by
  have hl:=(List.getElem?_eq_some_iff.mp hd).1
  rw [tN] at hl
  rw [EH hl] at hd
  cases hd
  exact ⟨hl,fun x H' ⟨e,ex⟩=>by subst ex;exact ri e (.int _)⟩,fun i hi'=>by rw [tN] at hi';exact hi'⟩
theorem JN (G:Gb X "range") (hm:X.mg "range"=none) (ha:SE X a ga) (hb:SE X b gb) (hs:starEach [a,b] X.env=[(false,eval a X.env),(false,eval b X.env)]:=by rfl) (hs2:starEach [b] X.env=[(false,eval b X.env)]:=by rfl) :
  SI X tg (.Call (.Name "range" p) [a,b] [] pos) (Me ga gb) :=
 PI.weak (xr G.g hm (ak ha (ak hb fQ hs2) (by rw [hs,hs2])) hs hs2) fun σ H Q ⟨δ,hσ,q⟩=>⟨δ,hσ,(RI.bindA q).to fun vs H' s ⟨_,ds,rs,q⟩=>by
  unfold Kn at q
  split at q
  ·rename_i lo hi
   obtain ⟨v,v',rfl,r1,r2⟩:=AX rs
   cases r1
   cases r2
   split at q
   ·rename_i hb
    exact ⟨lo,hi,rfl,hb,q _ _ ↥21 Ac⟩
   ·exact False.elim q
  ·exact False.elim q⟩
end
def FI (X:Cx) (σ:L2.St) (H:Hp) (os:Os) (δ:Dt) (r:R (List D)) (Q:It->Hp->Prop):Prop:=match r with
 | .ok ds=>∀ J H',StO X H' σ δ os->ao ↥20 (hide H' os)->zB X J (hide H' os) ds->Q J H'
 | .ex C=>∀ Ca,X.mg C=some (.ref Ca)->∀ H',ao ↥20 H'->Stt X.K X.mg H' σ (noOwn δ)->ew X Ca σ H'
 | .bad=>False
def tFI (X:Cx) (g:IT):TI:=fun σ H Q=>∃ δ os,StO X H σ δ os/\FI X σ H os δ (g δ) Q
section
variable {X:Cx} {N:List Str} {tg e:Expr} {g:IT}
theorem JS (hx:X.ex=[]) (h:SI X tg e g):PI X tg e (tFI X g):=by
 intro pins s σ H Q I ⟨δ,os,S,q⟩
 have hl:=S.lsts
 have hw:RI X σ ↥20 (g δ) (fun J H1=>ao ↥20 H1/\∃ ds,g δ=.ok ds/\zB X J H1 ds):=by
  cases r:g δ with
  | ok d=>exact fun v H' s r=>⟨s,d,rfl,r⟩
  | ex C =>
   rw [r] at q
   exact fun Ca hc H' s'=>q Ca hc H' s' (S.noOwn s')
  | bad=>rw [r] at q;exact q
 refine thn (h _ s σ _ _ (kd I hl) ⟨δ,S.st,hw⟩) fun v s1 h1=>thn h1 fun itv s2 h2 => ?_
 obtain ⟨it,fp,tn,J,H1,e1,I1,T,st,fpk,sm,ds,e2,wk⟩:=h2
 obtain ⟨I2,hn⟩:=j9 hx I hl I1
 rw [e2] at q
 have eh:=iz (H:=H) hn
 refine ⟨it,fp,tn,J,eB H H1 os,e1,I2,T,st,fun b hb => ?_,q J _ (S.shown sm hn) (by rw [eh];exact sm) (by rw [eh];exact wk)⟩
 obtain ⟨f0,f1,f2,f3,f4,f5⟩:=fpk b hb
 have nb:b∉jj os:=fun z=>by
  obtain ⟨xs,hh⟩:=hl b z
  obtain ⟨o,eo⟩:∃ o,s.heap.get? b=some o:=by
   obtain ⟨_,its,n,_,eo⟩:=I.hok b _ hh
   exact ⟨_,eo⟩
  exact f5 (b,o) (List.mem_append_right _ (List.mem_append_right _ (cZ z eo))) rfl
 refine ⟨by unfold eB;rw [if_neg nb];exact f0,f1,f2,f3,f4,fun p hp=>f5 p ?_⟩
 rw [<- List.append_assoc]
 exact List.mem_append_left _ hp
variable {body:List Stmt} {gb:S} {pos:Pos}
theorem ig (C:Sx X N) (L:Lp X) (i:Nat) (hN:N[i]? = some x) (hx:Sto X x) (he:SI X (.Name x pos') e g) (hb:SSs X body gb) (hs:∀ x,foldedSetIterable e X.env x=pure x:=by intro _;rfl) :
  SS X (.For (.Name x pos') e body [] pos) (uu i g gb):=by
 refine PS.weak (IG L.own L.calm (JS C.ex he) (rN (i:=i) (by rw [C.sc.n];exact C.sc.nd) (by rw [C.sc.n];exact hN) hx.1 hx.2) hb hs) fun D σ H ⟨δ,os,S,q⟩=>⟨δ,os,S,?_⟩
 unfold uu ovI at q
 cases r:g δ with
 | ok ds =>
  rw [r] at q
  intro J H1 S1 s1 wk
  refine ⟨fun n m σ' H'=>m=ds.length - n/\n<=ds.length/\Pv X D ↥20 (hide H1 os) i gb ds n σ' H',⟨ds.length,by simp,Nat.zero_le _,δ,os,S1,ao.refl _,s1,by rw [List.drop_zero];exact q⟩,?_⟩
  rintro n m σ' H' ⟨rfl,hn,p⟩
  obtain ⟨δ',os',S',s',s0,q'⟩:=id p
  have w:=wk H' (s'.trans (az _ _))
  by_cases hlt:n<ds.length
  ·have hd:ds[n]? = some ds[n]:=List.getElem?_eq_getElem hlt
   refine .inr ⟨(w.1 n _ hd).1,Pv X D ↥20 (hide H1 os) i gb ds (n+1),fun σ2 H2 z=>⟨ds.length - (n+1),⋯,rfl,⋯,z⟩,fun x H'' y => ?_⟩
   obtain ⟨e1,r1⟩:=(w.1 n _ hd).2 x H'' y
   have sm:=s'.trans (d9 os' e1)
   exact tw hd (S'.mono e1) sm s0 q' (r1 _ sm fun b o z1 z2=>by
    rw [aZ fun z=>by obtain ⟨xs,hx⟩:=S'.lsts b z;rw [z2] at hx;cases hx]
    exact z1)
  ·exact .inl ⟨w.2 n ⋯,JY ⋯ p⟩
 | ex C=>rw [r] at q;exact fun Ca hc H' s' st=>q σ H' s' st Ca hc
 | bad=>rw [r] at q;exact q
end
end ES
namespace ES
open PySem PySem.Spec PyProof.Rows L2 EV
unseal SE ST SW SA SS SSs SI
def zR (env:Env):List (Str×NameKind)->List (Str×Addr)->List (Str×Addr)
 | [],cs=>cs
 | (n,k)::r,cs=>zR env r (if k == .free then (n,(env.cells.lookup n).getD 0)::cs else cs)
theorem vP (h:∀ y,(y,NameKind.free)∈sc.names->∃ c,env.cells.lookup y=some c):closureFor sc env=pure (zR env sc.names []):=by
 unfold closureFor
 have key:∀ (l:List (Str×NameKind)) (cs:List (Str×Addr)),(∀ y,(y,NameKind.free)∈l->∃ c,env.cells.lookup y=some c) ->
   (forIn l cs fun x (r:List (Str×Addr))=>(match x with | (name,kind)=>if (kind == NameKind.free)=true then do let a<-cellOf env name;pure (ForInStep.yield ((name,a)::r)) else pure (ForInStep.yield r)):Sem _)=pure (zR env l cs):=by
  intro l
  induction l with
  | nil=>intro cs _;rfl
  | cons p r ih =>
   intro cs hl
   obtain ⟨n,k⟩:=p
   rw [List.forIn_cons]
   by_cases hk:(k == NameKind.free)=true
   ·obtain ⟨c,hc⟩:=hl n (by rw [beq_iff_eq] at hk;subst hk;exact .head _)
    simp only [hk,if_true,cellOf,hc,zR]
    exact ih _ fun y hy=>hl y (.tail _ hy)
   ·simp only [hk,Bool.false_eq_true,if_false,zR]
    exact ih _ fun y hy=>hl y (.tail _ hy)
 simp only [key sc.names [] h]
 rfl
theorem Dc:∀ {l:List (Str×NameKind)} {cs:List (Str×Addr)},(∀ y,(y,NameKind.free)∈l->∃ c,env.cells.lookup y=some c)->(∀ y c,cs.lookup y=some c->env.cells.lookup y=some c)->∀ y c,(zR env l cs).lookup y=some c->env.cells.lookup y=some c
 | [],_,_,h=>h
 | (n,k)::r,cs,hl,h=>by
  refine Dc (l:=r) (fun y hy=>hl y (.tail _ hy)) fun y c e => ?_
  by_cases hk:(k == NameKind.free)=true
  ·rw [if_pos hk,List.lookup_cons] at e
   cases q:(y == n) with
   | true =>
    rw [q] at e
    obtain ⟨c',hc⟩:=hl n (by rw [beq_iff_eq] at hk;subst hk;exact .head _)
    rw [beq_iff_eq] at q
    subst q
    rw [hc] at e ⊢
    simpa using e
   | false=>rw [q] at e;exact h y c e
  ·rw [if_neg hk] at e;exact h y c e
theorem yZ:∀ {l:List (Str×NameKind)} {cs:List (Str×Addr)} {y:Str},((y,NameKind.free)∈l\/∃ c,cs.lookup y=some c)->∃ c,(zR env l cs).lookup y=some c
 | [],_,_,h=>h.elim (fun z=>nomatch z) id
 | (n,k)::r,cs,y,h=>by
  refine yZ (l:=r) ?_
  rcases h with h | ⟨c,h⟩
  ·rcases List.mem_cons.mp h with z | z
   ·cases z
    exact .inr ⟨_,by rw [if_pos (show (NameKind.free == NameKind.free)=true from rfl),List.lookup_cons,beq_self_eq_true]⟩
   ·exact .inl z
  ·refine .inr ?_
   by_cases hk:(k == NameKind.free)=true
   ·rw [if_pos hk,List.lookup_cons]
    cases q:(y == n) with
    | true=>exact ⟨_,rfl⟩
    | false=>exact ⟨c,h⟩
   ·rw [if_neg hk];exact ⟨c,h⟩
theorem fw (hk:k ≠ .free):sc.names.lookup x=some k->(relabel sc env).names.lookup x=some k:=by
 unfold relabel
 simp only
 generalize sc.names=l
 induction l with
 | nil=>intro h;cases h
 | cons p r ih =>
  obtain ⟨n,k'⟩:=p
  intro h
  rw [List.lookup_cons] at h
  rw [List.map_cons]
  cases q:(x == n) with
  | true =>
   rw [q] at h
   have e:k'=k:=by simpa using h
   subst e
   have:(k' == NameKind.free)=false:=by simpa using hk
   simp [this,List.lookup_cons,q]
  | false =>
   rw [q] at h
   split<;>(rw [List.lookup_cons,q];exact ih h)
theorem jl (hf:env.scope.kind=.function) (hc:env.kindOf x=some .cell):sc.names.lookup x=some .free->(relabel sc env).names.lookup x=some .cell:=by
 unfold relabel
 simp only
 generalize sc.names=l
 induction l with
 | nil=>intro h;cases h
 | cons p r ih =>
  obtain ⟨n,k'⟩:=p
  intro h
  rw [List.lookup_cons] at h
  rw [List.map_cons]
  cases q:(x == n) with
  | true =>
   rw [q] at h
   have e:k'=.free:=by simpa using h
   subst e
   rw [beq_iff_eq] at q
   subst q
   simp [hf,hc,List.lookup_cons]
  | false =>
   rw [q] at h
   split<;>(rw [List.lookup_cons,q];exact ih h)
theorem mT:(relabel sc env).names.lookup x=some k->sc.names.lookup x=some k\/(sc.names.lookup x=some .free/\k=.cell):=by
 unfold relabel
 simp only
 generalize sc.names=l
 induction l with
 | nil=>intro h;cases h
 | cons p r ih =>
  obtain ⟨n,k'⟩:=p
  intro h
  rw [List.map_cons] at h
  rw [List.lookup_cons]
  cases q:(x == n) with
  | true =>
   split at h
   ·rename_i hc
    rw [List.lookup_cons,q] at h
    have e:NameKind.cell=k:=by simpa using h
    simp only [Bool.and_eq_true,beq_iff_eq] at hc
    exact .inr ⟨by rw [hc.1.1],e.symm⟩
   ·rw [List.lookup_cons,q] at h
    have e:k'=k:=by simpa using h
    exact .inl (by rw [e])
  | false=>split at h<;>(rw [List.lookup_cons,q] at h;exact ih h)
structure ScU (xs ks G:List Str) (sc:Scope):Prop where
 kind:sc.kind=.function
 noc:∀ y∈sc.names,y.2 ≠ .cell
 nms:∀ y∈sc.names,y.2=.local->sc.names.lookup y.1=some .local
 loc:∀ y∈xs,sc.names.lookup y=some .local
 fre:∀ y∈ks,sc.names.lookup y=some .free
 all:∀ y∈sc.names,y.2=.free->y.1∈ks
 glb:∀ y∈G,sc.names.lookup y=some .globalImplicit
 nd:(xs++ks).Nodup
 dbg:∀ y∈xs++ks,(y == ("__debug__":Str))=false/\(y == ("__classdict__":Str))=false
 dbgG:∀ y∈G,(y == ("__debug__":Str))=false/\y≠"__name__"
def cxU (X:Cx) (xs ks:List Str) (sc:Scope) (C:Addr) (fp:List Addr) (s:Shared) (H:Hp) (W:Value->Shared->Prop):Cx :=
 { X with N:=xs++ks,s₀:=s,H₀:=H,env:={ newEnv sc C X.env.globals (zR X.env sc.names []) X.env.qual none .none (some X.env) X.env.builtins with scope:=relabel sc X.env },outer:=X.stack,stack:=X.stack,ex:=fp,fn:=fun _=>false,pn:=[],xe:=W }
theorem Hw (u:Un fs ex H H' h h1) (hC:h.objs.size<=C) (sb:Heap.SameBut C h1 h2):Un fs ex H H' h h2:=by
 have ne:∀ {b:Addr} {o:Obj},h.get? b=some o->b≠C:=fun {b o} e=>Nat.ne_of_lt (Nat.lt_of_lt_of_le (Heap.lt_size e) hC)
 refine ⟨fun b o e n hb hx=>(sb.2 b (ne e)).trans (u.keep b o e n hb hx),fun b o e n hb hx => ?_,u.free,fun b o e hx => ?_,u.tups,u.frzs,u.tbls⟩
 ·obtain ⟨sl,q⟩:=u.slot b o e n hb hx
  exact ⟨sl,(sb.2 b (ne e)).trans q⟩
 ·obtain ⟨o',q⟩:=u.there b o e hx
  exact ⟨o',(sb.2 b (ne e)).trans q⟩
theorem Gf (hok:HOk P w H h1) (hC:H C=none) (sb:Heap.SameBut C h1 h2):HOk P w H h2:=fun b u e =>
 (hok b u e).stay (fun c o hc q=>(sb.2 c (fun z=>by
  subst z
  rcases hc with rfl | hc
  ·rw [hC] at e;cases e
  ·rw [hC] at hc;cases hc)).trans q) (fun _ q=>q) fun _ _ q=>q
def NB (prog:Program) (w:World) (A:Around) (env:Env) (R:Result->Shared->Prop):Value->Shared->Prop:=notedBy ↥17 A env fun x s'=>R (.error x) s'
theorem yn {prog:Program} {w:World} {A:Around} {R:Result->Shared->Prop} {s:Shared} {elt target iter:Expr} {ifs:List Expr} {scope:Scope} {pos:Pos} {it acc:Value} {env:Env} (J:Nat->Shared->Prop)
  (turn:∀ n s,J n s->wpAny ↥17 A (pyNext it) (fun r s1=>match r with
   | none=>R (.ok .next) s1
   | some v=>wpAny ↥17 A (letOwnedTupleGo target it v) (fun _ s2=>wpAny ↥17 A (assign target env v) (fun _ s3 =>
     wpAny ↥17 A (forIn ifs true fun c r=>if r=true then do let ok<-isTrue c env (eval c env);pure (ForInStep.yield ok) else pure (ForInStep.yield r)) (fun ok s4 =>
      if ok=true then wpAny ↥17 A (eval elt env) (fun x s5=>wpAny ↥17 A (PySem.call (.builtin "list.append") [acc,x]) (fun _ s6=>∃ m,m<n/\J m s6) (NB prog w A env R) s5) (NB prog w A env R) s4
      else ∃ m,m<n/\J m s4) (NB prog w A env R) s3) (NB prog w A env R) s2) (NB prog w A env R) s1) (NB prog w A env R) s)
  (n:Nat) (h:J n s):codeAny ↥17 A (.compLoop (.ListComp elt [⟨target,iter,ifs,0⟩] scope pos) 0 it acc env) R s:=by
 refine codeAny_loop rfl J (fun n s hJ => ?_) n h
 show wpAny _ _ ((compTurn (.ListComp elt [⟨target,iter,ifs,0⟩] scope pos) 0 it acc env).onRaise fun x=>do
  noteFrame x env
  theTreesLotGoes x) _ _ s
 refine wpAny_noted ?_
 rw [compTurn_list]
 refine wpAny_bind (wpAny_standAt (wpAny_bind (wpAny_mono (turn n s hJ) (fun r s1 h1 => ?_) fun _ _ z=>z)))
 cases r with
 | none=>exact wpAny_pure h1
 | some v =>
  refine wpAny_bind (wpAny_mono h1 (fun _ s2 h2 => ?_) fun _ _ z=>z)
  refine wpAny_bind (wpAny_mono h2 (fun _ s3 h3 => ?_) fun _ _ z=>z)
  refine wpAny_bind (wpAny_mono h3 (fun ok s4 h4 => ?_) fun _ _ z=>z)
  cases ok with
  | true =>
   rw [if_pos rfl] at h4
   simp only [if_true]
   refine wpAny_bind (wpAny_bind (wpAny_mono h4 (fun x s5 h5 => ?_) fun _ _ z=>z))
   exact wpAny_bind (wpAny_mono h5 (fun _ s6 h6=>wpAny_pure (wpAny_pure ⟨rfl,h6⟩)) fun _ _ z=>z)
  | false =>
   rw [if_neg Bool.false_ne_true] at h4
   simp only [Bool.false_eq_true,if_false]
   first
    | exact wpAny_pure ⟨rfl,h4⟩
    | exact wpAny_bind (wpAny_pure (wpAny_pure ⟨rfl,h4⟩))
def dt (M:Model) (A:Around) (E:Value->Shared->Prop) (use:Option (Value->Sem Unit)) (Q:Value->Shared->Prop) (acc:Value) (C:Addr) (fr:Option Addr) (r:Result) (s':Shared):Prop :=
 match r,use with
 | .ok _,none=>∃ m,s'.heap.Ns C m/\∀ h',Heap.SameBut C s'.heap h'->Q acc { s' with heap:=h' }
 | .ok _,some u=>wpAny M A (u acc) (fun _ s''=>∃ m,s''.heap.Ns C m/\∀ h',Heap.SameBut C s''.heap h'->Q .none { s'' with heap:=h' }) E s'
 | .error x,_=>∃ m,s'.heap.Ns C m/\∀ h',Heap.SameBut C s'.heap h'->∀ cenv:Env,cenv.frame=fr->wpAny M A (passOn "comprehension.variables-let-go" x cenv:Sem Value) (fun _ _=>False) E { s' with heap:=h' }
theorem lN {M:Model} {A:Around} {E:Value->Shared->Prop} {s:Shared} {env:Env} {e:Expr} {scope:Scope} {pos:Pos} {newAcc first:Sem Value} {g:Comprehension} {gs:List Comprehension} {cl:List (Str×Addr)} {use:Option (Value->Sem Unit)}
  {Q:Value->Shared->Prop}
  (hcl:clausesOf e=g::gs) (hs:∀ x,foldedSetIterable g.iter env x=pure x) (hclos:closureFor scope env=pure cl)
  (hkind:scope.kind=.function) (hnames:∀ x∈scope.names,x.2=.local->scope.names.lookup x.1=some .local)
  (h:wpAny M A first (fun x s₁=>wpAny M A (pyIter x) (fun it s₂=>wpAny M A newAcc (fun acc s₃ =>
   wpAny M A (newFunctionEnv scope env.globals cl [] env.qual none .none (some env)) (fun cenv s₄=>cenv.frame=env.frame /\
    codeAny M A (.compStart e 0 it acc { cenv with scope:=relabel scope env }) (dt M A E use Q acc cenv.locals env.frame) s₄) E s₃) E s₂) E s₁) E s) :
  wpAny M A (comprehension e scope env pos newAcc false first use) Q E s:=by
 unfold comprehension
 rw [hclos,hcl]
 refine wpAny_bind (wpAny_mono h (fun x s₁ h₁=>wpAny_bind (wpAny_standAt (wpAny_bind (wpAny_of_eq (hs x) (wpAny_bind (wpAny_holding (wpAny_mono h₁ (fun it s₂ h₂ =>
  wpAny_standIf (wpAny_bind (wpAny_mono h₂ (fun acc s₃ h₃=>wpAny_bind (wpAny_pure (wpAny_bind (wpAny_mono h₃ (fun cenv s₄ h₄ => ?_) fun _ _ h'=>h')))) fun _ _ h'=>h')))
   fun _ _ h'=>h'))))))) fun _ _ h'=>h')
 obtain ⟨hfr,h₄⟩:=h₄
 dsimp only
 have hv:∀ x∈(scope.names.filter fun x=>(x.2 == .local||x.2 == .cell)&&x.1 != (".0":Str)).reverse,x.2=.local ->
   Env.kindOf { cenv with scope:=relabel scope env } x.1=some .local:=fun x hx hl=>lookup_relabel_local (hnames x (List.mem_filter.mp (List.mem_reverse.mp hx)).1 hl)
 have hv':∀ x∈(scope.names.filter fun x=>(x.2 == .local||x.2 == .cell)&&x.1 != (".0":Str)).reverse.drop 1++(scope.names.filter fun x=>(x.2 == .local||x.2 == .cell)&&x.1 != (".0":Str)).reverse.take 1,
   x.2=.local->Env.kindOf { cenv with scope:=relabel scope env } x.1=some .local:=fun x hx hl=>by
  rcases List.mem_append.mp hx with h1 | h1
  ·exact hv x (List.mem_of_mem_drop h1) hl
  ·exact hv x (List.mem_of_mem_take h1) hl
 refine wpAny_holding (wpAny_bind (wpAny_attempt (wpAny_holding (wpAny_run (codeAny_mono h₄ fun r s' hr => ?_)))))
 cases r with
 | ok f =>
  cases use with
  | none =>
   obtain ⟨m,hn,hr⟩:=hr
   exact wpAny_bind (wpAny_holding (wpAny_comp_letGo (cenv:={ cenv with scope:=relabel scope env }) hkind _ s' m hv hn fun h' m' _ hs'=>wpAny_pure (hr h' hs')))
  | some u =>
   refine wpAny_bind (wpAny_rule (wpAny_bind (wpAny_holding (wpAny_mono hr (fun _ s'' hr' => ?_) fun _ _ h'=>h'))))
   obtain ⟨m,hn,hr'⟩:=hr'
   exact wpAny_bind (wpAny_comp_letGo (cenv:={ cenv with scope:=relabel scope env }) hkind _ s'' m hv' hn fun h' m' _ hs'=>wpAny_pure (hr' h' hs'))
 | error x =>
  have hr':∃ m,s'.heap.Ns cenv.locals m/\∀ h',Heap.SameBut cenv.locals s'.heap h'->∀ cenv':Env,cenv'.frame=env.frame->wpAny M A (passOn "comprehension.variables-let-go" x cenv':Sem Value) (fun _ _=>False) E { s' with heap:=h' }:=by cases use<;>exact hr
  obtain ⟨m,hn,hr⟩:=hr'
  exact wpAny_bind (wpAny_holding (wpAny_comp_letGo (cenv:={ cenv with scope:=relabel scope env }) hkind _ s' m hv hn fun h' m' _ hs'=>wpAny_mono (hr h' hs' _ hfr) (fun _ _ f=>f.elim) fun _ _ y=>y))
theorem xh {st:D->R (Option D)} {l:List D} {d:D} {r1:List D} {o:Option D} (h1:runC st l=.ok r1) (h2:st d=.ok o):runC st (l++[d])=.ok (r1++o.toList):=by
 induction l generalizing r1 with
 | nil =>
  cases h1
  rw [List.nil_append]
  unfold runC
  rw [h2]
  cases o<;>rfl
 | cons x l ih =>
  rw [List.cons_append]
  unfold runC at h1 ⊢
  cases q:st x with
  | ok o' =>
   rw [q] at h1
   simp only [R.bind] at h1 ⊢
   cases q2:runC st l with
   | ok r =>
    rw [q2] at h1
    rw [ih q2]
    cases o'<;>(cases h1;rfl)
   | ex C=>rw [q2] at h1;cases h1
   | bad=>rw [q2] at h1;cases h1
  | ex C=>rw [q] at h1;cases h1
  | bad=>rw [q] at h1;cases h1
theorem j8 (h:oP r=.ex C):False:=by cases r<;>cases h
theorem yb (h:oP r=.ok a):r=.ok a:=by
 cases r with
 | ok x=>exact h
 | ex C=>cases h
 | bad=>cases h
theorem rJ {st:D->R (Option D)} {d:D} {l2:List D}:∀ {l1 r1:List D},runC st l1=.ok r1->(st d=.bad->runC st (l1++d::l2)=.bad)/\∀ C,st d=.ex C->runC st (l1++d::l2)=.ex C
 | [],_,_=>⟨fun e=>by rw [List.nil_append];unfold runC;rw [e];rfl,fun C e=>by rw [List.nil_append];unfold runC;rw [e];rfl⟩
 | a::l1,r1,h=>by
  unfold runC at h
  cases q:st a with
  | ok o =>
   rw [q] at h
   simp only [R.bind] at h
   cases q2:runC st l1 with
   | ok r =>
    obtain ⟨i1,i2⟩:=rJ (d:=d) (l2:=l2) q2
    refine ⟨fun e => ?_,fun C e => ?_⟩
    ·rw [List.cons_append];unfold runC;rw [q,i1 e];rfl
    ·rw [List.cons_append];unfold runC;rw [q,i2 C e];rfl
   | ex C=>rw [q2] at h;cases h
   | bad=>rw [q2] at h;cases h
  | ex C=>rw [q] at h;cases h
  | bad=>rw [q] at h;cases h
theorem m6:∀ {a:List D} {r:D},D.flats a=true->D.flat r=true->D.flats (a++[r])=true
 | [],r,_,h=>by show (D.flat r&&D.flats [])=true;rw [h];rfl
 | x::a,r,h,hr=>by
  have h':D.flat x=true/\D.flats a=true:=by simpa [D.flats] using h
  show (D.flat x&&D.flats (a++[r]))=true
  rw [h'.1,m6 h'.2 hr]
  rfl
def stG (pt:D->Option (List D)) (c elt:E) (ks:List Nat) (δ:Dt) (d:D):R (Option D):=match pt d with
 | some xs=>(oP (c (xs.map some++ks.map fun k=>δ.getD k none))).bind fun b=>truth b ((elt (xs.map some++ks.map fun k=>δ.getD k none)).bind fun r=>if D.flat r=true then .ok (some r) else .bad) (.ok none)
 | none=>.bad
theorem Eu (h:EV.R.bad≠stG pt c elt ks δ d):∃ xs k,pt d=some xs/\c (xs.map some++ks.map fun k=>δ.getD k none)=.ok (.bl k) /\
  ((k=true/\stG pt c elt ks δ d=(elt (xs.map some++ks.map fun k=>δ.getD k none)).bind fun r=>if D.flat r=true then .ok (some r) else .bad)\/(k=false/\stG pt c elt ks δ d=.ok none)):=by
 unfold stG at h ⊢
 cases e:pt d with
 | none=>rw [e] at h;exact absurd rfl h
 | some xs =>
  rw [e] at h
  simp only at h ⊢
  cases q:oP (c (xs.map some++ks.map fun k=>δ.getD k none)) with
  | ok b =>
   have q':=yb q
   rw [q] at h
   simp only [R.bind] at h ⊢
   cases b with
   | bl k =>
    refine ⟨xs,k,rfl,q',?_⟩
    cases k with
    | true=>exact .inl ⟨rfl,rfl⟩
    | false=>exact .inr ⟨rfl,rfl⟩
   | _=>exact absurd rfl h
  | ex C=>exact (j8 q).elim
  | bad=>rw [q] at h;exact absurd rfl h
def Put (σ:L2.St) (vs:List V) (σ':L2.St):Prop:=σ'.length=σ.length/\(∀ (j:Nat) (v:V),vs[j]? = some v->σ'[j]? = some (some v))/\∀ j:Nat,vs.length<=j->σ'[j]? = σ[j]?
structure Tgt (X:Cx) (n:Nat) (pt:D->Option (List D)) (gT:TG):Prop where
 len:∀ d xs,pt d=some xs->xs.length=n
 put:∀ {d:D} {xs:List D} {v:V} {σ:L2.St} {H:Hp} {Q:L2.St->Hp->Prop},pt d=some xs->Rep X.K X.mg H v d->n<=σ.length->(∀ vs σ',Reps X.K X.mg H vs xs->Put σ vs σ'->Q σ' H)->gT v σ H Q
inductive Tst (X':Cx):List Expr->E->Prop
 | nil:Tst X' [] (con ↥32)
 | one {c:Expr} {g:E}:ST X' c g->Tst X' [c] g
theorem DX {X':Cx} {ifs:List Expr} {g:E} (h:Tst X' ifs g) {pins:List ↥10} {s:Shared} {σ:L2.St} {H:Hp} {δ:Dt} {k:Bool} (I:Inv X' pins σ H s) (hσ:Stt X'.K X'.mg H σ δ) (hg:g δ=.ok (.bl k)) {E:Value->Shared->Prop} (hE:∀ e s,X'.xe e s->E e s) :
  wpAny (model X'.prog X'.w) X'.A (forIn ifs true fun c r=>if r=true then do let ok<-isTrue c X'.env (eval c X'.env);pure (ForInStep.yield ok) else pure (ForInStep.yield r)) (fun ok s'=>ok=k/\∃ H',Inv X' pins σ H' s'/\ao H H') E s:=by
 cases h with
 | nil=>cases hg;exact wpAny_tests_nil ⟨rfl,H,I,ao.refl _⟩
 | one h =>
  refine wpAny_mono (wpAny_tests_one (E:=X'.xe) (thn (h pins s σ H (fun b H'=>b=k/\ao H H') I ⟨δ,hσ,?_⟩) fun b s' ⟨H',I',e,sm⟩=>⟨e,H',I',sm⟩)) (fun _ _ x=>x) hE
  rw [hg]
  exact fun H' sm=>⟨rfl,sm⟩
theorem JV {base h h':Heap}:∀ {l:List Env},h.FunFrames base l->(∀ b∈frs l,h'.get? b=h.get? b)->h'.FunFrames base l
 | [],_,_=>trivial
 | env::r,⟨hk,⟨L,o,hf,hn,ho,hd⟩,hr⟩,k=>by
  have e:frs (env::r)=L::frs r:=by unfold frs;rw [List.filterMap_cons,hf]
  rw [e] at k
  exact ⟨hk,⟨L,o,hf,hn,(k L (.head _)).trans ho,hd⟩,JV hr fun b hb=>k b (.tail _ hb)⟩
theorem B4 {X:Cx} (O:Own X) {xs ksn:List Str} {sc:Scope} {fp:List Addr} {WW:Value->Shared->Prop} {pins pins':List ↥10} {σ σ6:L2.St} {H3 Hx H':Hp} {s3 sx s':Shared} {ea Ca:Addr} {use:Option (Value->Sem Unit)} {Qf:Value->Shared->Prop} {acc:Value} {cenv:Env}
  (I3:Inv X pins σ H3 s3) (f3:∀ b∈fp,wa X pins H3 b) (hcf:cenv.frame=X.env.frame) (Ix:Inv ↥15 pins' σ6 Hx sx) (FX:FlyX X.prog X.w X.stack Hx sx Ca H' ea s')
  (kx:∀ b u,H3 b=some u->∃ u',H' b=some u') (hx:∀ ea s',HeldX X pins σ Ca H' ea s'->X.xe (.ref ea) s') :
  NB X.prog X.w X.A cenv (dt ↥4 X.A X.xe use Qf acc s3.heap.objs.size X.env.frame) (.ref ea) s':=by
 have en:noteFrame (.ref ea) cenv=noteFrame (.ref ea) X.env:=by unfold noteFrame PySem.frameOf;rw [hcf]
 unfold NB notedBy
 rw [en]
 obtain ⟨a0,B,hfl,i1,i2⟩:=FX.fly
 have Iy:Inv ↥15 pins' σ6 H' s':=yK Ix FX
 have ff:=sE hfl.2.2.1
 rw [O.stk] at hfl
 refine wpAny_looks_onW (by rw [I3.ok.frames,O.stk]) O.frm hfl fun h4 held up => ?_
 have IX:Inv X pins σ Hx sx:=I3.call' (s':=sx) (ch:=fp) Ix.os Ix.base Ix.hok Ix.bare fun b hb=>⟨(f3 b hb).2.2.2.1,(f3 b hb).2.1,(f3 b hb).2.2.2.2.1,(f3 b hb).2.2.2.2.2⟩
 obtain ⟨m,⟨oC,es,ep,hoC,rC⟩,_⟩:=Ix.loc
 have hoC:sx.heap.get? s3.heap.objs.size=some oC:=hoC
 have nfr:s3.heap.objs.size∉frs X.stack:=fun z=>by
  rw [O.frs] at z
  rcases List.mem_cons.mp z with q | q
  ·exact absurd I3.lt (by rw [<- q];exact Nat.lt_irrefl _)
  ·exact I3.nofs ↥23 q
 have hBC:B.get? s3.heap.objs.size=some oC:=i1 _ _ hoC Ix.free nfr
 have h4C:h4.get? s3.heap.objs.size=some oC:=held.1 _ _ hBC
 refine ⟨m,⟨oC,es,ep,h4C,rC⟩,fun h5 sb5 cenv' hcf' => ?_⟩
 have kB:(PySem.W.hideAll B [s3.heap.objs.size]).StaysIn B:=fun b o e=>PySem.W.of_hideAll _ e
 have held':=PySem.W.heldW_base kB held
 have st4:∀ b o,(PySem.W.hideAll B [s3.heap.objs.size]).get? b=some o->b≠s3.heap.objs.size:=fun b o e z=>by
  rw [z,PySem.W.hideAll_none _ (by simp)] at e
  cases e
 obtain ⟨_,hne,hff,oe,vs,T,oT,ts,he,hcls,hd,h1,hnT,hTe,hT,hdT,h3⟩:=held
 have neC:∀ b,B.get? b=none->b≠s3.heap.objs.size:=fun b e z=>by rw [z,hBC] at e;cases e
 have he5:h5.get? ea=some oe:=(sb5.2 _ (neC _ hne)).trans he
 have hT5:h5.get? T=some oT:=(sb5.2 _ (neC _ hnT)).trans hT
 have hsz3:3<ts.size:=(Array.getElem?_eq_some_iff.mp h3).1
 unfold PySem.passOn
 refine wpAny_bind (wpAny_field he5 hd h1 ?_)
 rw [if_neg (by simp)]
 show wpAny _ _ (setFlight (.ref ea) cenv'.frame >>= _) _ _ _
 refine wpAny_bind ?_
 unfold setFlight
 refine wpAny_bind (wpAny_field he5 hd h1 ?_)
 rw [if_pos (show (Value.ref T != Value.none)=true from by simp),hcf',O.frm]
 refine wpAny_setField hT5 hdT hsz3 ?_
 refine wpAny_throw (hx ea _ ?_)
 have other:∀ b,b≠T->(h5.update T (Obj.mapFields (·.setIfInBounds 3 ((some X.env.locals).elim Value.none fun f=>rawInt f)))).get? b=h5.get? b:=fun b hb=>Heap.get?_update_other _ _ (Ne.symm hb)
 have hT6:=Heap.get?_update_self (Obj.mapFields (·.setIfInBounds 3 ((some X.env.locals).elim Value.none fun f=>rawInt f))) hT5 (Obj.isFreed_of_fields (Obj.data_mapFields hdT _))
 generalize h5.update T (Obj.mapFields (·.setIfInBounds 3 ((some X.env.locals).elim Value.none fun f=>rawInt f)))=h6 at other hT6 ⊢
 have k46:∀ b,b≠T->b≠s3.heap.objs.size->h6.get? b=h4.get? b:=fun b q1 q2=>(other b q1).trans (sb5.2 b q2)
 have st6:(PySem.W.hideAll B [s3.heap.objs.size]).StaysIn h6:=fun b o e=>by
  rw [k46 b (fun z=>by rw [z] at e;have:=kB _ _ e;rw [hnT] at this;cases this) (st4 b o e)]
  exact held'.1 b o e
 have i2':∀ b u o,H' b=some u->s'.heap.get? b=some o->(PySem.W.hideAll B [s3.heap.objs.size]).get? b=some o:=fun b u o e q=>PySem.W.hideAll_get _ (i2 b u o e q) fun z=>by
  have z':b=s3.heap.objs.size:=by simpa using z
  rw [z'] at e
  have:H' s3.heap.objs.size=none:=Iy.free
  rw [this] at e
  cases e
 have i1':∀ b o,s3.heap.get? b=some o->H3 b=none->b∉frs X.stack->b∉fp->(PySem.W.hideAll B [s3.heap.objs.size]).get? b=some o:=fun b o e n hb hp=>PySem.W.hideAll_get _ (i1 b o (Ix.base.keep b o e n hb hp) (Ix.base.free b o e n hp) hb) fun z=>by
  have z':b=s3.heap.objs.size:=by simpa using z
  exact absurd (Heap.lt_size e) (by rw [z'];exact Nat.lt_irrefl _)
 have u6:Un (frs X.stack) fp H3 H' s3.heap h6:=by
  have u:=Iy.base
  have slot:∀ b o,s3.heap.get? b=some o->H3 b=none->b∈frs X.stack->b∉fp->∃ sl,h6.get? b=some { o with slots:=sl }:=fun b o e n hb hp=>by
   obtain ⟨sl,e1⟩:=u.slot b o e n hb hp
   obtain ⟨sl2,e2⟩:=up b _ e1 (ff b hb _ e1)
   refine ⟨sl2,?_⟩
   rw [k46 b (fun z => ?_) (fun z=>nfr (z▸hb))]
   ·exact e2
   ·have:=sE hff b (by rw [<- O.stk];exact hb) oT (by rw [z];exact hT) ts
    exact this hdT
  refine ⟨fun b o e n hb hp=>st6 b o (i1' b o e n hb hp),slot,u.free,fun b o e hp => ?_,u.tups,u.frzs,u.tbls⟩
  cases n:H3 b with
  | none =>
   by_cases hb:b∈frs X.stack
   ·obtain ⟨sl,e2⟩:=slot b o e n hb hp
    exact ⟨_,e2⟩
   ·exact ⟨o,st6 b o (i1' b o e n hb hp)⟩
  | some x =>
   obtain ⟨o',e1⟩:=u.there b o e hp
   obtain ⟨x',n'⟩:=kx b x n
   exact ⟨o',st6 b o' (i2' b x' o' n' e1)⟩
 refine ⟨I3.call' (s':={ s' with heap:=h6 }) (ch:=fp) Iy.os u6 (jf Iy.hok i2' st6) Iy.bare fun b hb=>⟨(f3 b hb).2.2.2.1,(f3 b hb).2.1,(f3 b hb).2.2.2.2.1,(f3 b hb).2.2.2.2.2⟩,?_,a0,PySem.W.hideAll B [s3.heap.objs.size],?_,fun b o e n hb => ?_,ui Iy.hok i2' st6⟩
 ·exact yc IX O FX.new
 ·rw [O.stk]
  have nT:∀ b∈frs (X.env::X.outer),h6.get? b=h4.get? b:=fun b hb=>k46 b (fun z=>sE hff b hb oT (by rw [z];exact hT) ts hdT) (fun z=>nfr (by rw [O.stk];exact z▸hb))
  exact ⟨st6,held'.2.1,JV held'.2.2.1 nT,oe,vs,T,_,_,(k46 ea (Ne.symm hTe) (neC _ hne)).trans he,hcls,hd,h1,PySem.W.fresh_of_stays kB hnT,hTe,hT6,Obj.data_mapFields hdT _,by simp [hsz3]⟩
 ·exact PySem.W.hideAll_get _ (iF IX O i1 b o e n hb) fun z=>by
   have z':b=s3.heap.objs.size:=by simpa using z
   exact absurd (Nat.lt_of_lt_of_le (Heap.lt_size e) I3.sz) (by rw [z'];exact Nat.lt_irrefl _)
section
variable {X:Cx}
set_option maxHeartbeats 2000000 in
theorem qu (hc:X.calm=true) {N:List Str} (S:Sc X N) {xs ksn G:List Str} {ks:List Nat} {tg elt iter:Expr} {ifs:List Expr} {pos ps:Pos} {sc:Scope} {git:IT} {gc ge:E} {pt:EV.D->Option (List EV.D)} {gT:TG} (SC:ScU xs ksn G sc)
  (hks:ks.map (fun k=>N.getD k "")=ksn) (hlt:∀ k∈ks,k<N.length) (hcell:∀ y∈ksn,X.env.scope.names.lookup y=some .cell)
  (he:SI X tg iter git) (TT:Tgt X xs.length pt gT)
  (htg:∀ C fp s H W,Sc ↥7 (xs++ksn)->↥34->PG ↥7 tg gT)
  (htst:∀ C fp s H W,Sc ↥7 (xs++ksn)->(∀ y∈G,Gb ↥7 y)->Tst ↥7 ifs gc)
  (helt:∀ C fp s H W,Sc ↥7 (xs++ksn)->(∀ y∈G,Gb ↥7 y)->SE ↥7 elt ge)
  (hs:∀ z,foldedSetIterable iter X.env z=pure z) {use:Option (Value->Sem Unit)} {Qf:Value->Shared->Prop}
  {pins:List ↥10} {s:Shared} {σ:L2.St} {H:Hp} {δ:Dt} (I:Inv X pins σ H s) (hσ:Stt X.K X.mg H σ δ)
  (hgit:∀ C,git δ=.ex C->∀ Ca,X.mg C=some (.ref Ca)->∀ H',ao H H'->ew X Ca σ H')
  {ds:List EV.D} (hds:git δ ≠ .bad) (hds':∀ ds',git δ=.ok ds'->ds'=ds/\ds.length<=100000/\runC (stG pt gc ge ks δ) ds ≠ .bad/\∀ rs,runC (stG pt gc ge ks δ) ds=.ok rs->EV.D.flats rs=true)
  (hex:∀ C Ca,runC (stG pt gc ge ks δ) ds=.ex C->X.mg C=some (.ref Ca)->∀ H',ao H H'->∀ ea s',HeldX X pins σ Ca H' ea s'->X.xe (.ref ea) s') (hO:(∃ C,runC (stG pt gc ge ks δ) ds=.ex C)->Own X)
  (hfin:∀ (s1:Shared) (Hc:Hp) (D C:Addr) (ys:List V) (rs:List EV.D),git δ=.ok ds->runC (stG pt gc ge ks δ) ds=.ok rs->EV.D.flats rs=true->H D=none->Hc D=some (.lst ys)->Reps X.K X.mg Hc ys rs->ao H Hc ->
   wa X pins Hc C->Inv X pins σ Hc s1->(∃ m,s1.heap.Ns C m)->(∀ h',Heap.SameBut C s1.heap h'->Inv X pins σ Hc { s1 with heap:=h' })->dt ↥4 X.A X.xe use Qf (.ref D) C X.env.frame (.ok .next) s1) :
  wpAny ↥4 X.A (comprehension ↥30 sc X.env ps (newList []) false (eval iter X.env) use) Qf X.xe s:=by
 have lenks:ksn.length=ks.length:=by rw [<- hks,List.length_map]
 have atk:∀ (j:Nat) (y:Str),ksn[j]? = some y->∃ k,ks[j]? = some k/\N[k]? = some y:=fun j y e=>by
  rw [<- hks,List.getElem?_map] at e
  cases q:ks[j]? with
  | none=>rw [q] at e;cases e
  | some k =>
   rw [q] at e
   have e':N.getD k ""=y:=Option.some.inj e
   have hk:=hlt k (List.mem_of_getElem? q)
   exact ⟨k,rfl,by rw [<- e',List.getD_eq_getElem?_getD,List.getElem?_eq_getElem hk];rfl⟩
 have frec:∀ y,(y,NameKind.free)∈sc.names->∃ c,X.env.cells.lookup y=some c:=fun y hy=>I.ok.has y (.inl (hcell y (SC.all _ hy rfl)))
 refine lN (use:=use) rfl hs (vP frec) SC.kind SC.nms ?_
 have sub:∀ y c,(zR X.env sc.names []).lookup y=some c->X.env.cells.lookup y=some c:=Dc frec fun y c e=>nomatch e
 have hq:RI X σ H (git δ) (fun J H'=>ao H H'/\∃ ds,git δ=.ok ds/\zB X J H' ds):=by
  cases r:git δ with
  | ok ds=>exact fun J H' s w=>⟨s,ds,rfl,w⟩
  | ex C=>exact hgit C r
  | bad=>exact absurd r hds
 refine thn (he pins s σ H _ I ⟨δ,hσ,hq⟩) fun v s1 h1=>thn h1 fun itv s2 h2 => ?_
 obtain ⟨it,fp,tn,J,H2,e,I2,T,st2,f2,sm2,ds',eds,wk⟩:=h2
 subst e
 obtain ⟨eq0,hz,nbad,hfl⟩:=hds' ds' eds
 rw [eq0] at eds wk
 have hσ2:Stt X.K X.mg H2 σ δ:=hσ.mono sm2
 refine wpAny_newList ?_ (Nat.zero_le _)
 have I3:Inv X pins σ (upd H2 s2.heap.objs.size (.lst [])) { s2 with heap:=s2.heap.push { cls:=.type "list",data:=.seq ([]:List Value).toArray } }:=I2.lnew (t':=s2.toks) .nil (Nat.zero_le _)
 have hnew:H2 s2.heap.objs.size=none:=I2.fresh
 have sm3:ao H2 (upd H2 s2.heap.objs.size (.lst [])):=ar hnew _
 generalize hD:s2.heap.objs.size=D at *
 generalize hH3:upd H2 D (.lst [])=H3 at *
 have hD3:H3 D=some (.lst []):=by rw [<- hH3];exact au
 have keep3:∀ b o,s2.heap.get? b=some o->(s2.heap.push { cls:=.type "list",data:=.seq ([]:List Value).toArray }).get? b=some o:=fun b o q=>Heap.get?_push_of_some _ q
 have st3:tn 0 (s2.heap.push { cls:=.type "list",data:=.seq ([]:List Value).toArray }):=T.keep 0 _ _ st2 fun b _ o q=>keep3 b o q
 have ne3:∀ b∈fp,b≠D:=fun b hb z=>by
  obtain ⟨o,e,_⟩:=T.obj 0 _ st2 b hb
  exact absurd (Heap.lt_size e) (by rw [z,<-hD];exact Nat.lt_irrefl _)
 have f3:∀ b∈fp,wa X pins H3 b:=fun b hb=>⟨by rw [<- hH3,aB (ne3 b hb)];exact (f2 b hb).1,(f2 b hb).2⟩
 generalize hs3:({ s2 with heap:=s2.heap.push { cls:=.type "list",data:=.seq ([]:List Value).toArray } }:Shared)=s3 at *
 have st3':tn 0 s3.heap:=by rw [<- hs3];exact st3
 refine wpAny_newFunctionEnv SC.noc (fun y z=>nomatch z) (fun h4 ns4 sb4=>⟨rfl,?_⟩) SC.kind
 generalize hWW:NB X.prog X.w X.A (cxU X xs ksn sc s3.heap.objs.size fp s3 H3 (fun _ _=>False)).env (dt ↥4 X.A X.xe use Qf (.ref D) s3.heap.objs.size X.env.frame)=WW
 have kp4:∀ b o,s3.heap.get? b=some o->h4.get? b=some o:=fun b o q=>by
  rw [sb4.2 b (Nat.ne_of_lt (Heap.lt_size q))]
  exact Heap.get?_push_of_some _ q
 have nst:∀ b∈fp,b∉frs X.stack:=fun b hb z=>by
  rcases List.mem_cons.mp (I3.stkSub b z) with q | q
  ·exact (f3 b hb).2.1 q
  ·exact (f3 b hb).2.2.1 q
 have neC:∀ b∈fp,b≠s3.heap.objs.size:=fun b hb=>by
  obtain ⟨ob,e,_⟩:=T.obj 0 _ st3' b hb
  exact Nat.ne_of_lt (Heap.lt_size e)
 have fpcl:∀ b∈fp,∀ y c,(zR X.env sc.names []).lookup y=some c->c≠b:=fun b hb y c e=>(f3 b hb).2.2.2.2.1 y c (sub y c e)
 have ok4:(cxU X xs ksn sc s3.heap.objs.size fp s3 H3 WW).Ok:=by
  have o:=I3.ok
  refine ⟨o.mod,SC.kind,o.glob,o.blt,Nat.le_refl _,fun y z c e1 e2=>o.inj y z c (sub y c e1) (sub z c e2),fun y hy => ?_,fun y c z e=>absurd z Bool.false_ne_true,o.hd,o.frames,.inl rfl,fun b hb=>⟨neC b hb,fpcl b hb⟩,I3.bs,Nat.le_trans o.bsz I3.sz,fun b ob e hb => ?_,fun b hb=>nst b hb,I3.stack,I3.stkFree⟩
  ·have hy:(relabel sc X.env).names.lookup y=some .cell\/(relabel sc X.env).names.lookup y=some .free:=hy
   have hf:sc.names.lookup y=some .free:=by
    rcases hy with hy | hy
    ·rcases mT hy with q | ⟨q,_⟩
     ·exact absurd rfl (SC.noc _ (PySem.mem_of_lookup q))
     ·exact q
    ·rcases mT hy with q | ⟨_,q⟩
     ·exact q
     ·cases q
   exact yZ (.inl (PySem.mem_of_lookup hf))
  ·rcases (f3 b hb).2.2.2.1 with q | q
   ·exact o.noex b ob e q
   ·exact absurd (Heap.lt_size (o.bs b ob e).1) (Nat.not_lt.mpr q)
 have fun4:X.env.scope.kind=.function:=I3.ok.kind
 have S4:Sc ↥15 (xs++ksn):=by
  refine ⟨rfl,SC.nd,fun y hy => ?_,SC.dbg⟩
  rcases List.mem_append.mp hy with z | z
  ·exact .inl (fw ↥2 (SC.loc y z))
  ·exact .inr (.inl (jl fun4 (hcell y z) (SC.fre y z)))
 have G4:∀ y∈G,Gb ↥15 y:=fun y hy=>⟨fw ↥2 (SC.glb y hy),(SC.dbgG y hy).1,(SC.dbgG y hy).2⟩
 have E4:=helt s3.heap.objs.size fp s3 H3 WW S4 G4
 have T4:=htst s3.heap.objs.size fp s3 H3 WW S4 G4
 have P4:=htg s3.heap.objs.size fp s3 H3 WW S4 fun y hy=>fw ↥2 (SC.loc y hy)
 have hCn:H3 s3.heap.objs.size=none:=I3.fresh
 have hσ3:Stt X.K X.mg H3 σ δ:=hσ2.mono sm3
 have lenσ3:σ.length=N.length:=by rw [I3.len,S.n]
 have I4:Inv ↥15 [] (List.replicate xs.length none++ks.map fun k=>σ.getD k none) H3 { s3 with heap:=h4,toks:=s3.toks+([]:List (Str×Value)).length }:=by
  refine ⟨ok4,rfl,I3.bare,Un.kept kp4,⟨_,ns4,fun j y v e1 e2 e3 => ?_⟩,fun y c e => ?_,hCn,fun y c e=>I3.freeC y c (sub y c e),fun p hp=>absurd (show p∈([]:List ↥10) from hp) (by simp),I3.hok.kept kp4,by show _=(xs++ksn).length;rw [List.length_append,List.length_append,List.length_replicate,List.length_map,lenks]⟩
  ·by_cases hj:j<xs.length
   ·rw [List.getElem?_append_left (by rw [List.length_replicate];exact hj),List.getElem?_replicate,if_pos hj] at e2
    cases e2
   ·have e1:(xs++ksn)[j]? = some y:=e1
    rw [List.getElem?_append_right ⋯] at e1
    rw [List.getElem?_append_right (by rw [List.length_replicate];omega),List.length_replicate] at e2
    generalize j - xs.length=j at e1 e2
    have e1':ksn[j]? = some y:=e1
    obtain ⟨k,ek,eN⟩:=atk j y e1'
    rw [List.getElem?_map,ek] at e2
    have e2':σ.getD k none=some v:=Option.some.inj e2
    have eσ:σ[k]? = some (some v):=by
     rw [List.getD_eq_getElem?_getD] at e2'
     cases q:σ[k]? with
     | none=>rw [q] at e2';cases e2'
     | some o=>rw [q] at e2';have:o=some v:=e2';rw [this]
    have hy:=List.mem_of_getElem? e1'
    have hyc:=hcell y hy
    obtain ⟨m',hn',hl'⟩:=I3.loc
    obtain ⟨u,ru,lu⟩:=hl' k y v (by rw [S.n];exact eN) eσ (.inr (.inl hyc))
    refine ⟨u,ru,?_⟩
    rcases lu with ⟨k1,_⟩ | ⟨_,c,hcc,ic⟩
    ·have:(some NameKind.local)=some .cell:=k1.symm.trans hyc
     cases this
    ·obtain ⟨c',hc'⟩:=yZ (env:=X.env) (cs:=[]) (.inl (PySem.mem_of_lookup (SC.fre y hy)))
     have:c'=c:=by have:=sub y c' hc';rw [hcc] at this;exact (Option.some.inj this).symm
     subst this
     obtain ⟨oc,hoc,hd⟩:=ic
     exact .inr ⟨.inl (jl fun4 hyc (SC.fre y hy)),c',hc',oc,kp4 _ _ hoc,hd⟩
  ·obtain ⟨v,oc,hoc,hd⟩:=I3.cell y c (sub y c e)
   exact ⟨v,oc,kp4 _ _ hoc,hd⟩
 have fpc:∀ {Hc:Hp},(∀ b∈fp,Hc b=none)->∀ b∈fp,wa ↥15 [] Hc b:=fun {Hc} hn b hb =>
  ⟨hn b hb,neC b hb,nst b hb,.inl hb,fpcl b hb,fun p hp=>absurd (show p∈([]:List ↥10) from hp) (by simp)⟩
 have st4:tn 0 h4:=T.keep 0 _ _ st3' fun b _ o q=>kp4 b o q
 have kc2:∀ {Hc:Hp},(∀ b o,b≠D->H3 b=some o->Hc b=some o)->ao H2 Hc:=fun {Hc} kc b o e=>kc b o (fun z=>by rw [z,hnew] at e;cases e) (sm3 b o e)
 have R4:codeAny ↥4 X.A (.compLoop ↥30 0 (.ref it) (.ref D) (cxU X xs ksn sc s3.heap.objs.size fp s3 H3 WW).env)
   (dt ↥4 X.A X.xe use Qf (.ref D) s3.heap.objs.size X.env.frame)
   { s3 with heap:=h4,toks:=s3.toks+([]:List (Str×Value)).length }:=by
  refine yn (fun n s'=>∃ i σc Hc ys rsi,Inv ↥15 [] σc Hc s'/\tn i s'.heap/\(∀ b∈fp,Hc b=none)/\n=ds.length - i/\i<=ds.length/\Hc D=some (.lst ys)/\runC (stG pt gc ge ks δ) (ds.take i)=.ok rsi/\ys.length<=i/\Reps X.K X.mg Hc ys rsi/\(∀ b o,b≠D->H3 b=some o->Hc b=some o)/\σc.drop xs.length=(ks.map fun k=>σ.getD k none)/\EV.D.flats rsi=true) ?_ ds.length
   ⟨0,_,H3,[],[],I4,st4,fun b hb=>(f3 b hb).1,rfl,Nat.zero_le _,hD3,by rw [List.take_zero];rfl,Nat.zero_le _,.nil,fun _ _ _ q=>q,by rw [List.drop_append_of_le_length (by rw [List.length_replicate];exact Nat.le_refl _)];simp,rfl⟩
  have hW':NB X.prog X.w X.A (cxU X xs ksn sc s3.heap.objs.size fp s3 H3 WW).env (dt ↥4 X.A X.xe use Qf (.ref D) s3.heap.objs.size X.env.frame)=WW:=hWW
  rw [hW']
  rintro n s' ⟨i,σc,Hc,ys,rsi,Ic,st,fr,rfl,hi,hDc,ersi,hyl,hys,kc,tlσ,fl1⟩
  have smc:=kc2 kc
  have wkc:=wk Hc smc
  by_cases hlt':i<ds.length
  ·have hd:ds[i]? = some ds[i]:=List.getElem?_eq_getElem hlt'
   generalize ds[i]=d at hd
   have etk:ds=ds.take i++(d::ds.drop (i+1)):=by
    have:=List.take_append_drop i ds
    rw [ju hd] at this
    exact this.symm
   have nst':EV.R.bad≠stG pt gc ge ks δ d:=fun z=>nbad (by rw [etk];exact (rJ ersi).1 z.symm)
   obtain ⟨xd,k,ept,ek,kcase⟩:=Eu nst'
   have ertk:∀ o,stG pt gc ge ks δ d=.ok o->runC (stG pt gc ge ks δ) (ds.take (i+1))=.ok (rsi++o.toList):=fun o eo=>by
    rw [List.take_add_one,hd]
    exact xh ersi eo
   have lxd:=TT.len d xd ept
   refine thn (T.item ↥15 rfl rfl rfl hc i [] s' σc Hc WW Ic (fpc fr) st (wkc.1 i d hd).1) fun r s1 ⟨u,hr,h4'⟩ => ?_
   subst hr
   refine thn h4' fun _ s5 ⟨v,H5,I5,r5,yl,st5,fr5⟩ => ?_
   obtain ⟨sm5,rd⟩:=(wkc.1 i d hd).2 v H5 yl
   have smc5:=smc.trans sm5
   have rd5:=rd H5 smc5 fun b o z _=>z
   have I5':=I5.pinned (fpc fr5) (T.obj _ _ st5)
   have pinf:∀ {σ7:L2.St} {H7:Hp} {s7:Shared},Inv ↥15 ([]++mV fp s5.heap) σ7 H7 s7->∀ b∈fp,∀ o,s5.heap.get? b=some o->s7.heap.get? b=some o/\H7 b=none:=fun {σ7 H7 s7} I7 b hb o q =>
    have z:=I7.pin (b,o) (List.mem_append_right _ (List.mem_append_right _ (cZ hb q)))
    ⟨z.1,z.2.1⟩
   have lenσ:σc.length=xs.length+ks.length:=by
    have:=Ic.len
    rw [this]
    show (xs++ksn).length=_
    rw [List.length_append,lenks]
   refine thn (P4 _ s5 σc H5 v u (fun σ6 H6=>∃ vs,Reps X.K X.mg H5 vs xd/\Put σc vs σ6/\H6=H5) I5' r5 (TT.put ept rd5 ⋯ fun vs σ' rv pu=>⟨vs,rv,pu,rfl⟩)) fun _ s6 ⟨σ6,H6,I6,vs,rv,pu,e6'⟩ => ?_
   subst e6'
   have lvs:vs.length=xs.length:=by rw [rv.length,lxd]
   have hσ6:Stt X.K X.mg H6 σ6 (xd.map some++ks.map fun k=>δ.getD k none):=by
    refine ⟨by rw [pu.1,lenσ,List.length_append,List.length_map,List.length_map,lxd],fun j d' e nown => ?_⟩
    by_cases hj:j<xd.length
    ·rw [List.getElem?_append_left (by rw [List.length_map];exact hj),List.getElem?_map] at e
     cases q:xd[j]? with
     | none=>rw [q] at e;cases e
     | some d'' =>
      rw [q] at e
      cases e
      obtain ⟨v',e1,e2⟩:=rv.get q
      exact ⟨v',pu.2.1 j v' e1,e2⟩
    ·rw [List.getElem?_append_right (by rw [List.length_map];omega),List.length_map,List.getElem?_map] at e
     cases ek':ks[j - xd.length]? with
     | none=>rw [ek'] at e;cases e
     | some k =>
      rw [ek'] at e
      have e':δ.getD k none=some d':=Option.some.inj e
      have eδ:δ[k]? = some (some d'):=by
       rw [List.getD_eq_getElem?_getD] at e'
       cases q:δ[k]? with
       | none=>rw [q] at e';cases e'
       | some o=>rw [q] at e';have:o=some d':=e';rw [this]
      obtain ⟨w,ew',rw'⟩:=hσ2.2 k d' eδ nown
      refine ⟨w,?_,rw'.mono smc5⟩
      rw [pu.2.2 j ⋯]
      have ht:(σc.drop xs.length)[j - xd.length]? = some (some w):=by
       rw [tlσ,List.getElem?_map,ek']
       show some (σ.getD k none)=_
       rw [List.getD_eq_getElem?_getD,ew']
       rfl
      rw [List.getElem?_drop,show xs.length+(j - xd.length)=j by omega] at ht
      exact ht
   have tl6:σ6.drop xs.length=(ks.map fun k=>σ.getD k none):=by
    rw [<- tlσ]
    refine List.ext_getElem? fun j => ?_
    rw [List.getElem?_drop,List.getElem?_drop]
    exact pu.2.2 _ ⋯
   have hD5:H6 D=some (.lst ys):=sm5 _ _ hDc
   have kc5:∀ b o,b≠D->H3 b=some o->H6 b=some o:=fun b o hb q=>sm5 _ _ (kc b o hb q)
   have hys5:=hys.mono sm5
   refine thn (DX T4 I6 hσ6 ek (E:=WW) fun _ _ z=>z) fun ok s7 ⟨eok,H7,I7,sm7⟩ => ?_
   subst eok
   rcases kcase with ⟨rfl,eg⟩ | ⟨rfl,eo⟩
   ·rw [if_pos rfl]
    cases eg':ge (xd.map some++ks.map fun k=>δ.getD k none) with
    | bad=>rw [eg'] at eg;exact absurd eg.symm nst'
    | ex C =>
     rw [eg'] at eg
     have ext:runC (stG pt gc ge ks δ) ds=.ex C:=by rw [etk];exact (rJ ersi).2 C eg
     refine thn (E4 _ s7 σ6 H7 (fun _ _=>False) I7 ⟨_,hσ6.mono sm7,?_⟩) fun _ _ ⟨_,_,_,_,z⟩=>z.elim
     rw [eg']
     intro Ca hCa H' sm8 pins' Hx sx ea s8 Ix FX
     show WW (.ref ea) s8
     rw [<- hWW]
     exact B4 (hO ⟨C,ext⟩) I3 f3 rfl Ix FX (fun b u e=>by
      by_cases hb:b=D
      ·rw [hb];exact ⟨_,sm8 _ _ (sm7 _ _ hD5)⟩
      ·exact ⟨_,sm8 _ _ (sm7 _ _ (kc5 b u hb e))⟩) (hex C Ca ext hCa H' (((sm2.trans smc5).trans sm7).trans sm8))
    | ok r =>
     rw [eg'] at eg
     simp only [R.bind] at eg
     have flo:EV.D.flat r=true:=by
      refine Classical.byContradiction fun z => ?_
      rw [if_neg z] at eg
      exact nst' eg.symm
     rw [if_pos flo] at eg
     refine thn (E4 _ s7 σ6 H7 (fun v8 H8=>ao H7 H8/\Rep X.K X.mg H8 v8 r) I7 ⟨_,hσ6.mono sm7,by rw [eg'];exact fun v8 H8 sm rp=>⟨sm,rp⟩⟩) fun u8 s8 ⟨v8,H8,I8,r8,sm8,rp8⟩ => ?_
     have sm78:=sm7.trans sm8
     have hD8:H8 D=some (.lst ys):=sm78 _ _ hD5
     refine thn (fI (X:=↥15) _ s8 _ H8 (.ref D) [v8] (.ref D) [u8] (fun _ H9=>H9=upd H8 D (.lst (ys++[v8]))) I8 rfl (.cons r8 .nil) ⟨D,ys,v8,rfl,rfl,hD8,by rw [sizeLine_eq];omega,rfl⟩) fun _ s9 ⟨_,H9,I9,_,e9⟩ => ?_
     subst e9
     have k9:NoL H8 (upd H8 D (.lst (ys++[v8]))):=fun b ob e n _=>by
      rw [aB fun z => ?_];exact e
      rw [z,hD8] at e
      exact n ys (Option.some.inj e).symm
     have k9':∀ b ob,b≠D->H8 b=some ob->upd H8 D (.lst (ys++[v8])) b=some ob:=fun b ob hb q=>by rw [aB hb];exact q
     refine ⟨ds.length - (i+1),⋯,i+1,_,_,ys++[v8],rsi++[r],I9.unpinned,T.keep _ _ _ st5 (fun b hb o q=>(pinf I9 b hb o q).1),fun b hb => ?_,rfl,⋯,au,ertk _ eg,by rw [List.length_append];simp;omega,?_,fun b ob hb q=>k9' b ob hb (sm78 _ _ (kc5 b ob hb q)),tl6,m6 fl1 flo⟩
     ·obtain ⟨ob,e,_⟩:=T.obj _ _ st5 b hb
      exact (pinf I9 b hb ob e).2
     ·exact (eI k9 fl1 (hys5.mono sm78)).append (.cons (oA k9 flo rp8) .nil)
   ·rw [if_neg Bool.false_ne_true]
    refine ⟨ds.length - (i+1),⋯,i+1,_,_,ys,rsi,I7.unpinned,T.keep _ _ _ st5 (fun b hb o q=>(pinf I7 b hb o q).1),fun b hb => ?_,rfl,⋯,sm7 _ _ hD5,by rw [ertk _ eo];simp,⋯,hys5.mono sm7,fun b ob hb q=>sm7 _ _ (kc5 b ob hb q),tl6,fl1⟩
    obtain ⟨ob,e,_⟩:=T.obj _ _ st5 b hb
    exact (pinf I7 b hb ob e).2
  ·have ei:i=ds.length:=⋯
   subst ei
   refine thn (T.done ↥15 rfl rfl rfl hc ds.length [] s' σc Hc WW Ic (fpc fr) st (wkc.2 _ ↥23)) fun r s1 ⟨hr,I9⟩ => ?_
   subst hr
   obtain ⟨m,hns,_⟩:=id I9.loc
   have I10:∀ h',Heap.SameBut s3.heap.objs.size s1.heap h'->Inv X pins σ Hc { s1 with heap:=h' }:=fun h' sb=>I3.call' (s':={ s1 with heap:=h' }) (ch:=fp) I9.os (Hw I9.base ↥23 sb) (Gf I9.hok I9.free sb) I9.bare fun b hb =>
    ⟨(f3 b hb).2.2.2.1,(f3 b hb).2.1,(f3 b hb).2.2.2.2.1,(f3 b hb).2.2.2.2.2⟩
   rw [List.take_of_length_le ↥23] at ersi
   have hHD:H D=none:=by
    cases q:H D with
    | none=>rfl
    | some o=>have:=sm2 D o q;rw [hnew] at this;cases this
   exact hfin s1 Hc D s3.heap.objs.size ys rsi eds ersi fl1 hHD hDc hys (sm2.trans smc) (I3.fpOk ↥23 I9.free)
    (I10 s1.heap (Heap.SameBut.refl _ _)) ⟨m,hns⟩ I10
 exact codeAny_compStart_list R4 (T.self _ 0 _ _ _ st4 R4)
def pt1 (d:D):Option (List D):=some [d]
theorem ME:Tgt X 1 pt1 (sD 0):=⟨fun d xs e=>by cases e;rfl,fun {d xs v σ H Q} e r hl q=>by
 cases e
 refine q [v] _ (.cons r .nil) ⟨List.length_set ..,fun j w hj => ?_,fun j hj => ?_⟩
 ·cases j with
  | zero=>cases hj;exact List.getElem?_set_self ⋯
  | succ j=>simp at hj
 ·exact List.getElem?_set_ne (by have:1<=j:=hj;omega)⟩
theorem tg1:∀ C fp s H W,Sc ↥16 ([x]++ksn)->(∀ y∈[x],(cxU X [x] ksn sc C fp s H W).env.scope.names.lookup y=some .local)->PG ↥16 (.Name x px) (sD 0) :=
 fun C fp s H W S4 hl=>rN (i:=0) (by rw [S4.n];exact S4.nd) rfl (.inl (hl x (by simp))) (.inr (hl x (by simp)))
theorem Ib:∀ {ds rs:List EV.D},runC (EV.stC gc ge ks δ) ds=.ok rs->EV.D.flats rs=true->runC (stG pt1 gc ge ks δ) ds=.ok rs
 | [],rs,h,_=>h
 | d::ds,rs,h,hf=>by
  unfold runC at h ⊢
  cases q:EV.stC gc ge ks δ d with
  | ok o =>
   rw [q] at h
   simp only [R.bind] at h
   cases q2:runC (EV.stC gc ge ks δ) ds with
   | ok r =>
    rw [q2] at h
    have e:o.toList++r=rs:=by cases o<;>simpa using h
    have key:stG pt1 gc ge ks δ d=.ok o/\EV.D.flats r=true:=by
     unfold EV.stC at q
     unfold stG pt1
     simp only
     have ei:inC ks δ d=[d].map some++ks.map fun k=>δ.getD k none:=rfl
     rw [ei] at q
     cases q3:oP (gc ([d].map some++ks.map fun k=>δ.getD k none)) with
     | ok b =>
      rw [q3] at q
      cases b with
      | bl k =>
       cases k with
       | true =>
        simp only [R.bind,truth] at q ⊢
        cases q4:oP (ge ([d].map some++ks.map fun k=>δ.getD k none)) with
        | ok r' =>
         rw [q4] at q
         cases q
         rw [yb q4]
         rw [<- e] at hf
         have hf':EV.D.flat r'=true/\EV.D.flats r=true:=by simpa [EV.D.flats] using hf
         simp only
         rw [if_pos hf'.1]
         exact ⟨rfl,hf'.2⟩
        | ex C=>rw [q4] at q;cases q
        | bad=>rw [q4] at q;cases q
       | false =>
        simp only [R.bind,truth] at q ⊢
        cases q
        exact ⟨rfl,by rw [show r=rs from e];exact hf⟩
      | _=>cases q
     | ex C=>exact (j8 q3).elim
     | bad=>rw [q3] at q;cases q
    rw [key.1]
    simp only [R.bind]
    rw [Ib q2 key.2]
    simp only
    rw [<- e]
    cases o<;>rfl
   | ex C=>rw [q2] at h;cases h
   | bad=>rw [q2] at h;cases h
  | ex C=>rw [q] at h;cases h
  | bad=>rw [q] at h;cases h
structure CompOf (ce:E) (git:IT) (pt:EV.D->Option (List EV.D)) (gc ge:E) (ks:List Nat):Prop where
 ex:∀ δ C,git δ=.ex C->ce δ=.ex C
 bad:∀ δ,git δ=.bad->ce δ=.bad
 ok:∀ δ ds,git δ=.ok ds->ce δ=.bad\/(ds.length<=100000/\∃ rs,runC (stG pt gc ge ks δ) ds=.ok rs/\EV.D.flats rs=true/\ce δ=.ok (.lst rs))
theorem nh (hc:X.calm=true) {N:List Str} (S:Sc X N) {xs ksn G:List Str} {ks:List Nat} {tg elt iter:Expr} {ifs:List Expr} {pos ps:Pos} {sc:Scope} {git:IT} {gc ge ce:E} {pt:EV.D->Option (List EV.D)} {gT:TG} (CE:CompOf ce git pt gc ge ks) (SC:ScU xs ksn G sc)
  (hks:ks.map (fun k=>N.getD k "")=ksn) (hlt:∀ k∈ks,k<N.length) (hcell:∀ y∈ksn,X.env.scope.names.lookup y=some .cell)
  (he:SI X tg iter git) (TT:Tgt X xs.length pt gT)
  (htg:∀ C fp s H W,Sc ↥7 (xs++ksn)->↥34->PG ↥7 tg gT)
  (htst:∀ C fp s H W,Sc ↥7 (xs++ksn)->(∀ y∈G,Gb ↥7 y)->Tst ↥7 ifs gc)
  (helt:∀ C fp s H W,Sc ↥7 (xs++ksn)->(∀ y∈G,Gb ↥7 y)->SE ↥7 elt ge)
  (hs:∀ z,foldedSetIterable iter X.env z=pure z) {use:Option (Value->Sem Unit)} {Qf:Value->Shared->Prop} {Q:VK}
  {pins:List ↥10} {s:Shared} {σ:L2.St} {H:Hp} {δ:Dt} (I:Inv X pins σ H s) (hσ:Stt X.K X.mg H σ δ) (h:RQ X σ H (ce δ) Q)
  (hfin:∀ (s1:Shared) (Hc:Hp) (D C:Addr) (ys:List V) (rs:List EV.D),ce δ=.ok (.lst rs)->EV.D.flats rs=true->H D=none->Hc D=some (.lst ys)->Reps X.K X.mg Hc ys rs->ao H Hc->Q (.ref D) Hc ->
   wa X pins Hc C->Inv X pins σ Hc s1->(∃ m,s1.heap.Ns C m)->(∀ h',Heap.SameBut C s1.heap h'->Inv X pins σ Hc { s1 with heap:=h' })->dt ↥4 X.A X.xe use Qf (.ref D) C X.env.frame (.ok .next) s1) :
  wpAny ↥4 X.A (comprehension ↥30 sc X.env ps (newList []) false (eval iter X.env) use) Qf X.xe s:=by
 have key:git δ ≠ .bad/\(∀ C,git δ=.ex C->∀ Ca,X.mg C=some (.ref Ca)->∀ H',ao H H'->ew X Ca σ H')/\∃ ds,(∀ ds',git δ=.ok ds'->ds'=ds)/\∀ ds',git δ=.ok ds'->ds.length<=100000/\∃ rs,runC (stG pt gc ge ks δ) ds=.ok rs/\EV.D.flats rs=true/\ce δ=.ok (.lst rs):=by
  cases r:git δ with
  | bad=>rw [CE.bad δ r] at h;exact False.elim h
  | ex C=>rw [CE.ex δ C r] at h;exact ⟨(fun z=>nomatch z),(fun C' e=>by cases e;exact h),[],(fun _ e=>nomatch e),(fun _ e=>nomatch e)⟩
  | ok ds =>
   refine ⟨fun z=>(nomatch z),fun C' e=>(nomatch e),ds,fun _ e=>by cases e;rfl,fun _ e => ?_⟩
   rcases CE.ok δ ds r with z | z
   ·rw [z] at h;exact False.elim h
   ·exact z
 obtain ⟨k1,k2,ds,k3,k4⟩:=key
 by_cases g:∃ ds',git δ=.ok ds'
 ·obtain ⟨ds',eds⟩:=g
  obtain ⟨hz,rs,er,fl,ec⟩:=k4 ds' eds
  refine qu hc S SC hks hlt hcell he TT htg htst helt hs (use:=use) I hσ k2 (ds:=ds) k1 (fun d e=>⟨k3 d e,hz,(fun z=>by rw [er] at z;cases z),(fun rs' e'=>by rw [er] at e';cases e';exact fl)⟩) (fun C Ca e=>by rw [er] at e;cases e) (fun ⟨C,e⟩=>by rw [er] at e;cases e) fun s1 Hc D C ys rs' e1 e2 e3 e4 e5 e6 e7 e8 e9 e10 e11 => ?_
  rw [er] at e2
  cases e2
  rw [ec] at h
  exact hfin s1 Hc D C ys rs ec fl e4 e5 e6 e7 (h _ _ e7 (.lst (SqL.of e5) e6)) e8 e9 e10 e11
 ·have no:∀ d,git δ ≠ .ok d:=fun d e=>g ⟨d,e⟩
  exact qu hc S SC hks hlt hcell he TT htg htst helt hs (use:=use) I hσ k2 (ds:=[]) k1 (fun d e=>absurd e (no d)) (fun C Ca e=>nomatch e) (fun ⟨C,e⟩=>nomatch e) fun s1 Hc D C ys rs' e1=>absurd e1 (no _)
theorem qv:CompOf (fN git ks gc ge) git pt1 gc ge ks where
 ex:=fun δ C e=>by unfold fN;rw [e];rfl
 bad:=fun δ e=>by unfold fN;rw [e];rfl
 ok:=fun δ ds e=>by
  unfold fN
  rw [e]
  simp only [R.bind]
  by_cases hz:ds.length<=100000
  ·rw [if_pos hz]
   cases r:runC (EV.stC gc ge ks δ) ds with
   | bad=>exact .inl rfl
   | ex C =>
    exfalso
    have:∀ l C,runC (EV.stC gc ge ks δ) l ≠ .ex C:=fun l C=>by
     induction l with
     | nil=>exact fun z=>nomatch z
     | cons a l ih =>
      intro z
      unfold runC at z
      cases q:EV.stC gc ge ks δ a with
      | ok o =>
       rw [q] at z
       simp only [R.bind] at z
       cases q2:runC (EV.stC gc ge ks δ) l with
       | ok r=>rw [q2] at z;cases z
       | ex C'=>exact ih.elim (by rw [q2] at z;cases z;exact q2)
       | bad=>rw [q2] at z;cases z
      | ex C' =>
       unfold EV.stC at q
       cases q3:oP (gc (inC ks δ a)) with
       | ok d =>
        rw [q3] at q
        cases d with
        | bl b =>
         cases b with
         | true =>
          simp only [R.bind,truth] at q
          cases q4:oP (ge (inC ks δ a)) with
          | ok r=>rw [q4] at q;cases q
          | ex C''=>exact j8 q4
          | bad=>rw [q4] at q;cases q
         | false=>cases q
        | _=>cases q
       | ex C''=>exact j8 q3
       | bad=>rw [q3] at q;cases q
      | bad=>rw [q] at z;cases z
    exact this _ _ r
   | ok rs =>
    simp only [cD]
    by_cases hf:EV.D.flats rs=true
    ·rw [if_pos hf]
     exact .inr ⟨hz,rs,Ib r hf,hf,rfl⟩
    ·rw [if_neg hf]
     exact .inl rfl
  ·rw [if_neg hz]
   exact .inl rfl
theorem Gu (hc:X.calm=true) {N:List Str} (S:Sc X N) {xs ksn G:List Str} {ks:List Nat} {tg elt iter:Expr} {ifs:List Expr} {pos:Pos} {sc:Scope} {git:IT} {gc ge ce:E} {pt:EV.D->Option (List EV.D)} {gT:TG} (CE:CompOf ce git pt gc ge ks) (SC:ScU xs ksn G sc)
  (hks:ks.map (fun k=>N.getD k "")=ksn) (hlt:∀ k∈ks,k<N.length) (hcell:∀ y∈ksn,X.env.scope.names.lookup y=some .cell)
  (he:SI X tg iter git) (TT:Tgt X xs.length pt gT)
  (htg:∀ C fp s H W,Sc ↥7 (xs++ksn)->↥34->PG ↥7 tg gT)
  (htst:∀ C fp s H W,Sc ↥7 (xs++ksn)->(∀ y∈G,Gb ↥7 y)->Tst ↥7 ifs gc)
  (helt:∀ C fp s H W,Sc ↥7 (xs++ksn)->(∀ y∈G,Gb ↥7 y)->SE ↥7 elt ge)
  (hs:∀ z,foldedSetIterable iter X.env z=pure z):SE X ↥30 ce:=by
 intro pins s σ H Q I ⟨δ,hσ,h⟩
 rw [eval_ListComp]
 exact nh hc S CE SC hks hlt hcell he TT htg htst helt hs (use:=none) I hσ h fun s1 Hc D C ys rs e1 e2 e3 e4 e5 e6 q fC I1 ⟨m,ns⟩ turn=>⟨m,ns,fun h' sb=>⟨.ref D,Hc,turn h' sb,rfl,q⟩⟩
theorem B0 (hc:X.calm=true) {N:List Str} (S:Sc X N) {x:Str} {ksn G:List Str} {ks:List Nat} {elt iter:Expr} {ifs:List Expr} {px pos:Pos} {sc:Scope} {git:IT} {gc ge:E} (SC:ScU [x] ksn G sc)
  (hks:ks.map (fun k=>N.getD k "")=ksn) (hlt:∀ k∈ks,k<N.length) (hcell:∀ y∈ksn,X.env.scope.names.lookup y=some .cell)
  (he:SI X (.Name x px) iter git)
  (htst:∀ C fp s H W,Sc ↥16 ([x]++ksn)->(∀ y∈G,Gb ↥16 y)->Tst ↥16 ifs gc)
  (helt:∀ C fp s H W,Sc ↥16 ([x]++ksn)->(∀ y∈G,Gb ↥16 y)->SE ↥16 elt ge)
  (hs:∀ z,foldedSetIterable iter X.env z=pure z:=by intro _;rfl):SE X (.ListComp elt [⟨.Name x px,iter,ifs,0⟩] sc pos) (fN git ks gc ge) :=
 Gu hc S qv SC hks hlt hcell he ME tg1 htst helt hs
theorem m8 (hc:X.calm=true) {N:List Str} (S:Sc X N) {x:Str} {ksn G:List Str} {ks:List Nat} {elt iter:Expr} {px pos:Pos} {sc:Scope} {git:IT} {ge:E} (SC:ScU [x] ksn G sc)
  (hks:ks.map (fun k=>N.getD k "")=ksn) (hlt:∀ k∈ks,k<N.length) (hcell:∀ y∈ksn,X.env.scope.names.lookup y=some .cell)
  (he:SI X (.Name x px) iter git)
  (helt:∀ C fp s H W,Sc ↥16 ([x]++ksn)->(∀ y∈G,Gb ↥16 y)->SE ↥16 elt ge)
  (hs:∀ z,foldedSetIterable iter X.env z=pure z:=by intro _;rfl):SE X (.ListComp elt [⟨.Name x px,iter,[],0⟩] sc pos) (comp git ks ge) :=
 B0 hc S SC hks hlt hcell he (fun _ _ _ _ _ _ _=>.nil) helt hs
end
end ES
namespace ES
open PySem PySem.Spec PyProof.Rows L2 EV
unseal SE ST SW SA SS SSs SI
structure GC (X:Cx) (x:String) (d:D):Prop where
 ex:∃ v u,X.mg x=some u/\RelV v u/\∀ H,Rep X.K X.mg H v d
section
variable {X:Cx} {pos p:Pos} {x:String} {d:D} {e e2:Expr} {g:E}
theorem Ms (G:Gb X x) (h:GC X x d):SE X (.Name x pos) (con d):=by
 obtain ⟨v,u,hm,r,hr⟩:=h.ex
 exact qs (rO (v:=v) G.g hm r G.d) hr
theorem sC {a:Addr} {dd:Option Addr} {ss:List String} {its:Array Value} {n:Nat} {sl:Array (Option Value)} (hm:X.mg x=some (.ref a)) (hk:X.K.lookup a=some ⟨.type "tuple",dd,.seq its n,sl⟩) (hi:Vals (ss.map fun s=>V.str (Str.ofString s)) its.toList) (hz:its.size<=1000):GC X x (.tup (ss.map fun s=>D.str (Str.ofString s))):=by
 refine ⟨.ref a,.ref a,hm,rfl,fun H=>.tup (.inr ⟨_,its,n,hk,rfl,rfl,Nat.le_of_lt (gY hz),hi⟩) ?_⟩
 clear hi
 induction ss with
 | nil=>exact .nil
 | cons s r ih=>exact .cons (.str _) ih
theorem gX:∀ {ss:List String} {ts:List Tok} {its:List Value},its=(ss.zip ts).map (fun p=>Value.str (Str.ofString p.1) p.2)->ts.length=ss.length->Vals (ss.map fun s=>V.str (Str.ofString s)) its
 | [],_,_,e,_=>by subst e;exact .nil
 | s::r,[],_,_,h=>by simp at h
 | s::r,t::ts,_,e,h=>by
  subst e
  exact .cons ⟨t,rfl⟩ (gX (ts:=ts) rfl (by simpa using h))
end
section
variable {X:Cx} {x y:Str} {ksn:List Str} {sc:Scope} {C:Addr} {fp:List Addr} {s:Shared} {H:Hp} {f:List D->R D} {cn m:String} {F:List D->R D}
end
def cO:Stmt->List Stmt
 | .ClassDef _ _ _ b _ _ _ _ _ _ _=>b
 | _=>[]
end ES
namespace ES
open EV
end ES
namespace ES
open PySem PySem.Spec PyProof.Rows L2 EV
unseal SE ST SW SA SS SSs SI
def ROp (X:Cx) (σ:L2.St) (H:Hp) (r:R (Option Int)) (Q:Option Int->Hp->Prop):Prop:=match r with
 | .ok o=>∀ H',ao H H'->Q o H'
 | .ex C=>∀ Ca,X.mg C=some (.ref Ca)->∀ H',ao H H'->ew X Ca σ H'
 | .bad=>False
def tPo (X:Cx) (g:Option E):TO:=fun σ H Q=>∃ δ,Stt X.K X.mg H σ δ/\ROp X σ H (part g δ) Q
@[irreducible] def SO (X:Cx) (e:Option Expr) (g:Option E):Prop:=PO X e (tPo X g)
unseal SO
section
variable {X:Cx} {tg e a:Expr} {lo hi:Option Expr} {g:E} {gl gu:Option E} {σ:L2.St} {H H1:Hp} {pos p2:Pos}
theorem PO.weak (h:PO X o t) (w:∀ σ H Q,t' σ H Q->t σ H Q):PO X o t':=fun pins s σ H Q I q=>h pins s σ H Q I (w σ H Q q)
theorem oH:SO X none none:=PO.weak EO fun σ H Q ⟨δ,hσ,q⟩=>q H ↥21
theorem ik (h:SE X e g):SO X (some e) (some g):=PO.weak (EN h) fun σ H Q ⟨δ,hσ,q⟩=>⟨δ,hσ,by
 simp only [EV.part] at q
 cases r:g δ with
 | ok d =>
  rw [r] at q
  cases d with
  | int i=>exact fun v H' s r=>by cases r;exact ⟨i,rfl,q H' s⟩
  | _=>exact False.elim q
 | ex C=>rw [r] at q;exact q
 | bad=>rw [r] at q;exact q⟩
theorem ROp.bind (h:RQ X σ H (r.bind f) Q):ROp X σ H r (fun o H'=>ao H H'/\RQ X σ H' (f o) Q):=by
 cases r with
 | ok d=>exact fun H' s=>⟨s,h.mono s⟩
 | ex C=>exact h
 | bad=>exact h
theorem ROp.to (h:ROp X σ H r Q) (g:∀ o H',ao H H'->Q o H'->Q' o H'):ROp X σ H r Q':=by
 cases r with
 | ok d=>exact fun H' s=>g d H' s (h H' s)
 | ex C=>exact h
 | bad=>exact h
theorem tO (rs:Reps X.K X.mg H xs ds) (l u:Option Int):Reps X.K X.mg H (C9 xs l u) (EV.cut ds l u):=by
 unfold C9 EV.cut
 rw [rs.length]
 exact (rs.drop _).take _
def rS (X:Cx):V->Option Int->Option Int->Hp->VK->Prop:=fun x l u H Q=>∃ dx d,Rep X.K X.mg H x dx/\oSl dx l u=.ok d/\∀ v H',ao H H'->Rep X.K X.mg H' v d->Q v H'
theorem P6:SlR X (rS X):=by
 intro pins s σ H x v vl vu l u sl Q I rx hs pl pu ⟨dx,d,r,e,q⟩
 unfold oSl at e
 split at e
 ·split at e
  ·cases e
  ·rename_i hn
   cases e;cases r
   rename_i p xs hq rs
   refine Ie pins s σ H _ v vl vu l u sl Q I rx hs pl pu ⟨p,xs,rfl,hq,?_,fun p hp=>q _ _ (ar hp _) (.tup (SqT.of au) ((tO rs l u).mono (ar hp _)))⟩
   rw [rs.length]
   exact hn
 ·cases e;cases r
  rename_i p xs hq rs
  exact Ew pins s σ H _ v vl vu l u sl Q I rx hs pl pu ⟨p,xs,rfl,hq,fun p hp=>q _ _ (ar hp _) (.lst (SqL.of au) ((tO rs l u).mono (ar hp _)))⟩
 ·cases e
theorem BZ (ha:SE X a g) (hl:SO X lo gl) (hu:SO X hi gu):SE X (.Subscript a (.Slice lo hi none p2) pos) (slc g gl gu) :=
 PE.weak (A3 P6 ha hl hu) fun σ H Q ⟨δ,hσ,q⟩=>⟨δ,hσ,(RQ.bind q).to fun x H1 _ ⟨s1,d,r1,q1⟩=>⟨δ,hσ.mono s1,(ROp.bind q1).to fun l H2 _ ⟨s2,q2⟩=>⟨δ,hσ.mono (s1.trans s2),(ROp.bind q2).to fun u H3 _ ⟨s3,q3⟩=>by
  have r3:=r1.mono (s2.trans s3)
  cases e:oSl d l u with
  | ok z=>rw [e] at q3;exact ⟨d,z,r3,e,q3⟩
  | ex C =>
   exfalso
   unfold oSl at e
   split at e
   ·split at e<;>cases e
   ·cases e
   ·cases e
  | bad=>rw [e] at q3;exact False.elim q3⟩⟩⟩
theorem fJ (h:SE X e g):SI X tg e (itA g):=fun pins s σ H Q I ⟨δ,hσ,q⟩=>by
 unfold itA at q
 cases r:g δ with
 | ok d =>
  rw [r] at q
  cases d with
  | lst ds=>exact C1 h pins s σ H Q I ⟨δ,hσ,by unfold itL;rw [r];exact q⟩
  | tup ds=>exact Mf h pins s σ H Q I ⟨δ,hσ,by unfold itT;rw [r];exact q⟩
  | _=>exact False.elim q
 | ex C=>exact C1 h pins s σ H Q I ⟨δ,hσ,by unfold itL;rw [r] at q ⊢;exact q⟩
 | bad=>rw [r] at q;exact False.elim q
end
theorem G3 {P:String->Prop} (h0:P "MillError") (h1:P "NoSize") (h2:P "NoBits") (h3:P "NoParts") (h4:P "NoRank") (h5:P "NotFinite") (h6:P "NoWay") (h7:P "NoFlags") (h8:P "NoFraction") (h9:P "Unlike") (h10:P "Empty") (h11:P "NoLeft") (h12:P "NoText") (h13:P "NoRow") (h14:P "NoName") (h15:P "Stopped"):∀ n∈aj,P n:=by
 intro n hn
 simp only [aj,List.mem_cons,List.not_mem_nil,or_false] at hn
 rcases hn with rfl | rfl | rfl | rfl | rfl | rfl | rfl | rfl | rfl | rfl | rfl | rfl | rfl | rfl | rfl | rfl
 all_goals assumption
end ES
namespace ES
open PySem PySem.Spec PyProof.Rows L2 EV
unseal SE ST SW SA SS SSs SI SO
section
variable {X:Cx} {tg:Expr} {H:Hp} {a b c:Expr} {ga gb gc:E}
end
end ES
namespace ES
open PySem PySem.Spec PyProof.Rows L2 EV
unseal SE ST SW SA SS SSs SI SO
section
variable {X:Cx} {N:List Str} {H:Hp} {σ:L2.St} {δ:Dt} {os:Os}
theorem Ep (h:Stt X.K X.mg H σ δ):Stt X.K X.mg H σ (δ.set i (some (.own ds))):=by
 refine ⟨by rw [List.length_set];exact h.1,fun j d e n => ?_⟩
 by_cases hj:j=i
 ·subst hj
  by_cases hl:j<δ.length
  ·rw [List.getElem?_set_self hl] at e
   have e':.own ds=d:=Option.some.inj (Option.some.inj e)
   exact absurd e'.symm (n ds)
  ·rw [List.getElem?_eq_none (by simp;omega)] at e
   cases e
 ·rw [List.getElem?_set_ne (Ne.symm hj)] at e
  exact h.2 j d e n
theorem oX (h:a∈jj os):hide (upd H a o) os=hide H os:=by
 funext b
 unfold hide
 by_cases hb:b∈jj os
 ·rw [if_pos hb,if_pos hb]
 ·rw [if_neg hb,if_neg hb]
  exact aB fun z=>hb (by rw [z];exact h)
theorem StO.write (S:StO X H σ δ os) (ha:(i,a)∈os) (r:Reps X.K X.mg ↥20 xs ds):StO X (upd H a (.lst xs)) σ (δ.set i (some (.own ds))) os:=by
 have eh:hide (upd H a (.lst xs)) os=hide H os:=oX (cI ha)
 obtain ⟨_,_,_,h2,h3,_⟩:=S.lst _ ha
 have hl:i<δ.length:=(List.getElem?_eq_some_iff.mp h3).1
 refine ⟨by rw [eh];exact Ep S.st,fun p hp => ?_,fun j es e => ?_,S.inj⟩
 ·rw [eh]
  by_cases hj:p.1=i
  ·have e2:p.2=a:=by
    obtain ⟨_,_,_,q2,_,_⟩:=S.lst p hp
    rw [hj,h2] at q2
    exact (V.ref.inj (Option.some.inj (Option.some.inj q2))).symm
   refine ⟨xs,ds,by rw [e2];exact au,by rw [hj,e2];exact h2,by rw [hj];exact List.getElem?_set_self hl,r⟩
  ·obtain ⟨ys,es,q1,q2,q3,q4⟩:=S.lst p hp
   have ne:p.2≠a:=fun z=>hj (S.inj p.1 i a (by rw [<- z];exact hp) ha)
   exact ⟨ys,es,by rw [aB ne];exact q1,q2,by rw [List.getElem?_set_ne (Ne.symm hj)];exact q3,q4⟩
 ·by_cases hj:j=i
  ·subst hj;exact ⟨a,ha⟩
  ·rw [List.getElem?_set_ne (Ne.symm hj)] at e
   exact S.own j es e
theorem StO.begin (S:StO X H σ δ os) (hi:i<σ.length) (hn:H a=none) (r:Reps X.K X.mg ↥20 xs ds) :
  StO X (upd H a (.lst xs)) (σ.set i (some (.ref a))) (δ.set i (some (.own ds))) ((i,a)::os.filter fun p=>p.1 != i)/\ao ↥20 (hide (upd H a (.lst xs)) ((i,a)::os.filter fun p=>p.1 != i)):=by
 have hd:i<δ.length:=by rw [<- S.st.1];exact hi
 have sm:ao ↥20 (hide (upd H a (.lst xs)) ((i,a)::os.filter fun p=>p.1 != i)):=fun b o e=>by
  have hb:b∉jj os:=fun z=>by rw [fK z] at e;cases e
  rw [aZ hb] at e
  have ne:b≠a:=fun z=>by rw [z,hn] at e;cases e
  rw [aZ fun z => ?_,aB ne];exact e
  obtain ⟨p,hp,e2⟩:=gp z
  rcases List.mem_cons.mp hp with q | q
  ·exact ne (by rw [<- e2,q])
  ·exact hb (by rw [<- e2];exact cI (aH os i p q).1)
 have naos:∀ p∈os,p.2≠a:=fun p hp z=>by
  obtain ⟨_,_,q,_⟩:=S.lst p hp
  rw [z,hn] at q
  cases q
 refine ⟨⟨?_,fun p hp => ?_,fun j es e => ?_,fun j k b h1 h2 => ?_⟩,sm⟩
 ·have st:=S.st.mono sm
  refine ⟨by rw [List.length_set,List.length_set];exact st.1,fun j d e n => ?_⟩
  by_cases hj:j=i
  ·subst hj
   rw [List.getElem?_set_self hd] at e
   exact absurd (Option.some.inj (Option.some.inj e)).symm (n ds)
  ·rw [List.getElem?_set_ne (Ne.symm hj)] at e
   obtain ⟨v,e1,e2⟩:=st.2 j d e n
   exact ⟨v,by rw [List.getElem?_set_ne (Ne.symm hj)];exact e1,e2⟩
 ·rcases List.mem_cons.mp hp with q | q
  ·subst q
   exact ⟨xs,ds,au,List.getElem?_set_self hi,List.getElem?_set_self hd,r.mono sm⟩
  ·obtain ⟨hp',ne⟩:=aH os i p q
   obtain ⟨ys,es,q1,q2,q3,q4⟩:=S.lst p hp'
   exact ⟨ys,es,by rw [aB (naos p hp')];exact q1,by rw [List.getElem?_set_ne (Ne.symm ne)];exact q2,by rw [List.getElem?_set_ne (Ne.symm ne)];exact q3,q4.mono sm⟩
 ·by_cases hj:j=i
  ·subst hj;exact ⟨a,.head _⟩
  ·rw [List.getElem?_set_ne (Ne.symm hj)] at e
   obtain ⟨b,hb⟩:=S.own j es e
   exact ⟨b,.tail _ (List.mem_filter.mpr ⟨hb,by simpa using hj⟩)⟩
 ·rcases List.mem_cons.mp h1 with q1 | q1<;>rcases List.mem_cons.mp h2 with q2 | q2
  ·cases q1;cases q2;rfl
  ·cases q1;exact absurd rfl (naos _ (aH os i _ q2).1)
  ·cases q2;exact absurd rfl (naos _ (aH os i _ q1).1)
  ·exact S.inj j k b (aH os i _ q1).1 (aH os i _ q2).1
theorem StO.pub (S:StO X H σ δ os) (i:Nat):∃ os',StO X H σ (EV.pub i δ) os'/\ao ↥20 (hide H os'):=by
 unfold EV.pub
 split
 ·rename_i ds e
  obtain ⟨a,ha⟩:=S.own i ds e
  obtain ⟨xs,ds',h1,h2,h3,h4⟩:=S.lst _ ha
  rw [e] at h3
  cases h3
  have sm:ao ↥20 (hide H (os.filter fun p=>p.1 != i)):=lG fun p hp=>(aH os i p hp).1
  have hl:i<δ.length:=(List.getElem?_eq_some_iff.mp e).1
  have na:a∉jj (os.filter fun p=>p.1 != i):=fun z=>by
   obtain ⟨p,hp,e2⟩:=gp z
   obtain ⟨hp',ne⟩:=aH os i p hp
   exact ne (S.inj p.1 i a (by rw [<- e2];exact hp') ha)
  refine ⟨_,⟨?_,fun p hp => ?_,fun j es q => ?_,fun j k b h1 h2=>S.inj j k b (aH os i _ h1).1 (aH os i _ h2).1⟩,sm⟩
  ·have st:=S.st.mono sm
   refine ⟨by rw [List.length_set];exact st.1,fun j d q n => ?_⟩
   by_cases hj:j=i
   ·subst hj
    rw [List.getElem?_set_self hl] at q
    have q':D.lst ds=d:=Option.some.inj (Option.some.inj q)
    subst q'
    exact ⟨.ref a,h2,.lst (SqL.of (by rw [aZ na];exact h1)) (h4.mono sm)⟩
   ·rw [List.getElem?_set_ne (Ne.symm hj)] at q
    exact st.2 j d q n
  ·obtain ⟨hp',ne⟩:=aH os i p hp
   obtain ⟨ys,es,q1,q2,q3,q4⟩:=S.lst p hp'
   exact ⟨ys,es,q1,q2,by rw [List.getElem?_set_ne (Ne.symm ne)];exact q3,q4.mono sm⟩
  ·by_cases hj:j=i
   ·subst hj
    rw [List.getElem?_set_self hl] at q
    cases q
   ·rw [List.getElem?_set_ne (Ne.symm hj)] at q
    obtain ⟨b,hb⟩:=S.own j es q
    exact ⟨b,List.mem_filter.mpr ⟨hb,by simpa using hj⟩⟩
 ·exact ⟨os,S,ao.refl _⟩
variable {e:Expr} {g:E} {pos:Pos} {st:Stmt} {gs:S}
theorem xg (i:Nat) (h:SS X st gs):SS X st (CK i gs):=PS.weak h fun D σ H ⟨δ,os,S,q⟩=>by
 obtain ⟨os',S',sm⟩:=S.pub i
 exact ⟨_,os',S',OQ.mono sm q⟩
theorem ow (C:Sx X N) (i:Nat) (hN:N[i]? = some x) (hx:Sto X x) (hsw:swapsWith (.List [] pl) (some (.Name x pos')) pos.line X.env=pure false:=by rfl):SS X (.Assign [.Name x pos'] (.List [] pl) pos) (mW i):=by
 intro pins s σ H D I ⟨δ,os,S,q⟩
 refine p7 (i:=i) (by rw [C.sc.n];exact C.sc.nd) (by rw [C.sc.n];exact hN) hx.1 (xu gE) hsw hx.2 pins s σ H D I ⟨Nat.zero_le _,fun p hp => ?_⟩
 have hi:i<σ.length:=by
  rw [I.len,C.sc.n]
  exact (List.getElem?_eq_some_iff.mp hN).1
 obtain ⟨S',sm⟩:=S.begin (i:=i) hi hp .nil
 exact q _ _ _ S' sm
theorem eC (C:Sx X N) (i:Nat) (hN:N[i]? = some x) (he:SE X e g)
  (hbase:attributeBase (.Name x p1) "append" X.env (eval (.Name x p1) X.env)=eval (.Name x p1) X.env:=by rfl)
  (hfew:((backTo p3 (starEach [e] X.env)).all (fun x => !x.1)&&(backToKw p3 (keywordEach [] X.env)).all (fun x=>x.1.isSome)
   && decide ([e].length+([]:List Keyword).length+(if ([]:List Keyword).isEmpty then 0 else 1)<30))=true:=by rfl)
  (hline:(p2.endLine == p3.line)=true:=by rfl) (hs:starEach [e] X.env=[↥25]:=by rfl)
  (hsw:swapsWith (.Call (.Attribute (.Name x p1) "append" p2) [e] [] p3) none pos.line X.env=pure false:=by rfl) :
  SS X (.Expr (.Call (.Attribute (.Name x p1) "append" p2) [e] [] p3) pos) (fb i g):=by
 have hm:x∈N:=List.mem_of_getElem? hN
 refine PS.weak (jb (xw PySem.F.plainAttrs_list PySem.F.slot_list_append PySem.F.type_list_append fI (ip (i:=i) (by rw [C.sc.n];exact hN) (C.sc.vis x hm) (C.sc.dbg x hm).1 (C.sc.dbg x hm).2) (dY (sQ he) gE hs) hbase hfew hline hs (by rfl)) hsw) fun D σ H ⟨δ,os,S,q⟩ => ?_
 unfold fb gB at q
 split at q
 ·rename_i ds ei
  obtain ⟨a,ha⟩:=S.own i ds ei
  obtain ⟨xs,ds',h1,h2,h3,h4⟩:=S.lst _ ha
  rw [ei] at h3
  cases h3
  refine ⟨.ref a,h2,.inl ⟨rfl,xs,SqL.of h1⟩,δ,os,S,?_,?_⟩
  ·intro d ed
   unfold Dg at q
   rw [ed] at q
   simp only at q
   split at q
   ·rename_i z;exact z.1
   ·exact False.elim q
  ·unfold Dg at q
   cases r:g (view δ) with
   | ok d =>
    rw [r] at q
    simp only at q
    split at q
    ·rename_i z
     intro v H' S' sm rp
     obtain ⟨xs',ds',k1,k2,k3,k4⟩:=S'.lst _ ha
     rw [ei] at k3
     cases k3
     refine ⟨a,xs',v,rfl,rfl,k1,by rw [k4.length,sizeLine_eq];omega,?_⟩
     have S2:=S'.write ha (k4.append (.cons rp .nil))
     exact q _ _ _ S2 (by rw [oX (cI ha)];exact sm)
    ·exact False.elim q
   | ex C=>rw [r] at q;exact fun Ca hc H' s' st=>q σ H' s' st Ca hc
   | bad=>rw [r] at q;exact False.elim q
 ·exact False.elim q
end
end ES
namespace ES
open PySem PySem.Spec PyProof.Rows L2 EV
unseal SE ST SW SA SS SSs SI SO
section
variable {X:Cx} {N:List Str} {H:Hp} {σ:L2.St} {δ:Dt} {os:Os}
theorem StO.adopt (S:StO X H σ δ os) (sm:ao H Hc) (hi:i<σ.length) (hn:H a=none) (ha:Hc a=some (.lst xs)) (r:Reps X.K X.mg Hc xs ds) (fl:EV.D.flats ds=true) :
  StO X Hc (σ.set i (some (.ref a))) (δ.set i (some (.own ds))) ((i,a)::os.filter fun p=>p.1 != i)/\ao ↥20 (hide Hc ((i,a)::os.filter fun p=>p.1 != i)):=by
 have hd:i<δ.length:=by rw [<- S.st.1];exact hi
 have sm2:ao ↥20 (hide Hc ((i,a)::os.filter fun p=>p.1 != i)):=fun b o e=>by
  have hb:b∉jj os:=fun z=>by rw [fK z] at e;cases e
  rw [aZ hb] at e
  have ne:b≠a:=fun z=>by rw [z,hn] at e;cases e
  rw [aZ fun z => ?_];exact sm b o e
  obtain ⟨p,hp,e2⟩:=gp z
  rcases List.mem_cons.mp hp with q | q
  ·exact ne (by rw [<- e2,q])
  ·exact hb (by rw [<- e2];exact cI (aH os i p q).1)
 have naos:∀ p∈os,p.2≠a:=fun p hp z=>by
  obtain ⟨_,_,q,_⟩:=S.lst p hp
  rw [z,hn] at q
  cases q
 have ls:Kr Hc ((i,a)::os.filter fun p=>p.1 != i):=fun b hb=>by
  obtain ⟨p,hp,e2⟩:=gp hb
  rcases List.mem_cons.mp hp with q | q
  ·exact ⟨xs,by rw [<- e2,q];exact ha⟩
  ·obtain ⟨ys,_,q1,_⟩:=S.lst p (aH os i p q).1
   exact ⟨ys,by rw [<- e2];exact sm _ _ q1⟩
 refine ⟨⟨?_,fun p hp => ?_,fun j es e => ?_,fun j k b h1 h2 => ?_⟩,sm2⟩
 ·have st:=S.st.mono sm2
  refine ⟨by rw [List.length_set,List.length_set];exact st.1,fun j d e n => ?_⟩
  by_cases hj:j=i
  ·subst hj
   rw [List.getElem?_set_self hd] at e
   exact absurd (Option.some.inj (Option.some.inj e)).symm (n ds)
  ·rw [List.getElem?_set_ne (Ne.symm hj)] at e
   obtain ⟨v,e1,e2⟩:=st.2 j d e n
   exact ⟨v,by rw [List.getElem?_set_ne (Ne.symm hj)];exact e1,e2⟩
 ·rcases List.mem_cons.mp hp with q | q
  ·subst q
   exact ⟨xs,ds,ha,List.getElem?_set_self hi,List.getElem?_set_self hd,eI (oN ls) fl r⟩
  ·obtain ⟨hp',ne⟩:=aH os i p q
   obtain ⟨ys,es,q1,q2,q3,q4⟩:=S.lst p hp'
   exact ⟨ys,es,sm _ _ q1,by rw [List.getElem?_set_ne (Ne.symm ne)];exact q2,by rw [List.getElem?_set_ne (Ne.symm ne)];exact q3,q4.mono sm2⟩
 ·by_cases hj:j=i
  ·subst hj;exact ⟨a,.head _⟩
  ·rw [List.getElem?_set_ne (Ne.symm hj)] at e
   obtain ⟨b,hb⟩:=S.own j es e
   exact ⟨b,.tail _ (List.mem_filter.mpr ⟨hb,by simpa using hj⟩)⟩
 ·rcases List.mem_cons.mp h1 with q1 | q1<;>rcases List.mem_cons.mp h2 with q2 | q2
  ·cases q1;cases q2;rfl
  ·cases q1;exact absurd rfl (naos _ (aH os i _ q2).1)
  ·cases q2;exact absurd rfl (naos _ (aH os i _ q1).1)
  ·exact S.inj j k b (aH os i _ q1).1 (aH os i _ q2).1
theorem wU {pins:List ↥10} {s:Shared} {i:Nat} {y:Str} {py:Pos} {a C:Addr} {m:Str->Option Value} (Cx:Sx X N) (hN:N[i]? = some y) (hy:Sto X y) (I:Inv X pins σ H s) (fC:wa X pins H C) (ns:s.heap.Ns C m) :
  wpAny ↥4 X.A (assign (.Name y py) X.env (.ref a)) (fun _ s2=>∃ m,s2.heap.Ns C m/\∀ h',Heap.SameBut C s2.heap h'->Inv X pins (σ.set i (some (.ref a))) H { s2 with heap:=h' }) X.xe s:=by
 obtain ⟨o,es,ep,ho,hd,hk⟩:=id ns
 have Ip:=I.pinned (fp:=[C]) (fun b hb=>by rw [List.mem_singleton] at hb;rw [hb];exact fC) (fun b hb=>by
  rw [List.mem_singleton] at hb
  rw [hb]
  exact ⟨o,ho,fun v z=>by rw [hd] at z;cases z⟩)
 refine thn (rN (X:=X) (pos:=py) (i:=i) (x:=y) (by rw [Cx.sc.n];exact Cx.sc.nd) (by rw [Cx.sc.n];exact hN) hy.1 hy.2 _ s σ H (.ref a) (.ref a) (fun σ6 H6=>σ6=σ.set i (some (.ref a))/\H6=H) Ip rfl ⟨rfl,rfl⟩) fun _ s2 ⟨σ6,H6,I6,e6,e7⟩ => ?_
 subst e6 e7
 have hp:=(I6.pin (C,o) (List.mem_append_right _ (List.mem_append_right _ (cZ (List.mem_singleton.mpr rfl) ho)))).1
 refine ⟨m,ns.at' fun o' e' => ?_,fun h' sb => ?_⟩
 ·rw [ho] at e'
  cases e'
  exact hp
 ·obtain ⟨f0,f1,f2,f3,f4,f5⟩:=fC
  exact I6.unpinned.turned (t':=s2.toks) (fun b o hb e=>(sb.2 b hb).trans e) f0 f1 f3 f4 f5
variable {e c k v:Expr} {g gc gk gv:E} {pos:Pos} {st:Stmt} {body els:List Stmt} {gs gb ge:S}
theorem AQ (hc:ST X c gc) (ha:SSs X body gb) (hb:SSs X els ge):SS X (.If c body els pos) (C0 gc gb ge) :=
 PS.weak (EM (GA hc) ha hb) fun D σ H ⟨δ,os,S,q⟩=>⟨δ,os,S,FT.then q fun b H' S' s q'=>by
  cases b with
  | true=>exact G8 ⟨δ,os,S',by simpa using q'⟩
  | false=>exact F9 ⟨δ,os,S',by simpa using q'⟩⟩
theorem CH (C:Sx X N) (i:Nat) (hN:N[i]? = some x) (hx:Sto X x) (h:SE X e g) (hsw:swapsWith e (some (.Name x pos')) pos.line X.env=pure false:=by rfl):SS X (.Assign [.Name x pos'] e pos) (fP i g) :=
 PS.weak (p7 (i:=i) (by rw [C.sc.n];exact C.sc.nd) (by rw [C.sc.n];exact hN) hx.1 (sQ h) hsw hx.2) fun D σ H ⟨δ,os,S,q⟩=>by
  unfold fP GV at q
  refine ⟨δ,os,S,fun d ed => ?_,?_⟩
  ·rw [ed] at q
   simp only at q
   split at q
   ·assumption
   ·exact False.elim q
  ·cases r:g (view δ) with
   | ok d =>
    rw [r] at q
    simp only at q
    split at q
    ·intro v H' S' s rp
     obtain ⟨S2,s2⟩:=S'.set (i:=i) rp
     exact q _ _ _ S2 (s.trans s2)
    ·exact False.elim q
   | ex C=>rw [r] at q;exact fun Ca hc H' s' st=>q σ H' s' st Ca hc
   | bad=>rw [r] at q;exact False.elim q
theorem kC (hS:env.scope=sc0)
  (h:((if sc0.kind.isAnnotationScope then ScopeKind.function else sc0.kind) == ScopeKind.function&&sc0.names.lookup t == some NameKind.local&&pt.line == (Expr.ListComp elt gens sc pos).pos.line && !(sc.names.any fun (n,k)=>n == t&&(k == .local||k == .cell)))=true) :
  swapsWith (.ListComp elt gens sc pos) (some (.Name t pt)) line env=pure true:=by
 subst hS
 show (pure ((if env.scope.kind.isAnnotationScope then ScopeKind.function else env.scope.kind) == ScopeKind.function&&env.scope.names.lookup t == some NameKind.local&&pt.line == (Expr.ListComp elt gens sc pos).pos.line && !(sc.names.any fun (n,k)=>n == t&&(k == .local||k == .cell))):Sem Bool)=pure true
 rw [h]
theorem vo (Cx:Sx X N) (hc:X.calm=true) (i:Nat) {y:Str} {py spos:Pos} (hN:N[i]? = some y) (hy:Sto X y) {xs ksn G:List Str} {ks:List Nat} {tg elt iter:Expr} {ifs:List Expr} {sc:Scope} {git:IT} {gt ge' ce:E} {pt:EV.D->Option (List EV.D)} {gT:TG} (CE:CompOf ce git pt gt ge' ks) (SC:ScU xs ksn G sc)
  (hks:ks.map (fun k=>N.getD k "")=ksn) (hlt:∀ k∈ks,k<N.length) (hcell:∀ y∈ksn,X.env.scope.names.lookup y=some .cell)
  (he:SI X tg iter git) (TT:Tgt X xs.length pt gT)
  (htg:∀ C fp s H W,Sc ↥7 (xs++ksn)->↥34->PG ↥7 tg gT)
  (htst:∀ C fp s H W,Sc ↥7 (xs++ksn)->(∀ y∈G,Gb ↥7 y)->Tst ↥7 ifs gt)
  (helt:∀ C fp s H W,Sc ↥7 (xs++ksn)->(∀ y∈G,Gb ↥7 y)->SE ↥7 elt ge')
  (hsw:swapsWith ↥30 (some (.Name y py)) spos.line X.env=pure true)
  (hs:∀ z,foldedSetIterable iter X.env z=pure z) :
  SS X (.Assign [.Name y py] ↥30 spos) (fH i ce):=by
 intro pins s σ H D I ⟨δ,os,S,q⟩
 have hi:i<σ.length:=by
  rw [I.len,Cx.sc.n]
  exact (List.getElem?_eq_some_iff.mp hN).1
 unfold fH AF at q
 rw [exec_Assign_Name_used _ _ _ _ hsw]
 refine wpAny_bind (wpAny_standAt (wpAny_bind ?_))
 show wpAny _ X.A (do let _<-comprehension ↥30 sc X.env _ (newList []) false (eval iter X.env) (some (assign (.Name y py) X.env))) _ _ s
 refine wpAny_bind (wpAny_mono (nh (Q:=fun _ _=>True) (Qf:=fun _ s'=>SP X pins D .next s') hc Cx.sc CE SC hks hlt hcell he TT htg htst helt hs (use:=some (assign (.Name y py) X.env)) I S.view ?_ ?_) (fun _ s' hq=>wpAny_pure (wpAny_pure hq)) fun _ _ e=>e)
 ·cases r:ce (view δ) with
  | ok d=>exact fun _ _ _ _=>trivial
  | ex C=>rw [r] at q;exact fun Ca hc H' s'=>q σ H' ((az H os).trans s') (S.noOwn ((az H os).trans s')) Ca hc
  | bad=>rw [r] at q;exact False.elim q
 ·intro s1 Hc A C ys rs e1 fl hA hAc rr sm _ fC I1 ⟨m,ns⟩ _
  rw [e1] at q
  obtain ⟨S2,sm2⟩:=S.adopt sm hi hA hAc rr fl
  refine thn (wU (a:=A) (py:=py) Cx hN hy I1 fC ns) fun _ s2 ⟨m2,ns2,hq⟩=>⟨m2,ns2,fun h' sb=>⟨_,Hc,hq h' sb,q _ _ _ S2 sm2⟩⟩
theorem kK (Cx:Sx X N) (hc:X.calm=true) (i:Nat) {y:Str} {py spos:Pos} (hN:N[i]? = some y) (hy:Sto X y) {x:Str} {ksn G:List Str} {ks:List Nat} {elt iter:Expr} {ifs:List Expr} {px:Pos} {sc:Scope} {git:IT} {gt ge':E} (SC:ScU [x] ksn G sc)
  (hks:ks.map (fun k=>N.getD k "")=ksn) (hlt:∀ k∈ks,k<N.length) (hcell:∀ y∈ksn,X.env.scope.names.lookup y=some .cell)
  (he:SI X (.Name x px) iter git)
  (htst:∀ C fp s H W,Sc ↥16 ([x]++ksn)->(∀ y∈G,Gb ↥16 y)->Tst ↥16 ifs gt)
  (helt:∀ C fp s H W,Sc ↥16 ([x]++ksn)->(∀ y∈G,Gb ↥16 y)->SE ↥16 elt ge')
  (hsw:swapsWith (.ListComp elt [⟨.Name x px,iter,ifs,0⟩] sc pos) (some (.Name y py)) spos.line X.env=pure true)
  (hs:∀ z,foldedSetIterable iter X.env z=pure z:=by intro _;rfl) :
  SS X (.Assign [.Name y py] (.ListComp elt [⟨.Name x px,iter,ifs,0⟩] sc pos) spos) (fH i (fN git ks gt ge')) :=
 vo Cx hc i hN hy qv SC hks hlt hcell he ME tg1 htst helt hsw hs
end
end ES
namespace ES
open PySem PySem.Spec PyProof.Rows L2 EV
unseal SE ST SW SA SS SSs SI SO
def RF (X:Cx) (σ:L2.St) (H:Hp) (r:R D) (Q:VK):Prop:=match r with
 | .ok (.lst rs)=>∀ a xs H',ao H H'->H a=none->H' a=some (.lst xs)->Reps X.K X.mg H' xs rs->EV.D.flats rs=true->Q (.ref a) H'
 | .ex C=>∀ Ca,X.mg C=some (.ref Ca)->∀ H',ao H H'->ew X Ca σ H'
 | _=>False
def FE (X:Cx) (e:Expr) (g:E):Prop:=PE X e fun σ H Q=>∃ δ,Stt X.K X.mg H σ δ/\RF X σ H (g δ) Q
def OQF (X:Cx) (D:Ends) (F:Hp):O->Prop
 | .rt (.lst rs)=>∀ a xs H,ao F H->F a=none->H a=some (.lst xs)->Reps X.K X.mg H xs rs->EV.D.flats rs=true->D.rt (.ref a) H
 | .rt _=>False
 | o=>OQ X D F o
def tSF (X:Cx) (g:S):TS:=fun D σ H=>∃ δ os,StO X H σ δ os/\OQF X D ↥20 (g δ)
@[irreducible] def SSF (X:Cx) (st:List Stmt) (g:S):Prop:=PSs X st (tSF X g)
unseal SSF
section
variable {X:Cx} {N:List Str}
variable {st:Stmt} {rest:List Stmt} {gs gr:S} {e:Expr} {g:E} {pos:Pos}
theorem wV {H Hc:Hp} {os:Os} (hn:∀ a∈jj os,Hc a=none):ao Hc (eB H Hc os):=fun b o q=>by
 unfold eB
 rw [if_neg fun z=>by rw [hn b z] at q;cases q]
 exact q
end
theorem Bw:∀ δ d,raise C δ ≠ .rt d:=fun δ d z=>by cases z
theorem FJ:∀ δ d,aA δ ≠ .rt d:=fun δ d z=>by cases z
theorem Ju (ha:∀ δ d,a δ ≠ .rt d) (hb:∀ δ d,b δ ≠ .rt d):∀ δ d,ifs c a b δ ≠ .rt d:=fun δ d z=>by
 unfold ifs ifO at z
 split at z
 ·exact ha δ d z
 ·exact hb δ d z
 ·cases z
 ·cases z
def spF (K:PySem.W.Frag) (mg:Str->Option Value) (f:List D->R D):Sp:=fun vs H Q E=>∃ ds,Reps K mg H vs ds/\match f ds with
 | .ok (.lst rs)=>∀ a xs H',ao H H'->H a=none->H' a=some (.lst xs)->Reps K mg H' xs rs->EV.D.flats rs=true->Q (.ref a) H'
 | .ex C=>∀ Ca,mg C=some (.ref Ca)->∀ H',ao H H'->E (.ref Ca) none H'
 | _=>False
structure FnF (P:Program) (w:World) (K:PySem.W.Frag) (mg:Str->Option Value) (base:Heap) (x:Str) (k:Nat) (f:List D->R D):Prop where
 ex:∃ fa fd ps,FnOk P w K mg base (CXF P w) k fa fd ps (spF K mg f)/\mg x=some (.ref fa)/\PySem.W.keepIn K (.ref fa)=true/\Binds K fd ps []
structure CalleeF (X:Cx) (x:Str) (f:List D->R D):Prop where
 ex:∃ k fa fd ps,FnOk X.prog X.w X.K X.mg X.base (CXF X.prog X.w) k fa fd ps (spF X.K X.mg f)/\Room k X.A/\X.mg x=some (.ref fa)/\PySem.W.keepIn X.K (.ref fa)=true/\Binds X.K fd ps []
section
variable {X:Cx} {N:List Str} {x:Str} {f:List D->R D} {e:Expr} {es:List Expr} {gs:List E} {p pos:Pos} {g:E}
theorem kJ (C:Sx X N) (i:Nat) {y:Str} {pos':Pos} (hN:N[i]? = some y) (hy:Sto X y) (h:FE X e g) (hsw:swapsWith e (some (.Name y pos')) pos.line X.env=pure false:=by rfl):SS X (.Assign [.Name y pos'] e pos) (fG i g):=by
 intro pins s σ H D I ⟨δ,os,S,q⟩
 have hi:i<σ.length:=by
  rw [I.len,C.sc.n]
  exact (List.getElem?_eq_some_iff.mp hN).1
 have hl:=S.lsts
 unfold fG AF at q
 refine wpAny_Assign_Name (thn (h _ s σ _ (fun v Hc=>∃ a xs rs,v=.ref a/\g δ=.ok (.lst rs)/\ao ↥20 Hc/\hide H os a=none/\Hc a=some (.lst xs)/\Reps X.K X.mg Hc xs rs/\EV.D.flats rs=true) (kd I hl) ⟨δ,S.st,?_⟩) fun u s1 ⟨v,Hc,I1,rv,a,xs,rs,ev,eg,sm,hn,ha,rr,fl⟩ => ?_) hsw
 ·cases r:g δ with
  | ok d =>
   rw [r] at q
   cases d with
   | lst rs=>exact fun a xs H' sm hn ha rr fl=>⟨a,xs,rs,rfl,rfl,sm,hn,ha,rr,fl⟩
   | _=>exact False.elim q
  | ex C=>rw [r] at q;exact fun Ca hc H' s'=>q σ H' s' (S.noOwn s') Ca hc
  | bad=>rw [r] at q;exact False.elim q
 ·obtain ⟨I2,hz⟩:=j9 C.ex I hl I1
  rw [eg] at q
  subst ev
  have ss:=wV (H:=H) hz
  have na:a∉jj os:=fun z=>by rw [hz a z] at ha;cases ha
  have sH:ao H (eB H Hc os):=fun b o e=>by
   unfold eB
   by_cases hb:b∈jj os
   ·rw [if_pos hb];exact e
   ·rw [if_neg hb]
    exact sm b o (by rw [aZ hb];exact e)
  obtain ⟨S2,sm2⟩:=S.adopt (i:=i) sH hi (by rw [aZ na] at hn;exact hn) (ss a _ ha) (rr.mono ss) fl
  exact j1 I2 (by rw [C.sc.n];exact C.sc.nd) (by rw [C.sc.n];exact hN) hy.1 rv (fun s2 I3=>⟨_,_,I3,q _ _ _ S2 sm2⟩) hy.2
end
end ES
namespace EV
def KD (gs:List E):E:=fun δ=>(evs gs δ).bind cD
def pG (k:Int):List D->R D
 | [.lst ds]=>match intsOf ds with
  | some []=>.ok (.int k)
  | some (n::ns)=>.ok (.int (ns.foldl min n))
  | none=>.bad
 | _=>.bad
def nt:List D->R D
 | [.lst ds]=>cD ds
 | [.tup ds]=>cD ds
 | _=>.bad
def boolsOf:List D->Option (List Bool)
 | []=>some []
 | .bl b::r=>(boolsOf r).map (b::·)
 | _=>none
def GP:List D->R D
 | [.lst ds]=>match boolsOf ds with | some bs=>.ok (.bl (bs.any id)) | none=>.bad
 | _=>.bad
def G9 (i:Nat) (δ:Dt) (ds:List D) (r:R D):O:=match r with
 | .ok (.tup es)=>if D.flats es=true/\ds.length+es.length<=100000 then .nx (δ.set i (some (.own (ds++es)))) else .bad
 | .ex C=>.ex C (noOwn δ)
 | _=>.bad
def jm (i:Nat) (g:E):S:=fun δ=>gB i δ fun ds=>G9 i δ ds (g (view δ))
theorem Cv:KD gs δ=(evs gs δ).bind cD:=rfl
theorem Av:jm i g δ=gB i δ fun ds=>G9 i δ ds (g (view δ)):=rfl
end EV
namespace ES
open PySem PySem.Spec PyProof.Rows L2 EV
unseal SE ST SW SA SS SSs SI SO
section
variable {X:Cx} {N:List Str} {e:Expr} {g:E} {pos:Pos}
theorem Mo (h:SA X es gs) (hl:es.length<=1000) (hg:gs.length=es.length:=by rfl):FE X (.List es pos) (KD gs) :=
 PE.weak (xu h) fun σ H Q ⟨δ,hσ,q⟩=>⟨δ,hσ,by
  unfold KD at q
  cases e:evs gs δ with
  | ok ds =>
   have hd:ds.length=gs.length:=bB.evs_len e
   rw [e] at q
   simp only [R.bind,cD] at q
   refine fun vs H1 s1 rs=>⟨by rw [rs.length,hd,hg];exact Nat.le_of_lt (gY hl),fun p hp => ?_⟩
   split at q
   ·rename_i fl
    have q':∀ a xs H',ao H H'->H a=none->H' a=some (.lst xs)->Reps X.K X.mg H' xs ds->EV.D.flats ds=true->Q (.ref a) H':=q
    exact q' p vs _ (s1.trans (ar hp _)) (by
     cases z:H p with
     | none=>rfl
     | some o=>rw [s1 p o z] at hp;cases hp) au (rs.mono (ar hp _)) fl
   ·exact False.elim q
  | ex C=>rw [e] at q;exact q
  | bad=>rw [e] at q;exact False.elim q⟩
end
end ES
namespace ES
open PySem PySem.Spec PyProof.Rows L2 EV
unseal SE ST SW SA SS SSs SI SO
section
variable {prog:Program} {w:World} {A:Around} {R:Result->Shared->Prop} {I:Addr} {fp wr:List Addr} {n:Nat} {P:Nat->Value->Prop} {St:Nat->Heap->Prop}
abbrev dfl (d:Value):List (Str×Value):=[(Str.ofString "default",d)]
theorem oQ:(toString "min"++toString ".loop":String)="min.loop":=by decide
theorem yj (W:Walks prog w A.in1 I fp wr n P St) (bt:Nat->Nat->Bool) (hcmp:CmpOf prog w A.in1 .Lt P bt) (S:Addr) (hSf:S∉fp) :
  ∀ (k j:Nat) (s:Shared) (vb:Value) (c:Nat),n - (j+1)=k->j+1<=n->St (j+1) s.heap->P (argBest bt j) vb->s.heap.get? S=some { cls:=.type "list",dict:=none,data:=.seq #[vb,vb] c,slots := #[] } ->
   (∀ v h' tk,P (argBest bt (n - 1)) v->(∀ b o,b∉wr->b≠S->s.heap.get? b=some o->h'.get? b=some o)->R (.ok (.ret v)) { s with heap:=h',toks:=tk }) ->
   codeAny ↥17 A (.builtin "min.loop" ⟨[.ref I,.none,.ref S],dfl d⟩) R s:=by
 have hSw:S∉wr:=fun z=>hSf (W.sub _ z)
 intro k
 induction k with
 | zero =>
  intro j s vb c hk hj hst hPb hS hR
  have hin:j+1=n:=⋯
  refine codeAny_builtin PySem.F.entry_min_loop ?_;rw [Around.under_plainId PySem.F.plain_min_loop _]
  (show wpAny _ A.in1 (seqItems? (.ref S) >>= _) _ _ s);refine wpAny_bind (wpAny_seqItems hS rfl ?_)
  (show wpAny _ A.in1 (tryCatch (pyNext (.ref I)) _ >>= _) _ _ s);refine wpAny_bind (wpAny_tryCatch (W.done s _ _ (hin▸hst) fun h' tk hk' => ?_))
  have hS':=hk' S _ hSw hS
  (show wpAny _ A.in1 (updateSeq S (fun _ => #[]) >>= _) _ _ _);refine wpAny_bind ?_;refine wpAny_updateSeq hS' rfl (wpAny_bind (wpAny_letGo (wpAny_pure ?_)))
  exact hR vb _ tk (by rw [<- hin];exact hPb) fun b o hbw hbS e=>(Heap.get?_update_other _ _ (Ne.symm hbS)).trans (hk' b o hbw e)
 | succ k ih =>
  intro j s vb c hk hj hst hPb hS hR
  have hlt:j+1<n:=⋯
  refine codeAny_builtin PySem.F.entry_min_loop ?_;rw [Around.under_plainId PySem.F.plain_min_loop _]
  (show wpAny _ A.in1 (seqItems? (.ref S) >>= _) _ _ s);refine wpAny_bind (wpAny_seqItems hS rfl ?_)
  (show wpAny _ A.in1 (tryCatch (pyNext (.ref I)) _ >>= _) _ _ s);refine wpAny_bind (wpAny_tryCatch (W.item (j+1) s _ _ hlt hst fun v h' tk hP hst' hk' => ?_))
  have hS':=hk' S _ hSw hS
  (show wpAny _ A.in1 (tryCatch (holding [v,v] (richCompare .Lt v vb >>= _)) _ >>= _) _ _ _);refine wpAny_bind (wpAny_tryCatch (wpAny_holding (wpAny_bind (hcmp (j+1) (argBest bt j) v vb _ _ _ hP hPb ?_))))
  refine wpAny_bind (wpAny_holding (wpAny_truthy_bool ?_));refine wpAny_bind (wpAny_letGo (wpAny_pure ?_))
  cases hb:bt (j+1) (argBest bt j) with
  | true =>
   simp only [if_true];refine wpAny_bind ?_;refine wpAny_updateSeq hS' rfl (wpAny_bind (wpAny_letGo ?_));rw [oQ]
   refine wpAny_pure ⟨plainId_quiet PySem.F.plain_min_loop _,ih (j+1) _ v _ ⋯ hlt (W.frame _ _ _ hst' fun b hbf o e => ?_) (by simp only [argBest,hb,if_true];exact hP) (Heap.get?_update_self _ hS' rfl) fun v' h'' tk'' hP' hk'' => ?_⟩
   ·exact (Heap.get?_update_other _ _ (fun z:S=b=>hSf (by rw [z];exact hbf))).trans e
   ·exact hR v' h'' tk'' hP' fun b o hbw hbS e=>hk'' b o hbw hbS ((Heap.get?_update_other _ _ (Ne.symm hbS)).trans (hk' b o hbw e))
  | false =>
   simp only [Bool.false_eq_true,if_false];refine wpAny_bind (wpAny_letGo ?_);rw [oQ]
   exact wpAny_pure ⟨plainId_quiet PySem.F.plain_min_loop _,ih (j+1) _ vb c ⋯ hlt hst' (by simp only [argBest,hb,Bool.false_eq_true,if_false];exact hPb) hS' fun v' h'' tk'' hP' hk''=>hR v' h'' tk'' hP' fun b o hbw hbS e=>hk'' b o hbw hbS (hk' b o hbw e)⟩
theorem vC (W:Walks prog w A.in1 I fp wr n P St) (bt:Nat->Nat->Bool) (hcmp:CmpOf prog w A.in1 .Lt P bt) (S:Addr) (hSf:S∉fp) (hst:St 0 s.heap)
  (hS:s.heap.get? S=some { cls:=.type "list",dict:=none,data:=.seq #[] c,slots := #[] })
  (h0:n=0->∀ h' tk,(∀ b o,b∉wr->s.heap.get? b=some o->h'.get? b=some o)->R (.ok (.ret d)) { s with heap:=h',toks:=tk })
  (hR:0<n->∀ v h' tk,P (argBest bt (n - 1)) v->(∀ b o,b∉wr->b≠S->s.heap.get? b=some o->h'.get? b=some o)->R (.ok (.ret v)) { s with heap:=h',toks:=tk }) :
  codeAny ↥17 A (.builtin "min.loop" ⟨[.ref I,.none,.ref S],dfl d⟩) R s:=by
 have hSw:S∉wr:=fun z=>hSf (W.sub _ z)
 refine codeAny_builtin PySem.F.entry_min_loop ?_;rw [Around.under_plainId PySem.F.plain_min_loop _]
 (show wpAny _ A.in1 (seqItems? (.ref S) >>= _) _ _ s);refine wpAny_bind (wpAny_seqItems hS rfl ?_)
 by_cases hn:n=0
 ·(show wpAny _ A.in1 (tryCatch (pyNext (.ref I)) _ >>= _) _ _ s);refine wpAny_bind (wpAny_tryCatch (W.done s _ _ (hn▸hst) fun h' tk hk' => ?_))
  (show wpAny _ A.in1 (rule _ >>= _) _ _ _);refine wpAny_bind (wpAny_rule (wpAny_pure ?_))
  exact h0 hn h' tk hk'
 ·(show wpAny _ A.in1 (tryCatch (pyNext (.ref I)) _ >>= _) _ _ s);refine wpAny_bind (wpAny_tryCatch (W.item 0 s _ _ ⋯ hst fun v h' tk hP hst' hk' => ?_))
  have hS':=hk' S _ hSw hS
  (show wpAny _ A.in1 (updateSeq S (fun _ => #[v,v]) >>= _) _ _ _);refine wpAny_bind ?_;refine wpAny_updateSeq hS' rfl ?_;rw [oQ]
  refine wpAny_pure ⟨plainId_quiet PySem.F.plain_min_loop _,yj W bt hcmp S hSf _ 0 _ v _ rfl ⋯ (W.frame _ _ _ hst' fun b hbf o e => ?_) hP (Heap.get?_update_self _ hS' rfl) fun v' h'' tk'' hP' hk'' => ?_⟩
  ·exact (Heap.get?_update_other _ _ (fun z:S=b=>hSf (by rw [z];exact hbf))).trans e
  ·exact hR ⋯ v' h'' tk'' hP' fun b o hbw hbS e=>hk'' b o hbw hbS ((Heap.get?_update_other _ _ (Ne.symm hbS)).trans (hk' b o hbw e))
end
section
variable {prog:Program} {w:World} {A:Around} {E:Value->Shared->Prop} {s:Shared} {l:Addr} {xs:Array (Int×Tok)}
theorem F4 (h1:builtinKind i=none) (h2:plainId i=true) (h3:entryFor table i=some f) (h4:argsOk i ⟨us,ks⟩)
  (h:wpAny ↥17 A.in1 (f ⟨us,ks⟩) (fun x s'=>match x with | .done r=>(match (Except.ok r:Result) with | .ok (.ret v)=>Q v s' | .ok _=>False | .error e=>E e s') | .again c=>c.quiet=true/\codeAny ↥17 A c (fun r s'=>match r with | .ok (.ret v)=>Q v s' | .ok _=>False | .error e=>E e s') s') E s) :
  wpAny ↥17 A (call (.builtin i) us ks) Q E s:=by
 refine wpAny_call (codeAny_call_builtin h2 h3 ?_);simp only [checkBuiltinCall,h1]
 cases q:Manifest.signature? i with
 | none=>exact wpAny_pure h
 | some sg=>simp only [show Bind.checkArgs i sg ⟨us,ks⟩=pure () by simpa only [argsOk,q] using h4];exact wpAny_pure h
theorem zw (a v:Value):argsOk "min" ⟨[a],dfl v⟩:=by unfold argsOk;kernel_rfl
theorem yk (hh:A.handled=none) (hl:s.heap.IsList l (intItems xs))
  (h:∀ v h' tk,(xs.size=0/\v=d\/0<xs.size/\(intItems xs)[argBest (fun i j=>decide (numAt xs i<numAt xs j)) (xs.size - 1)]? = some v)->(∀ b o,s.heap.get? b=some o->h'.get? b=some o)->Q v { s with heap:=h',toks:=tk }) :
  wpAny ↥17 A (call (.builtin "min") [.ref l] (dfl d)) Q E s:=by
 refine F4 PySem.F.kind_min PySem.F.plain_min PySem.F.entry_min (zw _ _) ?_
 (show wpAny _ A.in1 (Builtin.Builtins.bindParams "min" ["key","default"] 0 ⟨[],dfl d⟩ >>= _) _ _ s);refine wpAny_bind (wpAny_of_eq (show Builtin.Builtins.bindParams "min" ["key","default"] 0 ⟨[],dfl d⟩=pure [none,some d] from rfl) ?_)
 refine wpAny_bind (wpAny_pure ?_);refine wpAny_bind (iter_intList hl fun s₂ e st hfp hlI => ?_)
 subst e
 refine wpAny_bind (wpAny_newObj_type ?_);rw [oQ]
 have hz:(intItems xs).size=xs.size:=by simp [intItems]
 refine wpAny_pure ⟨plainId_quiet PySem.F.plain_min_loop _,vC (Walks.list (A:=A.in1) hh _ l hlI (intItems xs)) _ (CmpOf.ints_lt (numAt xs) (fun _ _=>intItems_at)) _ (fun z=>Nat.lt_irrefl _ (hfp _ z)) ((Walks.list (prog:=prog) (w:=w) (A:=A.in1) hh _ l hlI (intItems xs)).frame _ _ _ st fun b _ o e=>Heap.get?_push_of_some _ e) (Heap.get?_push_size _ rfl) (fun z h' tk hk => ?_) fun z v h' tk hP hk => ?_⟩
 ·exact h d h' tk (.inl ⟨by rw [<- hz];exact z,rfl⟩) (old_kept (l:=l) fun b o hb e=>hk b o hb (Heap.get?_push_of_some _ e))
 ·exact h v h' tk (.inr ⟨by rw [<- hz];exact z,by rw [<- hz];exact hP⟩) (old_kept (l:=l) fun b o hb e=>hk b o hb (Nat.ne_of_lt (Heap.lt_size e)) (Heap.get?_push_of_some _ e))
end
theorem uH {f:Nat->Int} {n:Int} {ns:List Int} (h0:f 0=n) (h1:∀ i,i<ns.length->ns[i]? = some (f (i+1))):∀ k,k<=ns.length->f (argBest (fun i j=>decide (f i<f j)) k)=(ns.take k).foldl min n
 | 0,_=>by rw [List.take_zero];exact h0
 | k+1,hk=>by
  have ih:=uH h0 h1 k ⋯
  rw [List.take_succ,h1 k ⋯,List.foldl_append]
  show f (if decide (f (k+1)<f (argBest _ k))=true then k+1 else argBest _ k)=min ((ns.take k).foldl min n) (f (k+1))
  rw [<- ih]
  by_cases g:f (k+1)<f (argBest (fun i j=>decide (f i<f j)) k)
  ·rw [if_pos (by simpa using g)];omega
  ·rw [if_neg (by simpa using g)];omega
section
variable {X:Cx} {N:List Str} {e:Expr} {g:E} {pos:Pos}
theorem Jq:NoX (pG k):=fun ds C z=>by
 unfold pG at z
 split at z
 ·split at z<;>cases z
 ·cases z
theorem Ke (hc:X.calm=true) {k:Int} {t:Tok} (pins:List ↥10) (s:Shared) (σ:L2.St) (H:Hp) (xs:List V) (us:List Value) (Q:VK) (I:Inv X pins σ H s) (rs:Vals xs us) (h:rC X (pG k) xs H Q) :
  wpAny ↥4 X.A (call (.builtin "min") us (dfl (.int k t))) (EP X pins σ Q) X.xe s:=by
 obtain ⟨ds,d,r,e,q⟩:=h
 unfold pG at e
 split at e
 ·rename_i ds'
  cases hns:intsOf ds' with
  | none=>rw [hns] at e;cases e
  | some ns =>
   obtain ⟨v,rfl,r1⟩:=mD r
   cases r1 with
   | @lst a ys _ hq rr =>
    obtain ⟨its,rv,pl,_⟩:=I.list hq
    obtain ⟨ts,e1,e2⟩:=lD hns rr rv
    cases rs with
    | cons h1 h2 =>
     cases h2
     cases h1
     have hl:s.heap.IsList a (intItems ts.toArray):=by
      have:=pl.isList
      rw [e1] at this
      rw [show intItems ts.toArray=(ts.map fun p=>Value.int p.1 p.2).toArray by simp [intItems]]
      exact this
     refine yk (I.ok.hd hc) hl fun v h' tk hv hk => ?_
     have fin:∀ (m:Int) (t':Tok),v=.int m t'->d=.int m->EP X pins σ Q v { s with heap:=h',toks:=tk }:=fun m t' ev ed=>by
      subst ev ed
      exact ⟨.int m,H,I.kept (t':=tk) hk,⟨_,rfl⟩,q _ _ ↥21 (.int _)⟩
     have hlen:ts.length=ns.length:=by rw [<- e2,List.length_map]
     cases ns with
     | nil =>
      rw [hns] at e
      rcases hv with ⟨_,hv⟩ | ⟨z,_⟩
      ·exact fin k t hv (R.ok.inj e).symm
      ·rw [List.size_toArray,hlen] at z;exact absurd z (Nat.lt_irrefl 0)
     | cons n ns =>
      rw [hns] at e
      rcases hv with ⟨z,_⟩ | ⟨_,hv⟩
      ·rw [List.size_toArray] at z;rw [z] at hlen;cases hlen
      ·obtain ⟨t',ev⟩:=intItems_at hv
       have at_:∀ i,numAt ts.toArray i=((n::ns)[i]?).getD 0:=fun i=>by
        rw [<- e2];unfold numAt;simp
       have bm:=uH (f:=numAt ts.toArray) (n:=n) (ns:=ns) (by rw [at_];rfl) (fun i hi=>by rw [at_];simp [List.getElem?_eq_getElem hi]) ns.length ↥23
       rw [List.take_length] at bm
       have hs:ts.toArray.size - 1=ns.length:=by rw [List.size_toArray,hlen,List.length_cons];omega
       rw [hs,bm] at ev
       exact fin _ t' ev (R.ok.inj e).symm
 ·cases e
theorem J2 (hc:X.calm=true) (G:Gb X "min") (hm:X.mg "min"=none) {j} (ha:SA X [e] [g])
  (he:backTo pos (starEach [e] X.env)=↥25::backTo pos (starEach [] X.env):=by rfl) (hpl:(backTo pos (starEach [e] X.env)).any (·.1)=false:=by rfl) :
  SE X (.Call (.Name "min" p) [e] [⟨some "default",.Constant (.int k) j cp,kp⟩] pos) (EV.call (pG k) [g]):=by
 intro pins s σ H Q I ⟨δ,hσ,q⟩
 refine wpAny_Call_Name_kw (ql I G.g hm boot_min ?_ G.n G.d)
 refine callWith_kw (thn (ha pos pins s σ H (fun vs H'=>∃ ds,ao H H'/\Reps X.K X.mg H' vs ds/\RQ X σ H' (pG k ds) Q) I ⟨δ,hσ,?_⟩) fun us s1 ⟨vs,H1,I1,r1,ds,s01,rp,q1⟩ => ?_) he hpl
 ·exact (RA.bind q).to fun vs H' s ⟨s',ds,rs,q⟩=>⟨ds,s',rs,q⟩
 ·refine kws_cons (thn (af pins s1 σ H1 (fun v H'=>v=.int k/\ao H1 H') I1 ⟨δ,hσ.mono s01,fun v H' s' r=>by cases r;exact ⟨rfl,s'⟩⟩) fun u s2 ⟨v,H2,I2,rv,ev,sm⟩=>kws_nil ?_)
  subst ev
  obtain ⟨t,rfl⟩:=rv
  obtain ⟨ds',d,r,e',q'⟩:=RQ.cl Jq rp q1
  exact Ke hc pins s2 σ H2 vs us Q I2 r1 ⟨ds',d,r.mono sm,e',fun v H' s'=>q' v H' (sm.trans s')⟩
end
end ES
namespace ES
open PySem PySem.Spec PyProof.Rows L2 EV
unseal SE ST SW SA SS SSs SI SO
set_option maxRecDepth 8000 in
theorem Gm (a:Addr) (xs:Array Value) (k:Nat) (t:Addr) (ys:Array Value) (m:Nat) (dd:Option Addr) (sl:Array (Option Value)) (z0:¬(!xs.isEmpty&&Builtin.List.listTooLong (xs.size+ys.size))=true) (z1:xs.size<=sizeLine) (z2:xs.size+ys.size<=sizeLine+1) :
  Meets (Builtin.«list.extend» ⟨[.ref a,.ref t],[]⟩) (fun _ R s=>s.heap.get? a=some { cls:=.type "list",dict:=none,data:=.seq xs k,slots := #[] }/\s.heap.get? t=some { cls:=.type "tuple",dict:=dd,data:=.seq ys m,slots:=sl }/\R (.ok (.ret Value.none)) { s with heap:=s.heap.update a (Obj.mapSeq fun x=>x++ys),toks:=s.toks }) :=
 .of_wp fun prog w A R s q=>by
  obtain ⟨hp,g,d,tk,os⟩:=s;obtain ⟨ha,ht,q⟩:=q;have f1:=PySem.AutoSeq1.idx_int;have f2:=PySem.AutoSeq1.sub_tuple_tuple;have f3:=PySem.AutoSeq1.sub_list_list;have f4:=PySem.AutoSeq1.sub_tuple_list;have f5:=PySem.AutoSeq1.sub_list_tuple
  have z3:(xs++ys).size<=sizeLine+1:=by rw [Array.size_append];exact z2
  wp_walk using (wpAny_updateSeq ha rfl (hz:=z1) (_hz':=z3)),PySem.AutoSeq1.wpAny_loadPart' ha,PySem.AutoSeq1.wpAny_loadPart' ht;exact ⟨_,rfl,q⟩
section
variable {X:Cx} {N:List Str} {e:Expr} {g:E} {pos:Pos}
def Lx (X:Cx):V->List V->Hp->VK->Prop:=fun x vs H Q=>∃ l b xs zs,x=.ref l/\vs=[.ref b]/\H l=some (.lst xs)/\SqT X.K H b zs/\xs.length+zs.length<=sizeLine/\Q .non (upd H l (.lst (xs++zs)))
theorem FU:MtM X "list.extend" (Lx X):=by
 intro pins s σ H x vs v us Q I rx rv h
 obtain ⟨l,b,xs,zs,rfl,rfl,hH,hB,hz,q⟩:=h
 cases rx
 obtain ⟨u,rfl,ru⟩:=rv.one
 cases ru
 obtain ⟨z,its,n,r,hl,e⟩:=I.lstM hH
 obtain ⟨its2,r2,⟨⟨cl,dd,da,sl⟩,e2,hc,n2,hd⟩,hl2⟩:=I.tuple hB
 simp only at hc hd
 subst hc hd
 have hl3:=r2.length
 have hsz:its.toArray.size+its2.toArray.size<=sizeLine:=by rw [List.size_toArray,List.size_toArray];omega
 have hlong:¬ (!its.toArray.isEmpty&&Builtin.List.listTooLong (its.toArray.size+its2.toArray.size))=true:=by rw [t9 hsz,Bool.and_false];exact Bool.false_ne_true
 refine call_meets PySem.F.slot_list_extend ⟨_,e,rfl⟩ PySem.F.entry_list_extend (PySem.F.args_list_extend_2 _ _) (Gm l its.toArray n b its2.toArray n2 dd sl hlong (by rw [List.size_toArray];omega) ⋯) ⟨e,e2,?_⟩
 exact ⟨.non,_,I.lset (its':=its++its2) hH e (by simp) (r.append r2) (by rw [List.length_append];omega),rfl,q⟩
theorem AN (C:Sx X N) (i:Nat) (hN:N[i]? = some x) (he:SE X e g)
  (hbase:attributeBase (.Name x p1) "extend" X.env (eval (.Name x p1) X.env)=eval (.Name x p1) X.env:=by rfl)
  (hfew:((backTo p3 (starEach [e] X.env)).all (fun x => !x.1)&&(backToKw p3 (keywordEach [] X.env)).all (fun x=>x.1.isSome)
   && decide ([e].length+([]:List Keyword).length+(if ([]:List Keyword).isEmpty then 0 else 1)<30))=true:=by rfl)
  (hline:(p2.endLine == p3.line)=true:=by rfl) (hs:starEach [e] X.env=[↥25]:=by rfl)
  (hsw:swapsWith (.Call (.Attribute (.Name x p1) "extend" p2) [e] [] p3) none pos.line X.env=pure false:=by rfl) :
  SS X (.Expr (.Call (.Attribute (.Name x p1) "extend" p2) [e] [] p3) pos) (jm i g):=by
 have hm:x∈N:=List.mem_of_getElem? hN
 refine PS.weak (jb (xw PySem.F.plainAttrs_list PySem.F.slot_list_extend PySem.F.type_list_extend FU (ip (i:=i) (by rw [C.sc.n];exact hN) (C.sc.vis x hm) (C.sc.dbg x hm).1 (C.sc.dbg x hm).2) (dY (sQ he) gE hs) hbase hfew hline hs (by rfl)) hsw) fun D σ H ⟨δ,os,S,q⟩ => ?_
 unfold jm gB at q
 split at q
 ·rename_i ds ei
  obtain ⟨a,ha⟩:=S.own i ds ei
  obtain ⟨xs,ds',h1,h2,h3,h4⟩:=S.lst _ ha
  rw [ei] at h3
  cases h3
  refine ⟨.ref a,h2,.inl ⟨rfl,xs,SqL.of h1⟩,δ,os,S,?_,?_⟩
  ·intro d ed
   unfold G9 at q
   rw [ed] at q
   cases d with
   | tup es =>
    simp only at q
    split at q
    ·rename_i z;exact z.1
    ·exact False.elim q
   | _=>exact False.elim q
  ·unfold G9 at q
   cases r:g (view δ) with
   | ok d =>
    rw [r] at q
    cases d with
    | tup es =>
     simp only at q
     split at q
     ·rename_i z
      intro v H' S' sm rp
      obtain ⟨xs',ds',k1,k2,k3,k4⟩:=S'.lst _ ha
      rw [ei] at k3
      cases k3
      cases rp with
      | @tup b ys _ hq rr =>
       refine ⟨a,b,xs',ys,rfl,rfl,k1,fq (az _ _) hq,by rw [k4.length,rr.length,sizeLine_eq];omega,?_⟩
       have S2:=S'.write ha (k4.append rr)
       exact q _ _ _ S2 (by rw [oX (cI ha)];exact sm)
     ·exact False.elim q
    | _=>exact False.elim q
   | ex C=>rw [r] at q;exact fun Ca hc H' s' st=>q σ H' s' st Ca hc
   | bad=>rw [r] at q;exact False.elim q
 ·exact False.elim q
theorem yO (G:Gb X "list") (hm:X.mg "list"=none) (h:SE X e g) (he:starEach [e] X.env=[↥25]:=by rfl) (hpl:(backTo pos (starEach [] X.env)).any (·.1)=false:=by rfl) :
  FE X (.Call (.Name "list" p) [e] [] pos) (EV.call nt [g]):=by
 refine PE.weak (p8 fO G.g hm boot_list (dY h gE he) G.n G.d he hpl) fun σ H Q ⟨δ,hσ,q⟩=>⟨δ,hσ,?_⟩
 unfold EV.call at q
 have fin:∀ {H':Hp} {a:Addr} {ys:List V} {ds:List D},RF X σ H (cD ds) Q->ao H H'->(SqL X.K H' a ys\/SqT X.K H' a ys)->Reps X.K X.mg H' ys ds->∃ p zs,[V.ref a]=[V.ref p]/\(SqL X.K H' p zs\/SqT X.K H' p zs)/\∀ l,H' l=none->Q (.ref l) (upd H' l (.lst zs)):=by
  intro H' a ys ds q sm hq rr
  unfold cD at q
  split at q
  ·rename_i fl
   have q':∀ a xs H'',ao H H''->H a=none->H'' a=some (.lst xs)->Reps X.K X.mg H'' xs ds->EV.D.flats ds=true->Q (.ref a) H'':=q
   exact ⟨a,ys,rfl,hq,fun l hl=>q' l ys _ (sm.trans (ar hl _)) (by
    cases z:H l with
    | none=>rfl
    | some o=>rw [sm l o z] at hl;cases hl) au (rr.mono (ar hl _)) fl⟩
  ·exact False.elim q
 cases r:g δ with
 | ok d =>
  have ev:evs [g] δ=.ok [d]:=by unfold evs;rw [r];rfl
  rw [ev] at q
  simp only [R.bind] at q
  intro v H' sm rp
  cases d with
  | tup ds =>
   cases rp with
   | @tup a ys _ hq rr=>exact fin q sm (.inr hq) rr
  | lst ds =>
   cases rp with
   | @lst a ys _ hq rr=>exact fin q sm (.inl hq) rr
  | _=>exact False.elim q
 | ex C =>
  have ev:evs [g] δ=.ex C:=by unfold evs;rw [r];rfl
  rw [ev] at q
  exact q
 | bad =>
  have ev:evs [g] δ=.bad:=by unfold evs;rw [r];rfl
  rw [ev] at q
  exact False.elim q
theorem Ma:NoX GP:=fun ds C z=>by
 unfold GP at z
 split at z
 ·split at z<;>cases z
 ·cases z
theorem nj:∀ {xs:List V} {ds:List D} {bs:List Bool} {us:List Value},boolsOf ds=some bs->Reps X.K X.mg H xs ds->Vals xs us->us=bs.map Value.bool
 | _,[],_,_,e,.nil,.nil=>by cases e;rfl
 | _,.bl b::r,bs,_,e,.cons h t,.cons h' t'=>by
  cases h
  unfold boolsOf at e
  cases q:boolsOf r with
  | none=>rw [q] at e;cases e
  | some ms =>
   rw [q] at e
   have e':b::ms=bs:=Option.some.inj e
   subst e'
   cases h'
   rw [nj q t t',List.map_cons]
 | _,.non::_,_,_,e,_,_=>by cases e
 | _,.int _::_,_,_,e,_,_=>by cases e
 | _,.str _::_,_,_,e,_,_=>by cases e
 | _,.tup _::_,_,_,e,_,_=>by cases e
 | _,.lst _::_,_,_,e,_,_=>by cases e
 | _,.own _::_,_,_,e,_,_=>by cases e
 | _,.ty _::_,_,_,e,_,_=>by cases e
 | _,.cls _::_,_,_,e,_,_=>by cases e
 | _,.exc _::_,_,_,e,_,_=>by cases e
 | _,.ins _ _::_,_,_,e,_,_=>by cases e
theorem Mv (hc:X.calm=true):fk X (.builtin "any") (rC X GP):=by
 intro pins s σ H xs us Q I rs ⟨ds,d,r,e,q⟩
 unfold GP at e
 split at e
 ·rename_i ds'
  cases hbs:boolsOf ds' with
  | none=>rw [hbs] at e;cases e
  | some bs =>
   rw [hbs] at e
   cases e
   obtain ⟨v,rfl,r1⟩:=mD r
   cases r1 with
   | @lst a ys _ hq rr =>
    obtain ⟨its,rv,pl,_⟩:=I.list hq
    have e1:=nj hbs rr rv
    cases rs with
    | cons h1 h2 =>
     cases h2
     cases h1
     have hl:=pl.isList
     rw [e1] at hl
     have hlt:a<s.heap.objs.size:=by obtain ⟨_,z,_⟩:=hl;exact Heap.lt_size z
     refine call_any_walk (wpAny_pyIter_list hl ⟨_,_,_,_,_,_,fun i=>(bs[i]?).getD false,rfl,Walks.list (A:=X.A.in1) (I.ok.hd hc) _ a (Nat.ne_of_lt hlt) (bs.map Value.bool).toArray,⟨⟨_,Heap.get?_push_size _ rfl,rfl,rfl⟩,hl.push _⟩,?_,fun h' tk hk => ?_⟩)
     ·intro i v s' Q' E' hP hQ
      have hQ':Q' ((bs[i]?).getD false) s':=hQ
      have hP':((bs.map Value.bool).toArray)[i]? = some v:=hP
      rw [List.getElem?_toArray,List.getElem?_map] at hP'
      cases hb:bs[i]? with
      | none=>rw [hb] at hP';cases hP'
      | some b =>
       rw [hb] at hP' hQ'
       cases hP'
       exact wpAny_truthy_bool hQ'
     ·have hold:∀ b o,s.heap.get? b=some o->h'.get? b=some o:=fun b o z=>hk b o (fun hm=>by
       rcases List.mem_cons.mp hm with e2 | hm
       ·exact absurd (e2▸Heap.lt_size z) (Nat.lt_irrefl _)
       ·cases hm) (Heap.get?_push_of_some _ z)
      have ea:(List.range (bs.map Value.bool).toArray.size).any (fun i=>(bs[i]?).getD false)=bs.any id:=by
       rw [List.size_toArray,List.length_map]
       apply Bool.eq_iff_iff.mpr
       simp only [List.any_eq_true,List.mem_range,id]
       constructor
       ·rintro ⟨i,hi,z⟩
        rw [List.getElem?_eq_getElem hi] at z
        exact ⟨_,List.getElem_mem hi,z⟩
       ·rintro ⟨b,hb,z⟩
        obtain ⟨i,hi,rfl⟩:=List.getElem_of_mem hb
        exact ⟨i,hi,by rw [List.getElem?_eq_getElem hi];exact z⟩
      rw [ea]
      exact ⟨.bl _,H,I.kept (t':=tk) hold,rfl,q _ _ ↥21 (.bl _)⟩
 ·cases e
end
end ES
namespace ES
open PySem PySem.Spec PyProof.Rows L2 EV
structure DA (K:PySem.W.Frag) (n:Str) (st:Stmt):Prop where
 ex:∃ f fd,PySem.W.nsIn K mainGlobals n=some (some (.ref f))/\Fun K n n st f fd
theorem Gv {K:PySem.W.Frag} {n:Str} {st:Stmt} {f:Addr} {oc:Value} {od an:Option Addr} {osl:Array (Option Value)} {kV doc pm cdv ct:Value} (a:PySem.W.nsIn K mainGlobals n=some (some (.ref f))) (l:K.lookup f=some ⟨oc,od,.func (PySem.W.fnOf n n (dq st) (ag st) (aa st) .none kV doc pm an cdv ct),osl⟩)
  (c:PySem.W.codeIn K cdv n=true) (k:PySem.W.keepIn K (.ref f)=true):DA K n st:=⟨_,_,a,lH l c k⟩
theorem DA.fn {P:Program} {w:World} {K:PySem.W.Frag} {h:Heap} {mg:Str->Option Value} {base:Heap} {n:Str} {st:Stmt} {N G ps:List Str} {k a m:Nat} {g:S}
  (q:DA K n st) (KX:K.In h) (GG:h.Ns mainGlobals mg) (S:ScF N G ps (aa st)) (hn:ps.length=a) (hm:N.length=m) (B:∀ {f:Addr} {fd:FuncData},Fun K n n st f fd->Binds K fd ps [])
  (hbody:∀ X:Cx,Room k (at5 X P w K mg base).A->Lp (at5 X P w K mg base)->Own (at5 X P w K mg base)->Pl (at5 X P w K mg base) N G->(at5 X P w K mg base).env.scope=aa st->SSs (at5 X P w K mg base) (ag st) g) :
  FnP P w K mg base n (k+1) (fn a m g):=by
 obtain ⟨f,fd,a,F⟩:=q.ex
 exact JU (qq F S hn hm hbody) F.kp (PySem.W.mg_of KX GG a) (B F)
theorem FnP.c (F:FnP X.prog X.w X.K X.mg X.base x k f) (hr:Room j X.A) (h:k<=j:=by decide):Callee X x f:=F.callee hr h
end ES
local macro_rules | `(tactic| walk_at "S")=>`(tactic| exact ⟨⟨rfl,rfl,rfl,by decide +kernel,by decide +kernel,by decide +kernel,by decide +kernel⟩,by decide +kernel,by decide +kernel,by decide +kernel,by decide +kernel⟩)
namespace EV
def MI:List Nat->Dt->List D->Option Dt
 | [],δ,[]=>some δ
 | i::is,δ,d::ds=>MI is (δ.set i (some d)) ds
 | _,_,_=>none
def Bf:D->D->R D
 | .lst xs,.int k=>if 0<=k/\k<=1000/\xs.length*k.toNat<=100000 then .ok (.lst (List.replicate k.toNat xs).flatten) else .bad
 | _,_=>.bad
end EV
namespace ES
open PySem PySem.Spec PyProof.Rows L2 EV
unseal SE ST SW SA SS SSs SI SO
section
variable {X:Cx}
end
end ES
namespace ES
open PySem PySem.Spec PyProof.Rows L2 EV
unseal SE ST SW SA SS SSs SI SO
def gIs:List Nat->TGs
 | []=>RE
 | i::is=>Mi (sD i) (gIs is)
section
variable {X:Cx} {N:List Str} {e:Expr} {es:List Expr} {g:IT} {gb:S} {body:List Stmt} {is:List Nat} {pos:Pos}
theorem Qh:∀ {is:List Nat} {xs:List V} {ds:List D} {σ:L2.St} {δ δ2:Dt} {os:List (Nat×Addr)},StO X H σ δ os->Reps X.K X.mg ↥20 xs ds->MI is δ ds=some δ2->(∀ σ2 os2,StO X H σ2 δ2 os2->ao ↥20 (hide H os2)->Q σ2 H)->gIs is xs σ H Q
 | [],xs,ds,σ,δ,δ2,os,S,r,e,q=>by
  cases r with
  | nil=>cases e;exact ⟨rfl,q _ _ S ↥21⟩
  | cons _ _=>cases e
 | i::is,xs,ds,σ,δ,δ2,os,S,r,e,q=>by
  cases r with
  | nil=>cases e
  | cons ra rr =>
   obtain ⟨S2,s2⟩:=S.set (i:=i) ra
   exact ⟨_,_,rfl,Qh S2 (rr.mono s2) e fun σ2 os2 S3 s3=>q σ2 os2 S3 (s2.trans s3)⟩
end
end ES
namespace ES
open PySem PySem.Spec PyProof.Rows L2 EV
section
variable {X:Cx} {N G:List Str} {e e1 e2 e3 e4:Expr} {es:List Expr} {g g1 g2 g3 g4:E} {gs:List E} {x:Str} {p pos:Pos} {f:List D->R D}
theorem Pl.v (P:Pl X N G) (i:Nat) (h:N[i]? = some x:=by rfl):SE X (.Name x pos) (var i):=dn P.sc i h
theorem Pl.w (P:Pl X N G) (i:Nat) (h:G[i]? = some x:=by rfl):Gb X x:=P.gb _ (mG i h)
theorem Pl.set (P:Pl X N G) (i:Nat) (h:SE X e g) (hN:N[i]? = some x:=by rfl) (hsw:swapsWith e (some (.Name x p)) pos.line X.env=pure false:=by rfl):SS X (.Assign [.Name x p] e pos) (assign i g):=ED P.toSx i hN (P.sto _ (mG i hN)) h hsw
theorem Pl.ret (P:Pl X N G) (h:SE X e g):SS X (.Return (some e) pos) (ret g):=Ls P.toSx h
theorem Pl.if_ {c:Expr} {gc:E} {body els:List Stmt} {gb ge:S} (P:Pl X N G) (hc:ST X c gc) (ha:SSs X body gb) (hb:SSs X els ge):SS X (.If c body els pos) (ifs gc gb ge):=P7 P.toSx hc ha hb
theorem Pl.xp (P:Pl X N G) (h:SE X e g) (hs:swapsWith e none pos.line X.env=pure false:=by rfl):SS X (.Expr e pos) (expr g):=Il P.toSx h hs
theorem Pl.y {j} (P:Pl X N G) (i:Nat) (h:N[i]? = some x:=by rfl):SE X (.Subscript (.Name x p1) (.Constant (.int k) j p2) pos) (bin oIx (var i) (con (.int k))):=mh (dn P.sc i h) af
theorem Pl.call (P:Pl X N G) (i:Nat) (c:Callee X x f) (ha:SA X (e::es) gs) (h:G[i]? = some x:=by rfl) (he:starEach (e::es) X.env=↥25::starEach es X.env:=by rfl) (hpl:(backTo pos (starEach es X.env)).any (·.1)=false:=by rfl) :
  SE X (.Call (.Name x p) (e::es) [] pos) (EV.call f gs):=jt c (P.gb _ (mG i h)) ha he hpl
theorem a1 (h1:SE X e1 g1) (s1:starEach [e1] X.env=(false,eval e1 X.env)::starEach [] X.env:=by rfl):SA X [e1] [g1]:=ak h1 fQ s1
theorem a2 (h1:SE X e1 g1) (h2:SE X e2 g2) (s1:starEach [e1,e2] X.env=(false,eval e1 X.env)::starEach [e2] X.env:=by rfl) (s2:starEach [e2] X.env=(false,eval e2 X.env)::starEach [] X.env:=by rfl):SA X [e1,e2] [g1,g2]:=ak h1 (ak h2 fQ s2) s1
theorem a3 (h1:SE X e1 g1) (h2:SE X e2 g2) (h3:SE X e3 g3) (s1:starEach [e1,e2,e3] X.env=(false,eval e1 X.env)::starEach [e2,e3] X.env:=by rfl) (s2:starEach [e2,e3] X.env=(false,eval e2 X.env)::starEach [e3] X.env:=by rfl) (s3:starEach [e3] X.env=(false,eval e3 X.env)::starEach [] X.env:=by rfl):SA X [e1,e2,e3] [g1,g2,g3]:=ak h1 (ak h2 (ak h3 fQ s3) s2) s1
end
end ES
local macro_rules | `(tactic| walk_at "C")=>`(tactic| exact ⟨rfl,by decide +kernel,by decide +kernel,by decide +kernel,by decide +kernel,by decide +kernel,by decide +kernel,by decide +kernel,by decide +kernel,by decide +kernel⟩)
namespace ES
open PySem PySem.Spec PyProof.Rows L2 EV
unseal SE ST SW SA SS SSs SI SO
theorem Lw (a:Int) (t:Tok) (l:Addr) (xs:Array Value) (n:Nat) (d1:Option Addr) (s1:Array (Option Value)) :
  Meets (Builtin.«int.__rmul__» ⟨[.int a t,.ref l],[]⟩) (fun _ R s=>s.heap.get? l=some { cls:=.type "list",dict:=d1,data:=.seq xs n,slots:=s1 }/\R (.ok (.ret .notImplemented)) s) :=
 .of_wp fun prog w A R s h=>by
  obtain ⟨hp,g,dd,tk,os⟩:=s
  obtain ⟨ha,h⟩:=h
  wp_walk using AutoSeq1.wpAny_loadPart' ha
  exact ⟨_,rfl,h⟩
theorem Ri (l:Addr) (xs:Array Value) (n:Nat) (k:Int) (t:Tok) (d1:Option Addr) (s1:Array (Option Value)) (h1:¬ (!Builtin.List.listFitsIndex k)=true) (h2:¬ xs.size*k.toNat>(2^63 - 1) / 8) (h3:¬ Builtin.List.listTooLong (xs.size*k.toNat)=true)
  (h4:¬ (List.foldl (fun x1 x2=>x1++x2) #[] (List.replicate (if xs.isEmpty=true then 0 else k.toNat) xs)).size>sizeLine) :
  Meets (Builtin.«list.__mul__» ⟨[.ref l,.int k t],[]⟩) (fun _ R s=>s.heap.get? l=some { cls:=.type "list",dict:=d1,data:=.seq xs n,slots:=s1 } /\
   R (.ok (.ret (Value.ref s.heap.objs.size))) { s with heap:=s.heap.push { cls:=.type "list",data:=.seq (List.foldl (fun x1 x2=>x1++x2) #[] (List.replicate (if xs.isEmpty=true then 0 else k.toNat) xs)) } }) :=
 .of_wp fun prog w A R s h=>by
  obtain ⟨hp,g,dd,tk,os⟩:=s
  obtain ⟨ha,h⟩:=h
  wp_walk using AutoSeq1.wpAny_loadPart' ha
  show wpAny _ _ (ite _ _ _) _ _ _
  rw [if_neg h4]
  wp_walk
  exact ⟨_,rfl,h⟩
theorem tQ {K:PySem.W.Frag} {mg:Str->Option Value} {H:Hp} {xs:List V} {ds:List D} (r:Reps K mg H xs ds):∀ k:Nat,Reps K mg H (List.replicate k xs).flatten (List.replicate k ds).flatten
 | 0=>.nil
 | k+1=>by
  rw [List.replicate_succ,List.replicate_succ,List.flatten_cons,List.flatten_cons]
  exact r.append (tQ r k)
section
variable {X:Cx} {pos:Pos} {a b:Expr} {ga gb:E}
theorem LX:jk Bf:=fun x y C z=>by unfold Bf at z;split at z<;>first | cases z | exact d6 z
theorem E5:OpR X (binaryOp .Mult) (rD X Bf):=by
 intro pins s σ H x y v u Q I rx ry ⟨dx,dy,d,r1,r2,e,q⟩
 unfold Bf at e
 split at e
 ·rename_i xs' k
  split at e
  ·rename_i hz
   cases e
   cases r1 with
   | @lst l xs _ hH rr =>
    cases r2
    cases rx
    obtain ⟨t,rfl⟩:=ry
    obtain ⟨its,r,⟨⟨c1,d1,t1,s1⟩,n,e,g1,g2,g3⟩,_⟩:=I.list hH
    simp only at g1 g2 g3
    subst g1 g2 g3
    have hl:=r.length
    have hl':=rr.length
    have hsz:xs.length*k.toNat<=sizeLine:=by rw [hl'];exact Nat.le_trans hz.2.2 (by rw [sizeLine_eq];decide)
    have hlen:its.toArray.size*k.toNat<=sizeLine:=by rw [List.size_toArray,<-hl];exact hsz
    have hcap:¬ its.toArray.size*k.toNat>(2^63 - 1) / 8:=by
     have:(sizeLine:Nat)<=(2^63 - 1) / 8:=by decide
     omega
    have hfit:¬ (!Builtin.List.listFitsIndex k)=true:=by
     rw [fitsIndex_both ⋯ ⋯]
     exact Bool.false_ne_true
    have hlong:¬ Builtin.List.listTooLong (its.toArray.size*k.toNat)=true:=by
     rw [t9 hlen]
     exact Bool.false_ne_true
    have hnew:List.foldl (fun x1 x2=>x1++x2) #[] (List.replicate (if its.toArray.isEmpty=true then 0 else k.toNat) its.toArray)=(List.replicate k.toNat its).flatten.toArray:=by
     have f0:∀ m:Nat,List.foldl (fun x1 x2=>x1++x2) #[] (List.replicate m its.toArray)=(List.replicate m its).flatten.toArray:=fun m=>by
      have:=foldl_rep its m []
      rw [List.nil_append] at this
      exact this
     rw [f0]
     cases its with
     | nil=>simp
     | cons a r'=>rw [if_neg (by simp)]
    have hbig:¬ (List.foldl (fun x1 x2=>x1++x2) #[] (List.replicate (if its.toArray.isEmpty=true then 0 else k.toNat) its.toArray)).size>sizeLine:=by
     rw [hnew,List.size_toArray,len_rep,Nat.mul_comm]
     rw [List.size_toArray] at hlen
     omega
    refine wpAny_binaryOp_repeat_ref (T:="list") (U:="int") ↥2 ⟨_,e,rfl⟩ (fun s'=>typeIs_int s' k t) noFill_list_mul F.fills_int_mul F.slot_int_rmul repeat_list F.slot_int_index.lookup
     (call_meets F.slot_int_rmul (typeIs_int s k t) F.entry_int_rmul (F.args_int_rmul_2 _ _) (Lw k t l its.toArray n _ _)
      ⟨e,rfl,⟨_,e,rfl⟩,call_meets F.slot_list_mul ⟨_,e,rfl⟩ F.entry_list_mul (F.args_list_mul_2 _ _) (Ri l its.toArray n k t _ _ hfit hcap hlong hbig) ⟨e,?_⟩⟩)
    rw [hnew]
    exact ⟨.ref _,_,I.lnew (t':=s.toks) (r.rep k.toNat) (by rw [len_rep,Nat.mul_comm];exact hsz),rfl,q _ _ (ar I.fresh _) (.lst (SqL.of au) ((tQ rr k.toNat).mono (ar I.fresh _)))⟩
  ·cases e
 ·cases e
theorem Mq (ha:SE X a ga) (hb:SE X b gb):SE X (.BinOp a .Mult b pos) (EV.bin Bf ga gb):=lK LX E5 ha hb
end
end ES
namespace EV
end EV
namespace ES
open PySem PySem.Spec PyProof.Rows L2 EV
unseal SE ST SW SA SS SSs SI SO
section
variable {X:Cx} {pos:Pos} {a b:Expr} {ga gb:E}
end
end ES
namespace EV
end EV
namespace ES
open PySem PySem.Spec PyProof.Rows L2 EV
unseal SE ST SW SA SS SSs SI SO
section
variable {X:Cx} {pos p p2:Pos} {a e:Expr} {g:E} {lo hi:Option Expr} {gl gu:Option E}
structure IsW (X:Cx) (n:String) (C:Addr):Prop where
 mg:X.mg n=some (.ref C)
 cl:Cls X.K C
 ha:PySem.W.findIn X.K (.ref C) "__class__"=some (some (.builtin "object.__class__"))
 hn:PySem.W.specialIn X.K (.builtin "object.__class__") "__get__"=some (some (.builtin "getset_descriptor.__get__"))
 htk:PySem.W.takesIn X.K (.builtin "object.__class__")=some true
 hm:PySem.W.mroIn X.K C (.type "object")=some true
 kit:PySem.W.kitOne X.K (.ref C) (.ref C)=some true
end
end ES
namespace EV
def zf (x:PySem.Str) (i:Int):PySem.Str:=if i<=x.cps.size then x else ⟨(List.replicate (i.toNat - x.cps.size) 48).toArray++x.cps⟩
end EV
namespace ES
open PySem PySem.Spec PyProof.Rows L2 EV
unseal SE ST SW SA SS SSs SI SO
section
variable {X:Cx} {pos:Pos} {a b:Expr} {ga gb:E}
end
end ES
namespace EV
end EV
namespace ES
open PySem PySem.Spec PyProof.Rows L2 EV
unseal SE ST SW SA SS SSs SI SO
section
variable {X:Cx} {pos:Pos} {a b:Expr} {ga gb:E}
end
end ES
namespace EV
def dv (l:List Nat):Nat:=l.foldl (fun a c=>a*10+(c - 48)) 0
end EV
namespace ES
open PySem PySem.Spec PyProof.Rows L2 EV
unseal SE ST SW SA SS SSs SI SO
section
variable {X:Cx} {pos:Pos} {tg e a b:Expr} {g ga gb:E}
end
end ES
namespace EV
end EV
namespace ES
open PySem PySem.Spec PyProof.Rows L2 EV
abbrev IsZ (h:Heap) (z TI TO:Addr) (f0:Value) (b:Bool):Prop :=
 h.get? z=some { cls:=.type "zip",dict:=none,data:=.fields #[f0,.bool b,.bool false,.ref TI,.ref TO],slots := #[] }
section
variable {prog:Program} {w:World} {A:Around} {E:Value->Shared->Prop} {s:Shared}
end
structure Zs (h:Heap) (z TI TO i1 i2 l1 l2 S N0:Addr) (xs ys:Array Value) (i:Nat) (acc:Array Value):Prop where
 zf:(IsZip h z TI TO .none/\∃ a b,IsPair h TO a b)\/∃ (T:Addr) (b:Bool),IsZ h z TI TO (rawInt T) b/\(∃ o,h.get? T=some o)/\N0<=T
 ti:IsPair h TI (.ref i1) (.ref i2)
 h1:h.IsListIter i1 l1 i
 h2:h.IsListIter i2 l2 i
 hl1:h.IsList l1 xs
 hl2:h.IsList l2 ys
 sz:N0<=h.objs.size
 al:acc.size=i
 ac:∀ (j:Nat) (v:Value),acc[j]? = some v->∃ (a:Addr) (x y:Value),v=Value.ref a/\xs[j]? = some x/\ys[j]? = some y/\IsPair h a x y/\N0<=a
 inj:∀ (j j':Nat) (a:Addr),acc[j]? = some (Value.ref a)->acc[j']? = some (Value.ref a)->j=j'
structure Zap (z TI TO i1 i2 l1 l2 S N0:Addr):Prop where
 D:ZipApart z TI TO i1 i2 l1 l2
 zN:z<N0
 TIN:TI<N0
 TON:TO<N0
 i1N:i1<N0
 i2N:i2<N0
 SN:S<N0
 Sz:S≠z
 STI:S≠TI
 STO:S≠TO
 Si1:S≠i1
 Si2:S≠i2
 Sl1:S≠l1
 Sl2:S≠l2
section
variable {prog:Program} {w:World} {A:Around} {R:Result->Shared->Prop} {z TI TO i1 i2 l1 l2 S N0:Addr} {xs ys:Array Value}
end
section
variable {prog:Program} {w:World} {A:Around} {E:Value->Shared->Prop} {s:Shared} {xs ys:Array Value}
end
section
variable {X:Cx} {pins:List ↥10} {σ:L2.St} {H H':Hp} {s:Shared}
end
unseal SE ST SW SA SS SSs SI SO
section
variable {X:Cx} {a b:Expr} {ga gb:E} {p p2 pos pos2:Pos}
end
end ES
namespace ES
open PySem PySem.Spec PyProof.Rows L2 EV
unseal SE ST SW SA SS SSs SI SO
section
variable {X:Cx} {N:List Str} {e e2:Expr} {g g2:E} {pos:Pos}
end
end ES
namespace EV
end EV
namespace ES
open PySem PySem.Spec PyProof.Rows L2 EV
unseal SE ST SW SA SS SSs SI SO
section
variable {prog:Program} {w:World} {A:Around} {E:Value->Shared->Prop} {s:Shared}
end
section
variable {X:Cx} {a b:Expr} {ga gb:E} {p p2 pos pos2:Pos}
end
end ES
namespace ES
open PySem PySem.Spec PyProof.Rows L2 EV
unseal SE ST SW SA SS SSs SI SO
section
variable {X:Cx} {pins:List ↥10} {σ:L2.St} {H:Hp} {s:Shared} {h':Heap}
end
section
variable {X:Cx} {a b:Expr} {ga gb:E} {p pos:Pos}
end
section
variable {X:Cx}
end
section
variable {prog:Program} {w:World} {A:Around} {E:Value->Shared->Prop} {s:Shared}
end
section
variable {X:Cx} {N:List Str} {e:Expr} {es:List Expr} {g:E} {is:List Nat} {pos:Pos}
end
end ES
namespace ES
open PySem PySem.Spec PyProof.Rows L2 EV
def tabI (K:PySem.W.Frag) (Cs:List (String×Addr)) (q:String×Addr):Bool:=PySem.W.kitOne K (.type "NoneType") (.ref q.2) == some false&&Cs.all fun p=>PySem.W.kitOne K (.ref p.2) (.ref q.2) == some (p.1 == q.1||q.1 == "MillError")
def G5 (mg:Str->Option Value) (Cs:List (String×Addr)) (x:String):Prop:=mg x=none\/∃ C,mg x=some (.ref C)/\(x,C)∈Cs
theorem mP {ns:List (String×Addr)} (i:Nat) {x:String×Addr} (h:ns[i]? = some x:=by rfl):x∈ns:=List.mem_of_getElem? h
section
variable {K:PySem.W.Frag} {mg:Str->Option Value} {Cs ns:List (String×Addr)} {q:String×Addr}
theorem wL (t:ns.all (tabI K Cs)=true) (m:q∈ns):PySem.W.kitOne K (.type "NoneType") (.ref q.2)=some false:=by
 have:=List.all_eq_true.mp t q m
 unfold tabI at this
 rw [Bool.and_eq_true] at this
 exact eq_of_beq this.1
theorem wM (hC:∀ x∈aj,G5 mg Cs x) (t:ns.all (tabI K Cs)=true) (m:q∈ns):∀ x∈aj,IF K mg (.ref q.2) (x == q.1||q.1 == "MillError") x:=fun x hx=>by
 have:=List.all_eq_true.mp t q m
 unfold tabI at this
 rw [Bool.and_eq_true] at this
 rcases hC x hx with z | ⟨C,e,mC⟩
 ·exact ⟨.inl z⟩
 ·exact ⟨.inr ⟨C,e,eq_of_beq (List.all_eq_true.mp this.2 (x,C) mC)⟩⟩
end
end ES
namespace EV
def Kz (i j:Nat):S:=fun δ=>match δ[i]?,δ[j]? with
 | some (some (.own ds)),some (some (.int k))=>if D.flats ds=true then .rt (.tup [.lst ds,.int k]) else .bad
 | some (some (.own ds)),some (some (.own es))=>if D.flats ds=true/\D.flats es=true then .rt (.tup [.lst ds,.lst es]) else .bad
 | _,_=>.bad
def okF (r:R D) (o:O):O:=match r with | .ok ↥28=>o | _=>.bad
def okV (r:R D) (f:D->O):O:=match r with | .ok d=>f d | _=>.bad
def okI (r:R D) (f:Int->O):O:=match r with | .ok (.int m)=>f m | _=>.bad
def okB (r:R D):O:=match r with | .ok (.bl b)=>.rt (.bl b) | _=>.bad
def few (rs:List D) (o:O):O:=if rs.length<100000 then o else .bad
def JW (rs:List D) (o:O):O:=if rs.length<100000/\D.flats rs=true then o else .bad
def KC (r:R D) (f:List D->List D->O):O:=match r with | .ok (.tup [.lst ys,.lst ws])=>f ys ws | _=>.bad
def nu (i3 i4 i5:Nat) (g2 g4 g5 gc6 g7 g9 g8:E):S:=fun δ=>gB i3 δ fun rs=>JW rs <|
 KC (g2 (δ.set i3 (some (.lst rs)))) fun ys ws=>few ys<|few ws <|
 okV (g4 (δ.set i4 (some (.tup [.lst ys,.lst ws])))) fun c =>
 let b2:=((δ.set i3 none).set i4 none).set i5 none
 okI (g5 (b2.set i3 (some (.lst rs)))) fun m =>
 let δ8:=b2.set i3 (some (.lst (rs++[.int m])))
 okF (gc6 ((δ8.set i4 (some (.tup [.lst ys,.lst ws]))).set i5 (some c)))<|okI (g7 δ8) fun _=>okI (g9 δ8) fun _=>okB (g8 δ8)
end EV
namespace ES
open PySem PySem.Spec PyProof.Rows L2 EV
unseal SE ST SW SA SS SSs SI SO SSF
def Fr (K:PySem.W.Frag) (mg:Str->Option Value) (H H':Hp) (v:V) (d:D):Prop:=(∃ i,v=.int i/\d=.int i)\/∃ b vs ds,v=.ref b/\d=.lst ds/\H b=none/\H' b=some (.lst vs)/\Reps K mg H' vs ds/\EV.D.flats ds=true
def FrT (K:PySem.W.Frag) (mg:Str->Option Value) (H H':Hp) (v:V) (d:D):Prop:=∃ t v1 v2 d1 d2,v=.ref t/\d=.tup [d1,d2]/\H' t=some (.tup [v1,v2])/\Fr K mg H H' v1 d1/\Fr K mg H H' v2 d2
section
variable {K:PySem.W.Frag} {mg:Str->Option Value} {F F' H:Hp} {v:V} {d:D}
theorem kZ {b:Addr} (s:ao F F') (h:F' b=none):F b=none:=by
 cases q:F b with
 | none=>rfl
 | some o=>rw [s b o q] at h;cases h
theorem Fr.anti (s:ao F F') (h:Fr K mg F' H v d):Fr K mg F H v d:=by
 rcases h with h | ⟨b,vs,ds,h1,h2,h3,h4⟩
 ·exact .inl h
 ·exact .inr ⟨b,vs,ds,h1,h2,kZ s h3,h4⟩
theorem FrT.anti (s:ao F F') (h:FrT K mg F' H v d):FrT K mg F H v d:=by
 obtain ⟨t,v1,v2,d1,d2,h1,h2,h3,h4,h5⟩:=h
 exact ⟨t,v1,v2,d1,d2,h1,h2,h3,h4.anti s,h5.anti s⟩
theorem Fr.rep (h:Fr K mg F H v d):Rep K mg H v d:=by
 rcases h with ⟨i,rfl,rfl⟩ | ⟨b,vs,ds,rfl,rfl,_,h,r,_⟩
 ·exact .int i
 ·exact .lst (SqL.of h) r
theorem Fr.keep {H':Hp} (f:Fr K mg F H v d) (n:NoL H H') (k:∀ b o,F b=none->H b=some o->H' b=some o):Rep K mg H' v d:=by
 rcases f with ⟨i,rfl,rfl⟩ | ⟨b,vs,ds,rfl,rfl,h0,h,r,fl⟩
 ·exact .int i
 ·exact .lst (SqL.of (k b _ h0 h)) (eI n fl r)
theorem FrT.rep (h:FrT K mg F H v d):Rep K mg H v d:=by
 obtain ⟨t,v1,v2,d1,d2,rfl,rfl,h3,h4,h5⟩:=h
 exact .tup (SqT.of h3) (.cons h4.rep (.cons h5.rep .nil))
end
def TQ (K:PySem.W.Frag) (mg:Str->Option Value) (H:Hp) (d:D) (Q:VK):Prop:=(∀ v H',ao H H'->FrT K mg H H' v d->Q v H')/\(d=.non->∀ H',ao H H'->Q .non H')
def RTT (X:Cx) (σ:L2.St) (H:Hp) (r:R D) (Q:VK):Prop:=match r with
 | .ok d=>TQ X.K X.mg H d Q
 | .ex C=>∀ Ca,X.mg C=some (.ref Ca)->∀ H',ao H H'->ew X Ca σ H'
 | .bad=>False
def TX (X:Cx) (e:Expr) (g:E):Prop:=PE X e fun σ H Q=>∃ δ,Stt X.K X.mg H σ δ/\RTT X σ H (g δ) Q
def OQT (X:Cx) (D:Ends) (F:Hp):O->Prop
 | .rt d=>∀ v H,ao F H->FrT X.K X.mg F H v d->D.rt v H
 | o=>OQ X D F o
def tST (X:Cx) (g:S):TS:=fun D σ H=>∃ δ os,StO X H σ δ os/\OQT X D ↥20 (g δ)
@[irreducible] def SST (X:Cx) (st:List Stmt) (g:S):Prop:=PSs X st (tST X g)
unseal SST
section
variable {X:Cx} {N:List Str}
theorem OQT.mono {D:Ends} {F F':Hp} {o:O} (s:ao F F') (h:OQT X D F o):OQT X D F' o:=by
 cases o with
 | rt d=>exact fun v H s' r=>h v H (s.trans s') (r.anti s)
 | nx δ=>exact OQ.mono (o:=.nx δ) s h
 | bk δ=>exact OQ.mono (o:=.bk δ) s h
 | ct δ=>exact OQ.mono (o:=.ct δ) s h
 | ex C δ=>exact OQ.mono (D:=D) (o:=.ex C δ) s h
 | mk C δ=>exact OQ.mono (D:=D) (o:=.mk C δ) s h
 | hx C δ=>exact OQ.mono (D:=D) (o:=.hx C δ) s h
 | bad=>exact False.elim h
variable {st:Stmt} {rest:List Stmt} {gs gr:S} {e:Expr} {g:E} {pos:Pos}
theorem pN (h:SS X st gs) (nr:∀ δ d,gs δ ≠ .rt d) (hr:SST X rest gr):SST X (st::rest) (seq gs gr):=PSs.weak (dG h hr) fun D σ H ⟨δ,os,S,h⟩=>⟨δ,os,S,by
 unfold seq at h
 cases q:gs δ with
 | nx δ' =>
  rw [q] at h
  exact fun σ' H' os' S' s'=>⟨δ',os',S',OQT.mono s' h⟩
 | rt d=>exact absurd q (nr δ d)
 | _=>rw [q] at h;exact OQ.lv (fun _ z=>nomatch z) h⟩
theorem xy {H:Hp} {σ:L2.St} {δ:Dt} {os:Os} {i:Nat} {ds:List D} {p:Addr} {o:HO} (S:StO X H σ δ os) (e:δ[i]? = some (some (.own ds))) (fl:EV.D.flats ds=true) (hp:H p=none) :
  ∃ v,σ[i]? = some (some v)/\Fr X.K X.mg ↥20 (upd H p o) v (.lst ds):=by
 obtain ⟨a,ha⟩:=S.own i ds e
 obtain ⟨xs,ds',h1,h2,h3,h4⟩:=S.lst _ ha
 rw [e] at h3
 cases h3
 exact ⟨_,h2,.inr ⟨a,xs,ds,rfl,rfl,fK (cI ha),ar hp o _ _ h1,h4.mono ((az H os).trans (ar hp o)),fl⟩⟩
theorem Ld (C:Sx X N) (i j:Nat) {x y:Str} {p1 p2 p3:Pos} {k} (hx:N[i]? = some x) (hy:N[j]? = some y)
  (h1:starEach [.Name x p1,.Name y p2] X.env=(false,eval (.Name x p1) X.env)::starEach [.Name y p2] X.env:=by rfl) (h2:starEach [.Name y p2] X.env=(false,eval (.Name y p2) X.env)::starEach [] X.env:=by rfl) :
  SST X [.Return (some (.Tuple [.Name x p1,.Name y p2] k p3)) pos] (Kz i j):=by
 have mx:x∈N:=List.mem_of_getElem? hx
 have my:y∈N:=List.mem_of_getElem? hy
 refine PSs.weak (oG (xn (CM (dY (ip (i:=i) (by rw [C.sc.n];exact hx) (C.sc.vis x mx) (C.sc.dbg x mx).1 (C.sc.dbg x mx).2) (dY (ip (i:=j) (by rw [C.sc.n];exact hy) (C.sc.vis y my) (C.sc.dbg y my).1 (C.sc.dbg y my).2) gE h2) h1)))) fun D σ H ⟨δ,os,S,q⟩ => ?_
 have z2:2<=sizeLine:=by rw [sizeLine_eq];decide
 unfold Kz at q
 split at q
 ·rename_i ds k ei ej
  split at q
  ·rename_i fl
   obtain ⟨a,ha⟩:=S.own i ds ei
   obtain ⟨xs,ds',h1,h2,h3,h4⟩:=S.lst _ ha
   obtain ⟨v,e1,e2⟩:=S.st.2 j _ ej (fun _ z=>nomatch z)
   cases e2
   refine ⟨_,h2,_,e1,z2,fun p hp=>q _ _ ((az H os).trans (ar hp _)) ?_⟩
   obtain ⟨v',e3,f⟩:=xy (o:=.tup [.ref a,.int k]) S ei fl hp
   rw [h2] at e3
   cases e3
   exact ⟨p,_,_,_,_,rfl,rfl,au,f,.inl ⟨k,rfl,rfl⟩⟩
  ·exact False.elim q
 ·rename_i ds es ei ej
  split at q
  ·rename_i fl
   obtain ⟨a,ha⟩:=S.own i ds ei
   obtain ⟨_,_,_,h2,_,_⟩:=S.lst _ ha
   obtain ⟨b,hb⟩:=S.own j es ej
   obtain ⟨_,_,_,h3,_,_⟩:=S.lst _ hb
   refine ⟨_,h2,_,h3,z2,fun p hp=>q _ _ ((az H os).trans (ar hp _)) ?_⟩
   obtain ⟨v',e3,f⟩:=xy (o:=.tup [.ref a,.ref b]) S ei fl.1 hp
   obtain ⟨w',e4,f'⟩:=xy (o:=.tup [.ref a,.ref b]) S ej fl.2 hp
   rw [h2] at e3
   rw [h3] at e4
   cases e3
   cases e4
   exact ⟨p,_,_,_,_,rfl,rfl,au,f,f'⟩
  ·exact False.elim q
 ·exact False.elim q
end
theorem CU {a b:S} (ha:∀ δ d,a δ ≠ .rt d) (hb:∀ δ d,b δ ≠ .rt d):∀ δ d,seq a b δ ≠ .rt d:=fun δ d z=>by
 unfold seq O.then at z
 split at z
 ·exact hb _ _ z
 ·exact ha _ _ z
theorem FL {g:E}:∀ δ d,expr g δ ≠ .rt d:=fun δ d z=>by
 unfold expr at z
 cases r:g δ<;>rw [r] at z<;>cases z
theorem vz {i:Nat} {g:E}:∀ δ d,fP i g δ ≠ .rt d:=fun δ d z=>by
 unfold fP GV at z
 split at z
 ·split at z<;>cases z
 ·cases z
 ·cases z
theorem xO {i:Nat}:∀ δ d,mW i δ ≠ .rt d:=fun δ d z=>by cases z
theorem vy {i:Nat} {g:E}:∀ δ d,fG i g δ ≠ .rt d:=fun δ d z=>by
 unfold fG AF at z
 split at z<;>cases z
theorem qj {i:Nat} {g:E}:∀ δ d,fb i g δ ≠ .rt d:=fun δ d z=>by
 unfold fb gB at z
 split at z
 ·unfold Dg at z
  split at z
  ·dsimp only at z
   split at z<;>cases z
  ·cases z
  ·cases z
 ·cases z
theorem xP {i:Nat} {b:S} (hb:∀ δ d,b δ ≠ .rt d):∀ ds δ d,forL i b ds δ ≠ .rt d
 | [],δ,d=>fun z=>by cases z
 | x::xs,δ,d=>fun z=>by
  unfold forL at z
  cases r:b (δ.set i (some x)) with
  | rt d'=>exact hb _ _ r
  | _=>rw [r] at z;first | cases z | exact xP hb xs _ _ z
theorem FK {i:Nat} {it:IT} {b:S} (hb:∀ δ d,b δ ≠ .rt d):∀ δ d,uu i it b δ ≠ .rt d:=fun δ d z=>by
 unfold uu at z
 cases r:it δ<;>rw [r] at z
 ·exact xP hb _ _ _ z
 ·cases z
 ·cases z
def spT (K:PySem.W.Frag) (mg:Str->Option Value) (f:List D->R D):Sp:=fun vs H Q E=>∃ ds,Reps K mg H vs ds/\match f ds with
 | .ok d=>TQ K mg H d Q
 | .ex C=>∀ Ca,mg C=some (.ref Ca)->∀ H',ao H H'->E (.ref Ca) none H'
 | .bad=>False
theorem JT {P:Program} {w:World} {K:PySem.W.Frag} {mg:Str->Option Value} {base:Heap} {x qual:Str} {st:Stmt} {f:Addr} {fd:FuncData} {N G ps:List Str} {k n m:Nat} {g:S}
  (F:Fun K x qual st f fd) (S:ScF N G ps (aa st)) (hn:ps.length=n) (hm:N.length=m)
  (hbody:∀ X:Cx,Room k (at5 X P w K mg base).A->Lp (at5 X P w K mg base)->Own (at5 X P w K mg base)->Pl (at5 X P w K mg base) N G->(at5 X P w K mg base).env.scope=aa st->SST (at5 X P w K mg base) (ag st) g) :
  FnOk P w K mg base (CXF P w) (k+1) f fd ps (spT K mg (fn n m g)):=by
 obtain ⟨oc,od,kV,doc,pm,an,cdv,ct,osl,rfl,lk,hcd⟩:=F.ex
 have len:∀ {ds:List D},fn n m g ds ≠ .bad->ds.length=n:=fun {ds} h=>by
  unfold fn at h
  split at h
  ·assumption
  ·exact absurd rfl h
 refine Gi lk hcd S.fs (fun vs H Q E h => ?_) fun A outer s H vs Q E hr h => ?_
 ·obtain ⟨ds,rs,h⟩:=h
  rw [rs.length,hn]
  refine len fun z => ?_
  rw [z] at h
  exact h
 ·obtain ⟨ds,rs,h⟩:=h
  have hl:ds.length=n:=len fun z=>by rw [z] at h;exact h
  refine ⟨_,hbody (v9 (CXF P w) P w K mg base N qual (aa st) f cdv A outer s H E) hr ⟨PassesOwn.leaving,rfl⟩ kS ⟨⟨⟨rfl,S.fs.nd,fun y hy=>CW (S.loc y hy),S.dbg⟩,rfl⟩,fun y hy=>⟨S.loc y hy,.inl rfl⟩,fun y hy=>⟨S.glb y hy,(S.dbgG y hy).1,(S.dbgG y hy).2⟩⟩ rfl,_,[],StO.nil (pP rs hl hm) (kD rs),?_⟩
  rw [kf]
  unfold fn at h
  rw [if_pos hl] at h
  cases e:g (EV.start n m ds) with
  | nx δ=>rw [e] at h;exact fun σ H' os S' s'=>h.2 rfl H' (s'.trans (az _ _))
  | rt d=>rw [e] at h;exact h.1
  | ex C δ=>rw [e] at h;exact fun σ H' s' _ Ca hc=>C5 s' (h Ca hc H' s')
  | mk C δ=>rw [e] at h;exact fun σ H' s' Ca hc=>C7 s' (h Ca hc H' s')
  | hx C δ=>rw [e] at h;exact fun σ H' s' _ Ca hc=>yR s' (h Ca hc H' s')
  | bk δ=>rw [e] at h;exact False.elim h
  | ct δ=>rw [e] at h;exact False.elim h
  | bad=>rw [e] at h;exact False.elim h
structure FnT (P:Program) (w:World) (K:PySem.W.Frag) (mg:Str->Option Value) (base:Heap) (x:Str) (k:Nat) (f:List D->R D):Prop where
 ex:∃ fa fd ps,FnOk P w K mg base (CXF P w) k fa fd ps (spT K mg f)/\mg x=some (.ref fa)/\PySem.W.keepIn K (.ref fa)=true/\Binds K fd ps []
structure CalleeT (X:Cx) (x:Str) (f:List D->R D):Prop where
 ex:∃ k fa fd ps,FnOk X.prog X.w X.K X.mg X.base (CXF X.prog X.w) k fa fd ps (spT X.K X.mg f)/\Room k X.A/\X.mg x=some (.ref fa)/\PySem.W.keepIn X.K (.ref fa)=true/\Binds X.K fd ps []
theorem FnT.callee {X:Cx} {x:Str} {k j:Nat} {f:List D->R D} (F:FnT X.prog X.w X.K X.mg X.base x k f) (hr:Room j X.A) (h:k<=j):CalleeT X x f:=by
 obtain ⟨fa,fd,ps,a,b,c,d⟩:=F.ex
 exact ⟨k,fa,fd,ps,a,hr.mono h,b,c,d⟩
theorem FnT.p {P:Program} {w:World} {K:PySem.W.Frag} {mg:Str->Option Value} {base:Heap} {x:Str} {k:Nat} {f:List D->R D} (F:FnT P w K mg base x k f):FnP P w K mg base x k f:=by
 obtain ⟨fa,fd,ps,a,b⟩:=F.ex
 refine ⟨fa,fd,ps,a.imp fun vs H Q E ⟨ds,rs,h⟩=>⟨ds,rs,?_⟩,b⟩
 cases e:f ds with
 | ok d=>rw [e] at h;exact ⟨fun v H' s r=>h v H' s r.rep,fun z H' s=>h .non H' s (by rw [z];exact .non)⟩
 | ex C=>rw [e] at h;exact h
 | bad=>rw [e] at h;exact h
section
variable {X:Cx} {N:List Str} {x:Str} {f:List D->R D} {e:Expr} {es:List Expr} {gs:List E} {p pos:Pos} {g:E}
theorem TQ.mono {K:PySem.W.Frag} {mg:Str->Option Value} {H H1:Hp} {d:D} {Q:VK} (s:ao H H1) (h:TQ K mg H d Q):TQ K mg H1 d Q:=⟨fun v H' s' r=>h.1 v H' (s.trans s') (r.anti s),fun z H' s'=>h.2 z H' (s.trans s')⟩
theorem Lu {k:Nat} {fa:Addr} {fd:FuncData} {ps:List Str} {pins:List ↥10} {σ:L2.St} {H:Hp} {s:Shared} {Q:VK} {us:List Value} {vs:List V} {ds:List D}
  (F:FnOk X.prog X.w X.K X.mg X.base (CXF X.prog X.w) k fa fd ps (spT X.K X.mg f)) (hr:Room k X.A) (hb:Binds X.K fd ps []) (I:Inv X pins σ H s) (r:Vals vs us) (rs:Reps X.K X.mg H vs ds) (q:RTT X σ H (f ds) Q) :
  wpAny ↥4 X.A (PySem.call (.ref fa) us) (EP X pins σ Q) X.xe s:=by
 have hsp:spT X.K X.mg f vs H Q (fun c _ H'=>∃ C Ca,f ds=.ex C/\X.mg C=some (.ref Ca)/\c=.ref Ca/\ao H H'):=⟨ds,rs,by
  cases e:f ds with
  | ok d=>rw [e] at q;exact q
  | ex C=>exact fun Ca hc H' s'=>⟨C,Ca,rfl,hc,rfl,s'⟩
  | bad=>rw [e] at q;exact False.elim q⟩
 have hl:us.length=ps.length:=by rw [<- r.length];exact F.len _ _ _ _ hsp
 have hb':=hb s us I.kIn (by rw [List.append_nil];exact hl)
 rw [List.append_nil] at hb'
 refine wpAny_call (codeAny_mono (F.run X.A X.stack s H ⟨us,[]⟩ us vs _ _ hr I.env0 hb' r hsp) fun r s' hq => ?_)
 cases r with
 | error er =>
  obtain ⟨C',H',ea,rfl,FX,C,Ca,e1,hc,e2,s2⟩:=hq
  cases e2
  rw [e1] at q
  exact q C' hc H' s2 pins H s ea s' I FX
 | ok fl =>
  cases fl with
  | ret u=>exact I.after hq
  | next=>exact False.elim hq
  | brk=>exact False.elim hq
  | cont=>exact False.elim hq
theorem x_call (c:CalleeT X x f) (G:Gb X x) (ha:SA X (e::es) gs) (he:starEach (e::es) X.env=↥25::starEach es X.env:=by rfl) (hpl:(backTo pos (starEach es X.env)).any (·.1)=false:=by rfl) :
  TX X (.Call (.Name x p) (e::es) [] pos) (EV.call f gs):=by
 obtain ⟨k,fa,fd,ps,F,hr,hm,hk,hb⟩:=c.ex
 intro pins s σ H Q I ⟨δ,hσ,h⟩
 refine wpAny_Call_Name_kw (je I G.g hm ?_ G.d)
 have hA:RA X σ H (evs gs δ) (fun vs H1=>ao H H1/\∃ ds,Reps X.K X.mg H1 vs ds/\RTT X σ H1 (f ds) Q):=by
  unfold EV.call at h
  cases r:evs gs δ with
  | ok ds =>
   rw [r] at h
   exact fun vs H1 sm rs=>⟨sm,ds,rs,by
    simp only [R.bind] at h
    cases q:f ds with
    | ok d=>rw [q] at h;exact TQ.mono sm h
    | ex C=>rw [q] at h;exact fun Ca hc H' s'=>h Ca hc H' (sm.trans s')
    | bad=>rw [q] at h;exact False.elim h⟩
  | ex C=>rw [r] at h;exact h
  | bad=>rw [r] at h;exact False.elim h
 refine PySem.W.callWith_K (h₀:=X.base) I.ok.mod.kin hk (thn (ha pos pins s σ H _ I ⟨δ,hσ,hA⟩) fun us s1 ⟨vs,H1,I1,r,sm,ds,rs,q⟩=>⟨I1.kIn,Lu F hr hb I1 r rs q⟩) he hpl
end
section
variable {X:Cx} {D:Ends} {F:Hp} {r:R EV.D}
theorem Fn {o:O} (h:OQ X D F (okF r o)):r=.ok ↥28/\OQ X D F o:=by
 unfold okF at h
 split at h
 ·exact ⟨rfl,h⟩
 ·exact False.elim h
theorem rQ {f:Int->O} (h:OQ X D F (okI r f)):∃ m,r=.ok (.int m)/\OQ X D F (f m):=by
 unfold okI at h
 split at h
 ·exact ⟨_,rfl,h⟩
 ·exact False.elim h
theorem Fo (h:OQ X D F (okB r)):∃ b,r=.ok (.bl b)/\OQ X D F (.rt (.bl b)):=by
 unfold okB at h
 split at h
 ·exact ⟨_,rfl,h⟩
 ·exact False.elim h
theorem yN {rs:List EV.D} {o:O} (h:OQ X D F (few rs o)):rs.length<100000/\OQ X D F o:=by
 unfold few at h
 split at h
 ·exact ⟨by assumption,h⟩
 ·exact False.elim h
end
section
variable {K:PySem.W.Frag} {mg:Str->Option Value} {H H' H'':Hp} {σ:L2.St} {δ:Dt} {i:Nat} {v:V} {d:D}
theorem Stt.put (h:Stt K mg H σ δ) (e:σ[i]? = some (some v)) (r:Rep K mg H v d):Stt K mg H σ (δ.set i (some d)):=by
 refine ⟨by rw [List.length_set];exact h.1,fun j d' q n => ?_⟩
 by_cases hj:j=i
 ·subst hj
  by_cases hl:j<δ.length
  ·rw [List.getElem?_set_self hl] at q
   cases q
   exact ⟨v,e,r⟩
  ·rw [List.getElem?_eq_none (by simp;omega)] at q
   cases q
 ·rw [List.getElem?_set_ne (Ne.symm hj)] at q
  exact h.2 j d' q n
theorem Stt.chg {w:Option V} (h:Stt K mg H σ δ):Stt K mg H (σ.set i w) (δ.set i none):=by
 refine ⟨by rw [List.length_set,List.length_set];exact h.1,fun j d' q n => ?_⟩
 by_cases hj:j=i
 ·subst hj
  by_cases hl:j<δ.length
  ·rw [List.getElem?_set_self hl] at q
   cases q
  ·rw [List.getElem?_eq_none (by simp;omega)] at q
   cases q
 ·rw [List.getElem?_set_ne (Ne.symm hj)] at q ⊢
  exact h.2 j d' q n
theorem Stt.del (h:Stt K mg H σ δ):Stt K mg H σ (δ.set i none):=by
 refine ⟨by rw [List.length_set];exact h.1,fun j d' q n => ?_⟩
 by_cases hj:j=i
 ·subst hj
  by_cases hl:j<δ.length
  ·rw [List.getElem?_set_self hl] at q
   cases q
  ·rw [List.getElem?_eq_none (by simp;omega)] at q
   cases q
 ·rw [List.getElem?_set_ne (Ne.symm hj)] at q
  exact h.2 j d' q n
theorem rH {a:Addr} {o:HO} (s:ao H H') (h:H a=none):ao H (upd H' a o):=fun b u q=>by rw [aB (bR q h)];exact s b u q
theorem NoL.of (s:ao H H'):NoL H H':=fun b o e _ _=>s b o e
theorem NoL.trans (s:NoL H H') (t:NoL H' H''):NoL H H'':=fun b o e n m=>t b o (s b o e n m) n m
theorem NoL.up {a:Addr} {xs:List V} {o:HO} (h:H a=some (.lst xs)):NoL H (upd H a o):=fun b u e n m=>by
 rw [aB fun z => ?_]
 ·exact e
 ·rw [z,h] at e
  cases e
  exact n xs rfl
end
section
variable {X:Cx} {N:List Str}
end
section
variable {X:Cx} {N:List Str} {D:Ends} {F:Hp} {r:R EV.D}
theorem Bb {f:List EV.D->List EV.D->O} (h:OQ X D F (KC r f)):∃ ys ws,r=.ok (.tup [.lst ys,.lst ws])/\OQ X D F (f ys ws):=by
 unfold KC at h
 split at h
 ·exact ⟨_,_,rfl,h⟩
 ·exact False.elim h
theorem BW {rs:List EV.D} {o:O} (h:OQ X D F (JW rs o)):(rs.length<100000/\EV.D.flats rs=true)/\OQ X D F o:=by
 unfold JW at h
 split at h
 ·exact ⟨by assumption,h⟩
 ·exact False.elim h
theorem Fl {f:EV.D->O} (h:OQ X D F (okV r f)):∃ d,r=.ok d/\OQ X D F (f d):=by
 unfold okV at h
 split at h
 ·exact ⟨_,rfl,h⟩
 ·exact False.elim h
theorem Fr.lst {K:PySem.W.Frag} {mg:Str->Option Value} {F H:Hp} {v:V} {ds:List EV.D} (h:Fr K mg F H v (.lst ds)):∃ b vs,v=.ref b/\F b=none/\H b=some (.lst vs)/\Reps K mg H vs ds/\EV.D.flats ds=true:=by
 rcases h with ⟨_,_,z⟩ | ⟨b,vs,es,h1,h2,h3⟩
 ·cases z
 ·cases h2
  exact ⟨b,vs,h1,h3⟩
theorem AS (C:Sx X N) (i3 i4 i5:Nat) {x3 x4 x5:Str} (hN3:N[i3]? = some x3) (hN4:N[i4]? = some x4) (hN5:N[i5]? = some x5) (h4:Sto X x4) (h5:Sto X x5)
  {e2 e4 e5 c6 e7 e9 e8:Expr} {g2 g4 g5 gc6 g7 g9 g8:E} {b6:List Stmt} {q1 q3 q4 q5 q6 q7 q9 p4 p5 r1 r2 r3 r4 r5 r6 r7 r8 t4 t5 t6 t7 t8:Pos} {kk k9}
  (k2:TX X e2 g2) (k4:SE X e4 g4) (k5:SE X e5 g5) (k6:ST X c6 gc6) (k7:SE X e7 g7) (k9':SE X e9 g9) (k8:SE X e8 g8)
  (n34:i3≠i4:=by decide) (n35:i3≠i5:=by decide) (n45:i4≠i5:=by decide)
  (w2:swapsWith e2 (some (.Name x4 p4)) q1.line X.env=pure false:=by rfl) (w4:swapsWith e4 (some (.Name x5 p5)) q3.line X.env=pure false:=by rfl)
  (hb5:attributeBase (.Name x3 r1) "append" X.env (eval (.Name x3 r1) X.env)=eval (.Name x3 r1) X.env:=by rfl)
  (hf5:((backTo r3 (starEach [e5] X.env)).all (fun x => !x.1)&&(backToKw r3 (keywordEach [] X.env)).all (fun x=>x.1.isSome)
   && decide ([e5].length+([]:List Keyword).length+(if ([]:List Keyword).isEmpty then 0 else 1)<30))=true:=by rfl)
  (hl5:(r2.endLine == r3.line)=true:=by rfl) (hs5:starEach [e5] X.env=[(false,eval e5 X.env)]:=by rfl)
  (w5:swapsWith (.Call (.Attribute (.Name x3 r1) "append" r2) [e5] [] r3) none q4.line X.env=pure false:=by rfl)
  (hb7:attributeBase (.Subscript (.Name x4 r4) (.Constant (.int 0) kk r5) r6) "append" X.env (eval (.Subscript (.Name x4 r4) (.Constant (.int 0) kk r5) r6) X.env)=eval (.Subscript (.Name x4 r4) (.Constant (.int 0) kk r5) r6) X.env:=by rfl)
  (hf7:((backTo r8 (starEach [e7] X.env)).all (fun x => !x.1)&&(backToKw r8 (keywordEach [] X.env)).all (fun x=>x.1.isSome)
   && decide ([e7].length+([]:List Keyword).length+(if ([]:List Keyword).isEmpty then 0 else 1)<30))=true:=by rfl)
  (hl7:(r7.endLine == r8.line)=true:=by rfl) (hs7:starEach [e7] X.env=[(false,eval e7 X.env)]:=by rfl)
  (w7:swapsWith (.Call (.Attribute (.Subscript (.Name x4 r4) (.Constant (.int 0) kk r5) r6) "append" r7) [e7] [] r8) none q6.line X.env=pure false:=by rfl)
  (pi:pH (.Constant (.int 0) kk r5):=by intro _ _;rfl)
  (hb9:attributeBase (.Subscript (.Name x4 t4) (.Constant (.int 1) k9 t5) t6) "append" X.env (eval (.Subscript (.Name x4 t4) (.Constant (.int 1) k9 t5) t6) X.env)=eval (.Subscript (.Name x4 t4) (.Constant (.int 1) k9 t5) t6) X.env:=by rfl)
  (hf9:((backTo t8 (starEach [e9] X.env)).all (fun x => !x.1)&&(backToKw t8 (keywordEach [] X.env)).all (fun x=>x.1.isSome)
   && decide ([e9].length+([]:List Keyword).length+(if ([]:List Keyword).isEmpty then 0 else 1)<30))=true:=by rfl)
  (hl9:(t7.endLine == t8.line)=true:=by rfl) (hs9:starEach [e9] X.env=[(false,eval e9 X.env)]:=by rfl)
  (w9:swapsWith (.Call (.Attribute (.Subscript (.Name x4 t4) (.Constant (.int 1) k9 t5) t6) "append" t7) [e9] [] t8) none q9.line X.env=pure false:=by rfl)
  (pi9:pH (.Constant (.int 1) k9 t5):=by intro _ _;rfl) :
  SSs X [.Assign [.Name x4 p4] e2 q1,.Assign [.Name x5 p5] e4 q3,.Expr (.Call (.Attribute (.Name x3 r1) "append" r2) [e5] [] r3) q4,.If c6 b6 [] q5,
   .Expr (.Call (.Attribute (.Subscript (.Name x4 r4) (.Constant (.int 0) kk r5) r6) "append" r7) [e7] [] r8) q6,
   .Expr (.Call (.Attribute (.Subscript (.Name x4 t4) (.Constant (.int 1) k9 t5) t6) "append" t7) [e9] [] t8) q9,.Return (some e8) q7] (nu i3 i4 i5 g2 g4 g5 gc6 g7 g9 g8):=by
 intro pins s σ H D I ⟨δ,os,S,q⟩
 have m3:x3∈N:=List.mem_of_getElem? hN3
 have m4:x4∈N:=List.mem_of_getElem? hN4
 have nd:X.N.Nodup:=by rw [C.sc.n];exact C.sc.nd
 have l4:i4<σ.length:=by rw [I.len,C.sc.n];exact (List.getElem?_eq_some_iff.mp hN4).1
 have l5:i5<σ.length:=by rw [I.len,C.sc.n];exact (List.getElem?_eq_some_iff.mp hN5).1
 have v3:=ip (X:=X) (pos:=r1) (i:=i3) (by rw [C.sc.n];exact hN3) (C.sc.vis x3 m3) (C.sc.dbg x3 m3).1 (C.sc.dbg x3 m3).2
 have v4:∀ p,PE X (.Name x4 p) (MG i4):=fun p=>ip (i:=i4) (by rw [C.sc.n];exact hN4) (C.sc.vis x4 m4) (C.sc.dbg x4 m4).1 (C.sc.dbg x4 m4).2
 refine dG (p7 (i:=i4) nd (by rw [C.sc.n];exact hN4) h4.1 k2 w2 h4.2) (dG (p7 (i:=i5) nd (by rw [C.sc.n];exact hN5) h5.1 (uo C.ex k4) w4 h5.2)
  (dG (jb (xw PySem.F.plainAttrs_list PySem.F.slot_list_append PySem.F.type_list_append fI v3 (dY k5 gE hs5) hb5 hf5 hl5 hs5 (by rfl)) w5)
  (dG (EM k6 xm xl) (dG (jb (xw PySem.F.plainAttrs_list PySem.F.slot_list_append PySem.F.type_list_append fI (EU jr (v4 r4) xv pi) (dY k7 gE hs7) hb7 hf7 hl7 hs7 (by rfl)) w7)
  (dG (jb (xw PySem.F.plainAttrs_list PySem.F.slot_list_append PySem.F.type_list_append fI (EU jr (v4 t4) xv pi9) (dY k9' gE hs9) hb9 hf9 hl9 hs9 (by rfl)) w9)
  (oG (xn k8))))))) pins s σ H D I ?_
 unfold nu gB at q
 split at q
 ·rename_i rs e3
  obtain ⟨⟨lr,fl⟩,q⟩:=BW q
  obtain ⟨ys,ws,eg2,q⟩:=Bb q
  obtain ⟨ly,q⟩:=yN q
  obtain ⟨lw,q⟩:=yN q
  obtain ⟨dc,eg4,q⟩:=Fl q
  obtain ⟨m,eg5,q⟩:=rQ q
  obtain ⟨eg6,q⟩:=Fn q
  obtain ⟨m',eg7,q⟩:=rQ q
  obtain ⟨m9,eg9,q⟩:=rQ q
  obtain ⟨b,eg8,q⟩:=Fo q
  obtain ⟨a,ha⟩:=S.own i3 rs e3
  obtain ⟨xs,rs',a1,a2,a3,a4⟩:=S.lst _ ha
  rw [e3] at a3
  cases a3
  have FH:=az H os
  refine ⟨_,(S.st.mono FH).put a2 (.lst (SqL.of a1) (a4.mono FH)),?_⟩
  rw [eg2]
  refine ⟨fun v H1 s1 fT => ?_,fun z=>nomatch z⟩
  obtain ⟨t,v1,v2,d1,d2,ev,ed,ht,f1,f2⟩:=fT
  subst ev
  cases ed
  have hl:=S.lsts
  have S1:=S.mono s1
  have n1:=oN S1.lsts
  have kO:∀ b o,H b=none->H1 b=some o->hide H1 os b=some o:=fun b o n e=>by
   rw [aZ fun z => ?_]
   ·exact e
   ·obtain ⟨_,z⟩:=hl b z
    rw [n] at z
    cases z
  have rT:Rep X.K X.mg (hide H1 os) (.ref t) (.tup [.lst ys,.lst ws]):=.tup (SqT.of (n1 t _ ht (fun _ z=>nomatch z) (fun _ _ z=>nomatch z))) (.cons (f1.keep n1 kO) (.cons (f2.keep n1 kO) .nil))
  obtain ⟨ba,vs,rfl,b0,b1,br,bf⟩:=f1.lst
  obtain ⟨bc,us,rfl,c0,c1,cr,cf⟩:=f2.lst
  obtain ⟨S2,sm2⟩:=S1.set (i:=i4) rT
  refine ⟨_,_,S2,?_⟩
  rw [eg4]
  intro v H2 S3 sm3 rc
  have hk:=kO ba _ b0 b1
  have hk':=kO bc _ c0 c1
  have ht':=n1 t _ ht (fun _ z=>nomatch z) (fun _ _ z=>nomatch z)
  generalize ho:os.filter (fun p=>p.1 != i4)=os2 at *
  have F12:ao ↥20 (hide H2 os2):=(d9 os s1).trans (sm2.trans sm3)
  have S12:=sm2.trans sm3
  have bb:=S12 _ _ hk
  have bb':=S12 _ _ hk'
  have tt:=S12 _ _ ht'
  have rT2:=rT.mono S12
  obtain ⟨a',ha'⟩:=S3.own i3 rs (by rw [List.getElem?_set_ne n34.symm];exact e3)
  obtain ⟨xs2,rs2,y1,y2,y3,y4⟩:=S3.lst _ ha'
  rw [List.getElem?_set_ne n34.symm] at y2 y3
  rw [e3] at y3
  cases y3
  rw [a2] at y2
  have ea:a=a':=by cases y2;rfl
  subst ea
  have Fa:hide H2 os2 a=none:=fK (cI ha')
  have G2:=az H2 os2
  have ab:a≠ba:=fun z=>by rw [z,bb] at Fa;cases Fa
  have ac:a≠bc:=fun z=>by rw [z,bb'] at Fa;cases Fa
  have Fb:hide H os ba=none:=kZ FH b0
  have Fc:hide H os bc=none:=kZ FH c0
  have F0:hide H os a=none:=fK (cI ha)
  have B2:∀ H',ao ↥20 H'->Stt X.K X.mg H' ((σ.set i4 (some (.ref t))).set i5 (some v)) (((δ.set i3 none).set i4 none).set i5 none):=fun H' sF=>(((S.st.mono sF).del).chg).chg
  have A2:((σ.set i4 (some (V.ref t))).set i5 (some v))[i3]? = some (some (.ref a)):=by rw [List.getElem?_set_ne n35.symm,List.getElem?_set_ne n34.symm];exact a2
  have T2:((σ.set i4 (some (V.ref t))).set i5 (some v))[i4]? = some (some (.ref t)):=by rw [List.getElem?_set_ne n45.symm];exact List.getElem?_set_self l4
  have C2:((σ.set i4 (some (V.ref t))).set i5 (some v))[i5]? = some (some v):=List.getElem?_set_self (by rw [List.length_set];exact l5)
  refine ⟨_,A2,.inl ⟨rfl,xs2,SqL.of y1⟩,_,(B2 H2 (F12.trans G2)).put A2 (.lst (SqL.of y1) (y4.mono G2)),?_⟩
  rw [eg5]
  refine fun w H4 s4 rv => ?_
  cases rv
  have aH4:=s4 _ _ y1
  refine ⟨a,xs2,.int m,rfl,rfl,aH4,by rw [y4.length,sizeLine_eq];omega,?_⟩
  have FS5:ao (hide H2 os2) (upd H4 a (.lst (xs2++[.int m]))):=rH (G2.trans s4) Fa
  have R5:∀ {H'},ao (hide H2 os2) H'->H' a=some (.lst (xs2++[.int m]))->Rep X.K X.mg H' (.ref a) (.lst (rs++[.int m])):=fun s h=>.lst (SqL.of h) ((y4.mono s).append (.cons (.int m) .nil))
  have T5:=(B2 _ (F12.trans FS5)).put A2 (R5 FS5 au)
  refine ⟨_,(T5.put T2 (rT2.mono FS5)).put C2 (rc.mono FS5),?_⟩
  rw [eg6]
  refine fun H6 s6=>F9 ?_
  have b6:=s6 _ _ (FS5 _ _ bb)
  refine ⟨_,T2,t,_,0,_,rfl,rfl,SqT.of (s6 _ _ (FS5 _ _ tt)),zu (j:=0) rfl,.inl ⟨rfl,vs,SqL.of b6⟩,_,T5.mono s6,?_⟩
  rw [eg7]
  refine fun w H7 s7 rv => ?_
  cases rv
  have b7:=s7 _ _ b6
  have s57:=s6.trans s7
  refine ⟨ba,vs,.int m',rfl,rfl,b7,by rw [br.length,sizeLine_eq];omega,?_⟩
  have K8:ao ↥20 (upd H7 ba (.lst (vs++[.int m']))):=rH ((F12.trans FS5).trans s57) Fb
  have a8:upd H7 ba (.lst (vs++[.int m'])) a=some (.lst (xs2++[.int m])):=by rw [aB ab];exact s57 _ _ au
  have n8:NoL (hide H2 os2) (upd H7 ba (.lst (vs++[.int m']))):=(NoL.of (FS5.trans s57)).trans (NoL.up b7)
  have t8:=n8 t _ tt (fun _ z=>nomatch z) (fun _ _ z=>nomatch z)
  have c8:∃ us',upd H7 ba (.lst (vs++[.int m'])) bc=some (.lst us')/\us'.length<=100000:=by
   by_cases z:bc=ba
   ·rw [z]
    exact ⟨_,au,by rw [List.length_append,br.length];show ys.length+1<=100000;omega⟩
   ·rw [aB z]
    exact ⟨us,s57 _ _ (FS5 _ _ bb'),by rw [cr.length];omega⟩
  obtain ⟨us',c8,lc⟩:=c8
  refine ⟨_,T2,t,_,1,_,rfl,rfl,SqT.of t8,zu (j:=1) rfl,.inl ⟨rfl,us',SqL.of c8⟩,_,(B2 _ K8).put A2 (.lst (SqL.of a8) ((eI n8 fl y4).append (.cons (.int m) .nil))),?_⟩
  rw [eg9]
  refine fun w H9 s9 rv => ?_
  cases rv
  have c9:=s9 _ _ c8
  refine ⟨bc,us',.int m9,rfl,rfl,c9,by rw [sizeLine_eq];omega,?_⟩
  have K9:ao ↥20 (upd H9 bc (.lst (us'++[.int m9]))):=rH (K8.trans s9) Fc
  refine ⟨_,(B2 _ K9).put A2 (.lst (SqL.of (by rw [aB ac];exact s9 _ _ a8)) ((eI (n8.trans ((NoL.of s9).trans (NoL.up c9))) fl y4).append (.cons (.int m) .nil))),?_⟩
  rw [eg8]
  exact fun v H' s' rv=>q v H' (K9.trans s') rv
 ·exact False.elim q
end
end ES
namespace T
open EV
def cW:S :=
 seq (assign 1 (bin oMod (var 0) ⇑8))
 (seq (assign 2 (bin oDiv (var 0) ⇑8))
 (seq (ifs (bin oLt (var 1) ⇑4) (ret (bin oIx (qY [f9 [⇑5,⇑10],f9 [⇑8,⇑23],f9 [⇑11,⇑52],f9 [⇑15,⇑112]]) (var 1))) (aA))
 (seq (ifs (bin oLt (var 1) ⇑6) (ret (f9 [bin cA ⇑2 (bin oMod (var 2) ⇑14),bin cA ⇑1 (bin oMod (bin oDiv (var 2) ⇑14) ⇑112)])) (aA))
 (ret (f9 [bin cA ⇑2 (bin oMod (var 2) ⇑4),bin cA ⇑1 (bin oMod (bin oDiv (var 2) ⇑4) ⇑5)])))))
def b9:List D->R D:=fn 1 3 cW
def dM:S :=
 ret (bin oIx (qY [con (.str "even"),con (.str "away"),con (.str "nought"),con (.str "up"),con (.str "down")]) (bin oMod (var 0) ⇑5))
def cK:List D->R D:=fn 1 1 dM
def cm:S :=
 seq (assign 2 (bin d5 ⇑1 (bin cA ↥27 ↥11)))
 (seq (assign 3 (bin eA (var 2) (bin d5 ⇑1 ↥11)))
 (seq (assign 4 (bin oMod (var 1) ⇑6))
 (seq (assign 5 (bin oDiv (var 1) ⇑6))
 (seq (ifs (bin oLt (var 4) ⇑2) (seq (assign 10 (bin oMod (bin oJ (var 5) ⇑73846150927364518273645509182736455091829) (bin oJ ⇑2 (var 3))))
 (ret (bin cA (bin oJ (bin oDiv (var 10) (var 3)) (var 2)) (bin oMod (var 10) (var 3))))) (aA))
 (seq (assign 6 (bin oJ (bin oMod (var 5) ⇑2) (var 2)))
 (seq (assign 5 (bin oDiv (var 5) ⇑2))
 (seq (ifs (bin oEq (var 4) ⇑2) (ret (bin cA (var 6) (bin oMod (var 5) ⇑6))) (aA))
 (seq (ifs (bin oEq (var 4) ⇑3) (ret (bin eA (bin eA (bin cA (var 6) (var 3)) ⇑1) (bin oMod (var 5) ⇑4))) (aA))
 (seq (assign 7 (bin eA (bin d5 ⇑1 (bin eA ↥27 ⇑1)) ⇑1))
 (seq (ifs (bin oEq (var 4) ⇑4) (ret (bin cA (bin eA (bin cA (var 6) (bin d5 (var 7) ↥11)) ⇑2) (bin oMod (var 5) ⇑5))) (aA))
 (seq (assign 8 (call Ci [⇑0,call De [bin eA (bin d5 ⇑1 ↥27) ⇑2,bin cA (bin eA (var 7) ⇑3) (bin oMod (var 5) ⇑8)]]))
 (seq (assign 9 (bin oMod (bin oJ (bin oDiv (var 5) ⇑8) ⇑73846150927364518273645509182736455091829) (bin d5 ⇑1 ↥11)))
 (ret (bin cA (bin cA (var 6) (bin d5 (var 8) ↥11)) (var 9)))))))))))))))
def aM:List D->R D:=fn 2 11 cm
def dO:S :=
 seq (assign 3 (bin d5 ⇑1 (bin cA ↥27 ↥11)))
 (seq (assign 4 (bin eA (var 3) (bin d5 ⇑1 ↥11)))
 (seq (assign 5 (bin oMod (var 2) ⇑4))
 (seq (ifs (bin oEq (var 5) ⇑0) (ret (bin oMod (bin cA (var 1) (var 3)) (bin oJ ⇑2 (var 3)))) (aA))
 (seq (assign 6 (bin oMod (var 1) (var 3)))
 (seq (ifs (bin oEq (var 5) ⇑1) (assign 6 (call Ci [bin eA (bin eA (var 6) ⇑1) (bin oMod (bin oDiv (var 2) ⇑8) ⇑3),⇑0])) (aA))
 (seq (ifs (bin oEq (var 5) ⇑2) (assign 6 (call De [bin cA (bin cA (var 6) ⇑1) (bin oMod (bin oDiv (var 2) ⇑8) ⇑3),bin eA (var 4) ⇑1])) (aA))
 (seq (ifs (bin oEq (var 5) ⇑3) (seq (assign 7 (bin oMod (bin oJ (bin oDiv (var 2) ⇑8) ⇑73846150927364518273645509182736455091829) (bin d5 ⇑1 ↥11)))
 (assign 6 (bin cA (bin d5 (bin Be (var 6) ↥11) ↥11) (var 7)))) (aA))
 (ret (bin cA (bin oJ (bin oMod (bin oDiv (var 2) ⇑4) ⇑2) (var 3)) (var 6))))))))))
def bQ:List D->R D:=fn 3 8 dO
def dN:S :=
 seq (mW 3)
 (seq (uu 4 (itA (var 1)) (C0 (td (bin oEq (bin oMod (var 4) ⇑4) ⇑3) (bin oGt (call qZ [var 3]) ⇑0)) (fb 3 (call bQ [var 0,bin oIx (var 3) (un zP ⇑1),bin oDiv (var 4) ⇑4])) (fb 3 (call aM [var 0,bin oDiv (var 4) ⇑4]))))
 (seq (C0 (bin oEq (call qZ [var 3]) ⇑0) (fb 3 (call aM [var 0,var 2])) (aA))
 (CK 3 (ret (slc (bin Bf (var 3) (bin cA ⇑1 (bin oMod (var 2) ⇑3))) none (some ⇑200))))))
def cL:List D->R D:=fn 3 5 dN
def kg:S :=
 seq (ifs (bin gF (var 0) (con (.tup [.str "even",.str "away",.str "nought",.str "up",.str "down"]))) (raise "NoWay") (aA))
 (ret (call (mk1 "Way" "name") [var 0]))
def bx:List D->R D:=fn 1 1 kg
def gw:S :=
 ret (bin d5 ⇑1 (bin cA ↥27 ↥11))
def bP:List D->R D:=fn 1 1 gw
def oZ:S :=
 ret (bin cA (bin cA ↥27 ↥11) ⇑1)
def kP:List D->R D:=fn 1 1 oZ
def km:S :=
 seq (ifs (or_ (bin oLt (var 1) ⇑0) (bin oGe (var 1) (bin d5 ⇑1 (call kP [var 0])))) (raise "NoBits") (aA))
 (seq (assign 2 (bin oMod (var 1) (call bP [var 0])))
 (seq (assign 3 (bin d5 ⇑1 ↥11))
 (ret (f9 [bin oDiv (var 1) (call bP [var 0]),bin oDiv (var 2) (var 3),bin oMod (var 2) (var 3)]))))
def bA:List D->R D:=fn 2 4 km
def dP:S :=
 ret (bin eA (bin d5 ⇑1 ↥27) ⇑1)
def aN:List D->R D:=fn 1 1 dP
def uk:S :=
 seq (assign 2 (call bA [var 0,var 1]))
 (seq (assign 3 (bin oIx (var 2) ⇑1))
 (seq (assign 4 (bin oIx (var 2) ⇑2))
 (seq (ifs (bin oEq (var 3) ⇑0) (ret (ife (bin oEq (var 4) ⇑0) (con (.str "nought")) (con (.str "faint")))) (aA))
 (seq (ifs (bin oEq (var 3) (call aN [var 0])) (ret (ife (bin oEq (var 4) ⇑0) (con (.str "endless")) (con (.str "none")))) (aA))
 (ret (con (.str "plain")))))))
def bD:List D->R D:=fn 2 5 uk
def gA:S :=
 seq (fH 2 (fN (itA (var 1)) [0] (con ↥32) (call bD [var 1,var 0])))
 (CK 2 (ret (bin oIn (con (.str "none")) (var 2))))
def d4:List D->R D:=fn 2 3 gA
def bJ:S :=
 seq (assign 1 ↥11)
 (seq (assign 2 (bin oIx (var 0) ⇑2))
 (seq (ifs (bin oGe (var 2) ⇑0) (ret (f9 [bin oIx (var 0) ⇑0,bin d5 (var 1) (var 2),⇑1])) (aA))
 (ret (f9 [bin oIx (var 0) ⇑0,var 1,bin d5 ⇑1 (un zP (var 2))]))))
def aK:List D->R D:=fn 1 3 bJ
def bL:S :=
 ifs (or_ (bin oLt (var 0) ⇑0) (bin oLt (var 1) ⇑1)) (raise "NoFraction") (aA)
def aX:List D->R D:=fn 2 2 bL
def kj:S :=
 seq (ifs (bin oGe (var 2) ⇑0) (ret (f9 [var 0,bin d5 (var 1) (var 2)])) (aA))
 (ret (f9 [bin d5 (var 0) (un zP (var 2)),var 1]))
def eK:List D->R D:=fn 3 3 kj
def um:S :=
 ret (bin eA (bin d5 ⇑1 (bin eA ↥27 ⇑1)) ⇑1)
def qb:List D->R D:=fn 1 1 um
def BS:S :=
 ret (bin eA (bin eA ⇑1 (call qb [var 0])) ↥11)
def kR:List D->R D:=fn 1 1 BS
def bK:S :=
 seq (ifs (bin oEq (var 0) ⇑0) (ret ⇑0) (aA))
 (seq (ifs (bin oLt (var 1) (var 2)) (ret ⇑1) (aA))
 (ret (ife (bin oEq (var 1) (var 2)) ⇑2 ⇑3)))
def aW:List D->R D:=fn 3 3 bK
def iB:S :=
 ret (call aW [var 0,bin oJ ⇑2 (var 0),var 1])
def fB:List D->R D:=fn 2 2 iB
def ko:S :=
 seq (assign 2 (bin eA (call ji [var 0]) (call ji [var 1])))
 (seq (assign 3 (call eK [var 0,var 1,var 2]))
 (ret (ife (bin oLt (bin oIx (var 3) ⇑0) (bin oIx (var 3) ⇑1)) (var 2) (bin cA (var 2) ⇑1))))
def ir:List D->R D:=fn 2 4 ko
def yF:S :=
 seq (expr (call aX [var 1,var 2]))
 (seq (ifs (bin oEq (var 1) ⇑0) (ret (f9 [⇑0,call kR [var 0],⇑0])) (aA))
 (seq (assign 3 (call Ci [call kR [var 0],bin eA (bin eA (call ir [var 1,var 2]) ↥11) ⇑1]))
 (seq (assign 4 (call eK [var 1,var 2,var 3]))
 (ret (f9 [bin oDiv (bin oIx (var 4) ⇑0) (bin oIx (var 4) ⇑1),var 3,call fB [bin oMod (bin oIx (var 4) ⇑0) (bin oIx (var 4) ⇑1),bin oIx (var 4) ⇑1]])))))
def rP:List D->R D:=fn 3 5 yF
def iE:S :=
 ret (bin d5 (call aN [var 0]) ↥11)
def bo:List D->R D:=fn 1 1 iE
def ki:S :=
 ret (bin cA (bin oJ (var 1) (call bP [var 0])) (var 2))
def bZ:List D->R D:=fn 3 3 ki
def dJ:S :=
 seq (ifs (bin oEq (var 2) (call bo [var 0])) (ret (bin cA ⇑1 ⇑4)) (aA))
 (seq (assign 3 (bin oLt (var 1) (bin d5 ⇑1 ↥11)))
 (ret (ife (var 3) (bin cA ⇑1 ⇑2) ⇑1)))
def cJ:List D->R D:=fn 3 4 dJ
def aO:S :=
 seq (ifs (bin oEq (un (v5 "Way" "name") (var 0)) (con (.str "up"))) (ret (bin oEq (var 1) ⇑0)) (aA))
 (ret (td (bin oEq (un (v5 "Way" "name") (var 0)) (con (.str "down"))) (bin oEq (var 1) ⇑1)))
def aJ:List D->R D:=fn 2 2 aO
def dm:S :=
 seq (ifs (bin oEq (var 3) ⇑0) (ret (con ↥28)) (aA))
 (seq (ifs (bin oEq (un (v5 "Way" "name") (var 0)) (con (.str "even"))) (ret (or_ (bin oEq (var 3) ⇑3) (td (bin oEq (var 3) ⇑2) (var 2)))) (aA))
 (seq (ifs (bin oEq (un (v5 "Way" "name") (var 0)) (con (.str "away"))) (ret (bin oGe (var 3) ⇑2)) (aA))
 (ret (G7 "Way" "flees_nought" aJ (var 0) [var 1]))))
def eO:List D->R D:=fn 4 4 dm
def cN:S :=
 seq (ifs (bin oIn (un (v5 "Way" "name") (var 0)) (f9 [con (.str "even"),con (.str "away")])) (ret (con ↥32)) (aA))
 (ret (G7 "Way" "flees_nought" aJ (var 0) [var 1]))
def dH:List D->R D:=fn 2 2 cN
def iA:S :=
 seq (assign 6 (call bx [var 1]))
 (seq (assign 7 (bin cA (bin d5 (bin eA (var 4) (call kR [var 0])) ↥11) (var 3)))
 (seq (assign 8 (call bo [var 0]))
 (seq (ifs (bin oGe (var 7) (var 8)) (seq (assign 9 (ife (G7 "Way" "bursts" dH (var 6) [var 2]) (var 8) (bin eA (var 8) ⇑1)))
 (ret (f9 [call bZ [var 0,var 2,var 9],bin cA ⇑1 ⇑4]))) (aA))
 (seq (ifs (bin oEq (var 5) ⇑0) (ret (f9 [call bZ [var 0,var 2,var 7],⇑0])) (aA))
 (seq (assign 9 (ife (G7 "Way" "grows" eO (var 6) [var 2,bin oEq (bin mF (var 7) ⇑1) ⇑1,var 5]) (bin cA (var 7) ⇑1) (var 7)))
 (ret (f9 [call bZ [var 0,var 2,var 9],call cJ [var 0,var 7,var 9]])))))))
def fA:List D->R D:=fn 6 10 iA
def fL:S :=
 seq (expr (call bx [var 1]))
 (seq (assign 5 (call rP [var 0,var 3,var 4]))
 (ret (call fA [var 0,var 1,var 2,bin oIx (var 5) ⇑0,bin oIx (var 5) ⇑1,bin oIx (var 5) ⇑2])))
def bh:List D->R D:=fn 5 6 fL
def pd:S :=
 seq (assign 1 (call (pG 0) [comp (itA (var 0)) [] (bin oIx (var 0) ⇑2)]))
 (seq (assign 2 ⇑0)
 (seq (uu 3 (itA (var 0)) (seq (assign 4 (bin d5 (bin oIx (var 3) ⇑1) (bin eA (bin oIx (var 3) ⇑2) (var 1))))
 (assign 2 (ife (bin oEq (bin oIx (var 3) ⇑0) ⇑1) (bin eA (var 2) (var 4)) (bin cA (var 2) (var 4))))))
 (ret (f9 [ife (bin oLt (var 2) ⇑0) ⇑1 ⇑0,call Ha [var 2],var 1]))))
def gU:List D->R D:=fn 1 5 pd
def cV:S :=
 seq (expr (call bx [var 0]))
 (seq (ifs (td (bin oIn ⇑0 (var 1)) (bin oIn ⇑1 (var 1))) (ret (ife (bin oEq (var 0) (con (.str "down"))) ⇑1 ⇑0)) (aA))
 (ret (ife (bin oIn ⇑1 (var 1)) ⇑1 ⇑0)))
def b8:List D->R D:=fn 2 2 cV
def bq:S :=
 seq (assign 3 (call aK [call gU [var 2]]))
 (seq (ifs (bin oEq (bin oIx (var 3) ⇑1) ⇑0) (seq (assign 4 (call b8 [var 1,comp (itA (var 2)) [] ↥27]))
 (ret (f9 [call bZ [var 0,var 4,⇑0],⇑0]))) (aA))
 (ret (call bh [var 0,var 1,bin oIx (var 3) ⇑0,bin oIx (var 3) ⇑1,bin oIx (var 3) ⇑2])))
def ax:List D->R D:=fn 3 5 bq
def eR:S :=
 ret (bin cA (call bo [var 0]) (bin d5 ⇑1 (bin eA ↥11 ⇑1)))
def bj:List D->R D:=fn 1 1 eR
def bu:S :=
 seq (fH 3 (fN (itA (var 2)) [] (un rV ↥11) ↥27))
 (seq (CK 3 (ifs (td (bin oIn ⇑0 (var 3)) (bin oIn ⇑1 (var 3))) (ret (f9 [call bj [var 0],⇑16])) (aA)))
 (seq (ifs (bin oGt (call qZ [var 3]) ⇑0) (ret (f9 [call bZ [var 0,bin oIx (var 3) ⇑0,call bo [var 0]],⇑0])) (aA))
 (ret (call ax [var 0,var 1,var 2]))))
def aG:List D->R D:=fn 3 4 bu
def oY:S :=
 seq (assign 2 (call bA [var 0,var 1]))
 (seq (assign 3 (bin oIx (var 2) ⇑0))
 (seq (assign 4 (bin oIx (var 2) ⇑1))
 (seq (assign 5 (bin oIx (var 2) ⇑2))
 (seq (ifs (bin oEq (var 4) (call aN [var 0])) (raise "NotFinite") (aA))
 (seq (ifs (bin oEq (var 4) ⇑0) (ret (f9 [var 3,var 5,call kR [var 0]])) (aA))
 (ret (f9 [var 3,bin cA (bin d5 ⇑1 ↥11) (var 5),bin eA (bin cA (call kR [var 0]) (var 4)) ⇑1])))))))
def dZ:List D->R D:=fn 2 6 oY
def ck:S :=
 seq (ifs (bin oEq (call bD [var 0,var 1]) (con (.str "endless"))) (ret (f9 [bin oIx (call bA [var 0,var 1]) ⇑0,con .non,⇑0])) (aA))
 (ret (call dZ [var 0,var 1]))
def ay:List D->R D:=fn 2 2 ck
def cG:S :=
 seq (assign 3 (call ay [var 0,var 1]))
 (seq (assign 4 (call ay [var 0,var 2]))
 (seq (assign 5 (bin rW (bin oIx (var 3) ⇑0) (bin oIx (var 4) ⇑0)))
 (seq (ifs (or_ (un rV (bin oIx (var 3) ⇑1)) (un rV (bin oIx (var 4) ⇑1))) (ret (f9 [var 5,con .non,⇑0])) (aA))
 (ret (f9 [var 5,bin oJ (bin oIx (var 3) ⇑1) (bin oIx (var 4) ⇑1),bin cA (bin oIx (var 3) ⇑2) (bin oIx (var 4) ⇑2)])))))
def aY:List D->R D:=fn 3 6 cG
def cj:S :=
 seq (assign 3 (f9 [call bD [var 0,var 1],call bD [var 0,var 2]]))
 (ret (td (bin oIn (con (.str "nought")) (var 3)) (bin oIn (con (.str "endless")) (var 3))))
def aR:List D->R D:=fn 3 4 cj
def cg:S :=
 seq (expr (call bx [var 1]))
 (seq (fG 4 (call nt [var 3]))
 (seq (uu 5 (itA (var 2)) (jm 4 (var 5)))
 (seq (C0 (call d4 [var 0,var 4]) (ret (f9 [call bj [var 0],⇑0])) (aA))
 (seq (ifs (call GP [comp (itA (var 2)) [0] (call aR [var 1,bin oIx (var 0) ⇑0,bin oIx (var 0) ⇑1])]) (ret (f9 [call bj [var 0],⇑16])) (aA))
 (seq (fH 6 (fN (itA (var 2)) [0] (con ↥32) (call aY [var 1,bin oIx (var 0) ⇑0,bin oIx (var 0) ⇑1])))
 (CK 6 (ret (call aG [var 0,var 1,bin cA (var 6) (comp (itA (var 3)) [0] (call ay [var 1,var 0]))]))))))))
def aq:List D->R D:=fn 4 7 cg
def kh:S :=
 ret (call aq [var 0,var 1,qY [],var 2])
def eJ:List D->R D:=fn 3 3 kh
def cX:S :=
 seq (ifs (bin oLt (var 1) (call qZ [var 0])) (ret (bin oIx (var 0) (var 1))) (aA))
 (ret ⇑0)
def aS:List D->R D:=fn 2 2 cX
def dQ:S :=
 uu 2 (itA (var 1)) (expr (call bA [var 0,var 2]))
def bp:List D->R D:=fn 2 3 dQ
def pf:S :=
 ret (call aq [var 0,var 1,qY [],qY [var 2,var 3]])
def cy:List D->R D:=fn 4 4 pf
def iD:S :=
 seq (expr (call bx [var 1]))
 (seq (expr (call bp [var 0,var 2]))
 (seq (mW 3)
 (seq (assign 4 ⇑0)
 (seq (uu 5 (itA (var 2)) (C0 (bin oEq (call qZ [var 3]) ⇑0) (fb 3 (var 5)) (seq (fP 6 (call cy [var 0,var 1,bin oIx (var 3) (un zP ⇑1),var 5]))
 (seq (fb 3 (bin oIx (var 6) ⇑0))
 (assign 4 (bin CS (var 4) (bin oIx (var 6) ⇑1)))))))
 (CK 3 (ret (f9 [var 3,var 4])))))))
def fE:List D->R D:=fn 3 7 iD
def cH:S :=
 seq (expr (call bp [var 0,var 1]))
 (uu 2 (itA (var 1)) (ifs (bin oIn (call bD [var 0,var 2]) (con (.tup [.str "endless",.str "none"]))) (raise "NotFinite") (aA)))
def aF:List D->R D:=fn 2 3 cH
def cq:S :=
 seq (ifs (or_ (bin oIn (call bD [var 0,bin oIx (var 1) ⇑0]) (con (.tup [.str "endless",.str "none"]))) (bin oNe (bin mF (bin oIx (var 1) ⇑1) ⇑4) ⇑0)) (raise "NoLeft") (aA))
 (ret (bin oIx (var 1) ⇑0))
def aU:List D->R D:=fn 2 2 cq
def pe:S :=
 ret (f9 [bin eA ⇑1 ↥27,bin oIx (var 0) ⇑1,bin oIx (var 0) ⇑2])
def kQ:List D->R D:=fn 1 1 pe
def iC:S :=
 seq (assign 2 (call aK [call gU [var 1]]))
 (seq (assign 3 (call bh [var 0,con (.str "even"),bin oIx (var 2) ⇑0,bin oIx (var 2) ⇑1,bin oIx (var 2) ⇑2]))
 (seq (ifs (bin oNe (bin oIx (var 3) ⇑1) ⇑0) (raise "NoLeft") (aA))
 (ret (bin oIx (var 3) ⇑0))))
def fD:List D->R D:=fn 2 4 iC
def eu:S :=
 seq (expr (call aF [var 0,qY [var 1,var 2]]))
 (seq (assign 3 (call aU [var 0,call cy [var 0,con (.str "even"),var 1,var 2]]))
 (seq (assign 4 (qY [call dZ [var 0,var 1],call dZ [var 0,var 2],call kQ [call dZ [var 0,var 3]]]))
 (ret (f9 [var 3,call fD [var 0,var 4]]))))
def bz:List D->R D:=fn 3 5 eu
def eY:S :=
 seq (ifs (bin oEq (call qZ [var 1]) ⇑0) (raise "Empty") (aA))
 (seq (expr (call aF [var 0,var 1]))
 (seq (fG 2 (KD [bin oIx (var 1) ⇑0]))
 (seq (mW 3)
 (seq (uu 4 (itA (slc (var 1) (some ⇑1) none)) (seq (fP 5 (call bz [var 0,bin oIx (var 2) (un zP ⇑1),var 4]))
 (seq (fb 2 (bin oIx (var 5) ⇑0))
 (fb 3 (bin oIx (var 5) ⇑1)))))
 (Kz 2 3)))))
def aT:List D->R D:=fn 2 6 eY
def eS:S :=
 ret (td (call jX [var 0,con (.ty "int")]) (qX (call jX [var 0,con (.ty "bool")])))
def di:List D->R D:=fn 1 1 eS
def cM:S :=
 seq (assign 2 (bin d5 ⇑1 (bin cA ↥27 ↥11)))
 (seq (uu 3 (itA (var 1)) (ifs (or_ (qX (call di [var 3])) (or_ (qX (chain oLe oLt ⇑0 (var 3) (bin oJ ⇑2 (var 2)))) (bin oGe (bin oMod (var 3) (var 2)) (bin eA (var 2) (bin d5 ⇑1 ↥11))))) (ret (con ↥28)) (aA)))
 (ret (con ↥32)))
def aL:List D->R D:=fn 2 4 cM
def eT:S :=
 seq (assign 2 (bin Be (var 1) ↥11))
 (seq (ifs (bin oEq (var 2) ⇑0) (ret (var 1)) (aA))
 (ret (bin d5 (bin cA (bin d5 ⇑1 ↥11) (bin oMod (var 1) (bin d5 ⇑1 ↥11))) (bin eA (var 2) ⇑1))))
def dj:List D->R D:=fn 2 3 eT
def gy:S :=
 seq (assign 2 (bin d5 ⇑1 (bin cA ↥27 ↥11)))
 (seq (assign 3 (call dj [var 0,bin oMod (var 1) (var 2)]))
 (seq (ifs (bin oGe (var 1) (var 2)) (ret (un zP (var 3))) (aA))
 (ret (var 3))))
def aD:List D->R D:=fn 2 4 gy
def gz:S :=
 seq (ifs (or_ (qX (call jX [var 3,con (.ty "tuple")])) (or_ (bin oNe (call qZ [var 3]) ⇑2) (qX (call jX [bin oIx (var 3) ⇑0,con (.ty "list")])))) (ret (con ↥28)) (aA))
 (seq (ifs (or_ (qX (call jX [bin oIx (var 3) ⇑1,con (.ty "list")])) (or_ (bin oNe (call qZ [bin oIx (var 3) ⇑1]) (bin eA (call qZ [var 1]) ⇑1)) (or_ (bin oNe (bin oIx (var 3) ⇑0) (var 2)) (bin oNe (bin oIx (var 2) ⇑0) (bin oIx (var 1) ⇑0))))) (ret (con ↥28)) (aA))
 (seq (ifs (or_ (qX (call aL [var 0,bin oIx (var 3) ⇑0])) (qX (call aL [var 0,bin oIx (var 3) ⇑1]))) (ret (con ↥28)) (aA))
 (seq (uu 4 (Me ⇑1 (call qZ [var 1])) (seq (assign 5 (bin cA (call aD [var 0,bin oIx (var 2) (bin eA (var 4) ⇑1)]) (call aD [var 0,bin oIx (var 1) (var 4)])))
 (ifs (bin oNe (bin cA (call aD [var 0,bin oIx (var 2) (var 4)]) (call aD [var 0,bin oIx (bin oIx (var 3) ⇑1) (bin eA (var 4) ⇑1)])) (var 5)) (ret (con ↥28)) (aA))))
 (ret (con ↥32)))))
def d3:List D->R D:=fn 4 6 gz
def eV:S :=
 seq (fG 2 (call nt [var 1]))
 (nu 2 3 4 (call aT [var 0,var 2]) (qY [call iJ [bin oIx (var 3) ⇑0],call iJ [bin oIx (var 3) ⇑1]]) ⇑1 (bin oNe (qY [bin oIx (var 3) ⇑0,bin oIx (var 3) ⇑1]) (var 4)) ⇑0 ⇑0 (bin oEq (var 2) (bin cA (var 1) (qY [⇑1]))))
def cx:List D->R D:=fn 2 5 eV
def BU:S :=
 seq (assign 1 (call b9 [call aS [var 0,⇑0]]))
 (seq (assign 2 (call cK [call aS [var 0,⇑1]]))
 (seq (assign 3 (call cL [var 1,slc (var 0) (some ⇑2) (some ⇑202),bin oDiv (call aS [var 0,⇑1]) ⇑5]))
 (seq (assign 4 (bin oIx (call fE [var 1,con (.str "even"),call iJ [var 3]]) ⇑0))
 (seq (assign 5 (call iJ [var 3]))
 (seq (assign 6 (con .non))
 (seq (assign 7 (con .non))
 (seq (Kw (assign 7 (call aT [var 1,var 5])) "MillError" 8 (assign 6 (var 8)))
 (seq (ifs (bin oNe (var 5) (var 3)) (ret (con ↥28)) (aA))
 (seq (ifs (qX (call aL [var 1,var 4])) (ret (td (call jX [var 6,con (.cls "NoLeft")]) (qX (call jX [var 6,con (.cls "NotFinite")])))) (aA))
 (seq (ifs (or_ (un mE (var 6)) (qX (call d3 [var 1,var 3,var 4,var 7]))) (ret (con ↥28)) (aA))
 (seq (ifs (or_ (qX (call cx [var 1,var 3])) (qX (call cx [var 1,slc (var 3) none (some ⇑1)]))) (ret (con ↥28)) (aA))
 (seq (assign 9 (call Dd [comp (itA (var 3)) [1] (call aD [var 1,var 0])]))
 (seq (assign 10 (bin cA (qY [bin oIx (var 4) (un zP ⇑1)]) (bin oIx (var 7) ⇑1)))
 (seq (ifs (bin oNe (call Dd [comp (itA (var 10)) [1] (call aD [var 1,var 0])]) (var 9)) (ret (con ↥28)) (aA))
 (seq (assign 11 (call eJ [var 1,var 2,var 3]))
 (seq (assign 12 (call eJ [var 1,var 2,var 10]))
 (seq (ifs (bin oEq (var 9) ⇑0) (ret (td (bin oEq (bin oIx (var 11) ⇑1) ⇑0) (td (bin oEq (bin oIx (var 12) ⇑1) ⇑0) (td (bin oEq (call aD [var 1,bin oIx (var 11) ⇑0]) ⇑0) (bin oEq (call aD [var 1,bin oIx (var 12) ⇑0]) ⇑0))))) (aA))
 (ret (bin oEq (var 11) (var 12))))))))))))))))))))
def A7:List D->R D:=fn 1 13 BU
end T
namespace T
open PySem PySem.Spec PyProof.Rows L2 EV ES
def top (i:Nat):Stmt:=PySem.Challenge.pw_roundmill_k45_whole_kept_turn.main.body.getD i ↥37
set_option maxHeartbeats 4000000
def gn:Stmt:=(cO (top 36)).getD 0 ↥37
def cS:Stmt:=top 69
abbrev iO:List Str:=["_law_cell","_law_way","_law_rest"]
abbrev iU:List Str:=[]
theorem mv:ScF iO iU ["_law_cell"] (aa cS):=by walk_at "S"
def dA:Stmt:=top 70
abbrev jx:List Str:=["_law_cell"]
abbrev jF:List Str:=[]
theorem nY:ScF jx jF ["_law_cell"] (aa dA):=by walk_at "S"
def bY:Stmt:=top 71
abbrev fV:List Str:=["_law_size","_law_cell","_law_half","_law_last","_law_way","_law_rest","_law_side","_law_middle","_law_field","_law_figures","_law_mixed"]
abbrev fZ:List Str:=["max","min"]
theorem jR:ScF fV fZ ["_law_size","_law_cell"] (aa bY):=by walk_at "S"
def dD:Stmt:=top 72
abbrev jA:List Str:=["_law_size","_law_bits","_law_cell","_law_half","_law_last","_law_way","_law_code","_law_figures"]
abbrev jI:List Str:=["max","min"]
theorem oh:ScF jA jI ["_law_size","_law_bits","_law_cell"] (aa dD):=by walk_at "S"
def dB:Stmt:=top 75
abbrev jy:List Str:=["_law_size","_law_cells","_law_first","_law_row","_law_cell"]
abbrev jG:List Str:=["len","_law_beside","_law_finite_by"]
theorem nZ:ScF jy jG ["_law_size","_law_cells","_law_first"] (aa dB):=by walk_at "S"
def j2:Stmt:=top 37
abbrev uN:List Str:=["name"]
abbrev uT:List Str:=["NAMES","NoWay","Way"]
theorem wX:ScF uN uT ["name"] (aa j2):=by walk_at "S"
def gh:Stmt:=top 12
abbrev nz:List Str:=["size"]
abbrev nG:List Str:=[]
theorem rB:ScF nz nG ["size"] (aa gh):=by walk_at "S"
def ot:Stmt:=top 9
abbrev zD:List Str:=["size"]
abbrev zI:List Str:=[]
theorem AJ:ScF zD zI ["size"] (aa ot):=by walk_at "S"
def j6:Stmt:=top 28
abbrev uR:List Str:=["size","bits","code","step"]
abbrev uX:List Str:=["width","NoBits","sign_bit"]
theorem xb:ScF uR uX ["size","bits"] (aa j6):=by walk_at "S"
def dE:Stmt:=top 13
abbrev jB:List Str:=["size"]
abbrev jJ:List Str:=[]
theorem oi:ScF jB jJ ["size"] (aa dE):=by walk_at "S"
def tK:Stmt:=top 30
abbrev Dh:List Str:=["size","bits","parts","field","figures"]
abbrev Dj:List Str:=["parted","last_field"]
theorem EB:ScF Dh Dj ["size","bits"] (aa tK):=by walk_at "S"
def gm:Stmt:=top 47
abbrev nE:List Str:=["size","numbers","kinds"]
abbrev nM:List Str:=[]
theorem rG:ScF nE nM ["size","numbers"] (aa gm):=by walk_at "S"
def bG:Stmt:=top 32
abbrev fc:List Str:=["value","whole","power"]
abbrev fh:List Str:=[]
theorem i6:ScF fc fh ["value"] (aa bG):=by walk_at "S"
def bI:Stmt:=top 17
abbrev fg:List Str:=["top","bottom"]
abbrev fj:List Str:=["NoFraction"]
theorem i8:ScF fg fj ["top","bottom"] (aa bI):=by walk_at "S"
def j5:Stmt:=top 18
abbrev uQ:List Str:=["top","bottom","power"]
abbrev uW:List Str:=[]
theorem xa:ScF uQ uW ["top","bottom","power"] (aa j5):=by walk_at "S"
def tL:Stmt:=top 10
abbrev Di:List Str:=["size"]
abbrev Dk:List Str:=[]
theorem EC:ScF Di Dk ["size"] (aa tL):=by walk_at "S"
def AO:Stmt:=top 11
abbrev Ko:List Str:=["size"]
abbrev Ks:List Str:=["bias"]
theorem Ii:ScF Ko Ks ["size"] (aa AO):=by walk_at "S"
def bH:Stmt:=top 20
abbrev fe:List Str:=["over","number","middle"]
abbrev fi:List Str:=[]
theorem i7:ScF fe fi ["over","number","middle"] (aa bH):=by walk_at "S"
def ia:Stmt:=top 21
abbrev qM:List Str:=["over","step"]
abbrev qS:List Str:=["rest_by_middle"]
theorem vj:ScF qM qS ["over","step"] (aa ia):=by walk_at "S"
def j7:Stmt:=top 19
abbrev uS:List Str:=["top","bottom","guess","parts"]
abbrev uY:List Str:=["scaled"]
theorem xf:ScF uS uY ["top","bottom"] (aa j7):=by walk_at "S"
def AR:Stmt:=top 22
abbrev Kq:List Str:=["size","top","bottom","power","parts"]
abbrev Ku:List Str:=["check_fraction","low","max","height","scaled","rest_of"]
theorem Ik:ScF Kq Ku ["size","top","bottom"] (aa AR):=by walk_at "S"
def ij:Stmt:=top 14
abbrev qP:List Str:=["size"]
abbrev qV:List Str:=["last_field"]
theorem vn:ScF qP qV ["size"] (aa ij):=by walk_at "S"
def j4:Stmt:=top 33
abbrev uP:List Str:=["size","sign","code"]
abbrev uV:List Str:=["sign_bit"]
theorem wZ:ScF uP uV ["size","sign","code"] (aa j4):=by walk_at "S"
def dz:Stmt:=top 40
abbrev jw:List Str:=["size","code","taken","faint"]
abbrev jE:List Str:=["endless","INEXACT","GREAT","SMALL"]
theorem nW:ScF jw jE ["size","code","taken"] (aa dz):=by walk_at "S"
def aC:Stmt:=(cO (top 36)).getD 3 ↥37
abbrev dW:List Str:=["self","sign"]
abbrev dX:List Str:=[]
theorem gQ:ScF dW dX ["self","sign"] (aa aC):=by walk_at "S"
def bN:Stmt:=(cO (top 36)).getD 1 ↥37
abbrev lZ:List Str:=["self","sign","odd","rest"]
abbrev me:List Str:=[]
theorem pX:ScF lZ me ["self","sign","odd","rest"] (aa bN):=by walk_at "S"
def a9:Stmt:=(cO (top 36)).getD 2 ↥37
abbrev jD:List Str:=["self","sign"]
abbrev jL:List Str:=[]
theorem oo:ScF jD jL ["self","sign"] (aa a9):=by walk_at "S"
def hG:Stmt:=top 39
abbrev qK:List Str:=["size","way","sign","whole","power","rest","chosen","code","end","taken"]
abbrev qQ:List Str:=["way_of","low","endless","signed","INEXACT","GREAT","lost_flags"]
theorem vh:ScF qK qQ ["size","way","sign","whole","power","rest"] (aa hG):=by walk_at "S"
def hZ:Stmt:=top 41
abbrev qL:List Str:=["size","way","sign","top","bottom","parts"]
abbrev qR:List Str:=["way_of","cut","settled"]
theorem vi:ScF qL qR ["size","way","sign","top","bottom"] (aa hZ):=by walk_at "S"
def ou:Stmt:=top 43
abbrev zE:List Str:=["terms","power","whole","term","part"]
abbrev zJ:List Str:=["min","abs"]
theorem AK:ScF zE zJ ["terms"] (aa ou):=by walk_at "S"
def cR:Stmt:=top 44
abbrev iN:List Str:=["way","signs"]
abbrev iT:List Str:=["way_of"]
theorem mr:ScF iN iT ["way","signs"] (aa cR):=by walk_at "S"
def bV:Stmt:=top 45
abbrev fR:List Str:=["size","way","terms","value","sign"]
abbrev fW:List Str:=["worth_fraction","total","nought_sign","signed","rounded"]
theorem jO:ScF fR fW ["size","way","terms"] (aa bV):=by walk_at "S"
def eD:Stmt:=top 15
abbrev lU:List Str:=["size"]
abbrev l6:List Str:=["endless"]
theorem pS:ScF lU l6 ["size"] (aa eD):=by walk_at "S"
def bW:Stmt:=top 51
abbrev fS:List Str:=["size","way","terms","signs"]
abbrev fX:List Str:=["no_number","WRONG","len","signed","endless","settled_total"]
theorem jP:ScF fS fX ["size","way","terms"] (aa bW):=by walk_at "S"
def oq:Stmt:=top 31
abbrev zC:List Str:=["size","bits","parts","sign","field","figures"]
abbrev zH:List Str:=["parted","last_field","NotFinite","low"]
theorem AI:ScF zC zH ["size","bits"] (aa oq):=by walk_at "S"
def cQ:Stmt:=top 48
abbrev iM:List Str:=["size","bits"]
abbrev iS:List Str:=["kind","parted","worth"]
theorem ml:ScF iM iS ["size","bits"] (aa cQ):=by walk_at "S"
def cE:Stmt:=top 50
abbrev gK:List Str:=["size","a","b","left","right","sign"]
abbrev gM:List Str:=["number_term"]
theorem kH:ScF gK gM ["size","a","b"] (aa cE):=by walk_at "S"
def bX:Stmt:=top 49
abbrev fU:List Str:=["size","a","b","kinds"]
abbrev fY:List Str:=["kind"]
theorem jQ:ScF fU fY ["size","a","b"] (aa bX):=by walk_at "S"
def cP:Stmt:=top 52
abbrev iL:List Str:=["size","way","pairs","singles","numbers","pair","products"]
abbrev iR:List Str:=["way_of","list","any_none","no_number","any","WRONG","settled_terms"]
theorem mj:ScF iL iR ["size","way","pairs","singles"] (aa cP):=by walk_at "S"
def j3:Stmt:=top 64
abbrev uO:List Str:=["size","way","xs"]
abbrev uU:List Str:=["settled_sum"]
theorem wY:ScF uO uU ["size","way","xs"] (aa j3):=by walk_at "S"
def cT:Stmt:=top 67
abbrev iP:List Str:=["_law_script","_law_k"]
abbrev iV:List Str:=["len"]
theorem mw:ScF iP iV ["_law_script","_law_k"] (aa cT):=by walk_at "S"
def dF:Stmt:=top 29
abbrev jC:List Str:=["size","numbers","bits"]
abbrev jK:List Str:=["parted"]
theorem om:ScF jC jK ["size","numbers"] (aa dF):=by walk_at "S"
def oy:Stmt:=top 54
abbrev zG:List Str:=["size","way","a","b"]
abbrev zL:List Str:=["settled_sum"]
theorem AM:ScF zG zL ["size","way","a","b"] (aa oy):=by walk_at "S"
def ie:Stmt:=top 65
abbrev qO:List Str:=["size","way","xs","steps","flags","bits","pair"]
abbrev qU:List Str:=["way_of","check_bits","len","added"]
theorem vm:ScF qO qU ["size","way","xs"] (aa ie):=by walk_at "S"
def cF:Stmt:=top 57
abbrev gL:List Str:=["size","numbers","bits"]
abbrev gN:List Str:=["check_bits","kind","NOT_FINITE","NotFinite"]
theorem kI:ScF gL gN ["size","numbers"] (aa cF):=by walk_at "S"
def cU:Stmt:=top 58
abbrev iQ:List Str:=["size","pair"]
abbrev iW:List Str:=["kind","NOT_FINITE","GREAT","NoLeft"]
theorem mz:ScF iQ iW ["size","pair"] (aa cU):=by walk_at "S"
def ox:Stmt:=top 59
abbrev zF:List Str:=["term"]
abbrev zK:List Str:=[]
theorem AL:ScF zF zK ["term"] (aa ox):=by walk_at "S"
def ib:Stmt:=top 60
abbrev qN:List Str:=["size","terms","value","pair"]
abbrev qT:List Str:=["worth_fraction","total","rounded","NoLeft"]
theorem vk:ScF qN qT ["size","terms"] (aa ib):=by walk_at "S"
def gf:Stmt:=top 61
abbrev nv:List Str:=["size","a","b","answer","terms"]
abbrev nF:List Str:=["check_finite","kept_answer","added","worth","minus","left_of"]
theorem rA:ScF nv nF ["size","a","b"] (aa gf):=by walk_at "S"
def bM:Stmt:=top 62
abbrev lY:List Str:=["size","xs","steps","lefts","bits","pair"]
abbrev ma:List Str:=["len","Empty","check_finite","sum_left"]
theorem pW:ScF lY ma ["size","xs"] (aa bM):=by walk_at "S"
def eF:Stmt:=top 68
abbrev lV:List Str:=["_law_found"]
abbrev l7:List Str:=["isinstance","int","bool"]
theorem pT:ScF lV l7 ["_law_found"] (aa eF):=by walk_at "S"
def dC:Stmt:=top 76
abbrev jz:List Str:=["_law_size","_law_row","_law_half","_law_bits"]
abbrev jH:List Str:=["_law_whole"]
theorem og:ScF jz jH ["_law_size","_law_row"] (aa dC):=by walk_at "S"
def eG:Stmt:=top 73
abbrev lW:List Str:=["_law_size","_law_code","_law_field"]
abbrev l8:List Str:=[]
theorem pU:ScF lW l8 ["_law_size","_law_code"] (aa eG):=by walk_at "S"
def gi:Stmt:=top 74
abbrev nC:List Str:=["_law_size","_law_bits","_law_half","_law_value_here"]
abbrev nH:List Str:=["_law_value"]
theorem rE:ScF nC nH ["_law_size","_law_bits"] (aa gi):=by walk_at "S"
def gj:Stmt:=top 77
abbrev nD:List Str:=["_law_size","_law_row","_law_steps","_law_found","_law_k","_law_ahead_of"]
abbrev nJ:List Str:=["isinstance","tuple","len","list","_law_finite","range","_law_line"]
theorem rF:ScF nD nJ ["_law_size","_law_row","_law_steps","_law_found"] (aa gj):=by walk_at "S"
def eH:Stmt:=top 78
abbrev lX:List Str:=["_law_size","_law_row","_law_handed","_law_found","_law_told"]
abbrev l9:List Str:=["list","kept_turn"]
theorem pV:ScF lX l9 ["_law_size","_law_row"] (aa eH):=by walk_at "S"
def mB:Stmt:=top 79
abbrev Kp:List Str:=["_law_script","_law_size","_law_way","_law_row","_law_steps","_law_handed","_law_caught","_law_found","e","_law_exact","_law_parts","_law_told","_law_again"]
abbrev Kt:List Str:=["_law_size_by","_law_cell_at","_law_way_by","_law_row_by","in_turn","list","kept_turn","MillError","_law_finite","isinstance","NoLeft","NotFinite","_law_kept","_law_apart","sum","summed","_law_line"]
theorem Ij:ScF Kp Kt ["_law_script"] (aa mB):=by walk_at "S"
section
variable {X:Cx} {k:Nat} (hr:Room k X.A) (L:Lp X) (O:Own X)
include hr L O
theorem pC (P:Pl X iO iU) (hS:X.env.scope=aa cS)
     : SSs X (ag cS) cW:=by
 unfold cW
 exact (ae (P.set 1 (bU (P.v 0) af))
 (ae (P.set 2 (fM (P.v 0) af))
 (ae (P.if_ (zO (P.v 1) af) (ai (P.ret (mh (lJ (ak (bB (a2 af af) ↥2) (ak (bB (a2 af af) ↥2) (ak (bB (a2 af af) ↥2) (ak (bB (a2 af af) ↥2) fQ)))) ↥2) (P.v 1)))) aE)
 (ae (P.if_ (zO (P.v 1) af) (ai (P.ret (bB (a2 (aQ af (bU (P.v 2) af)) (aQ af (bU (fM (P.v 2) af) af))) ↥2))) aE)
 (ai (P.ret (bB (a2 (aQ af (bU (P.v 2) af)) (aQ af (bU (fM (P.v 2) af) af))) ↥2)))))))
theorem qD (P:Pl X jx jF) (hS:X.env.scope=aa dA)
     : SSs X (ag dA) dM:=by
 unfold dM
 exact (ai (P.ret (mh (lJ (ak cY (ak cY (ak cY (ak cY (ak cY fQ))))) ↥2) (bU (P.v 0) af))))
theorem lS (P:Pl X fV fZ) (hS:X.env.scope=aa bY)
  (m_min:X.mg "min"=none) (m_max:X.mg "max"=none):SSs X (ag bY) cm:=by
 unfold cm
 exact (ae (P.set 2 (bF af (aQ (P.y 0) (P.y 0))))
 (ae (P.set 3 (bE (P.v 2) (bF af (P.y 0))))
 (ae (P.set 4 (bU (P.v 1) af))
 (ae (P.set 5 (fM (P.v 1) af))
 (ae (P.if_ (zO (P.v 4) af) (ae (P.set 10 (bU (jT (P.v 5) af) (jT af (P.v 3))))
 (ai (P.ret (aQ (jT (fM (P.v 10) (P.v 3)) (P.v 2)) (bU (P.v 10) (P.v 3)))))) aE)
 (ae (P.set 6 (jT (bU (P.v 5) af) (P.v 2)))
 (ae (P.set 5 (fM (P.v 5) af))
 (ae (P.if_ (gD hr (P.v 4) af) (ai (P.ret (aQ (P.v 6) (bU (P.v 5) af)))) aE)
 (ae (P.if_ (gD hr (P.v 4) af) (ai (P.ret (bE (bE (aQ (P.v 6) (P.v 3)) af) (bU (P.v 5) af)))) aE)
 (ae (P.set 7 (bE (bF af (bE (P.y 0) af)) af))
 (ae (P.if_ (gD hr (P.v 4) af) (ai (P.ret (aQ (bE (aQ (P.v 6) (bF (P.v 7) (P.y 0))) af) (bU (P.v 5) af)))) aE)
 (ae (P.set 8 (cv (Gy L.calm) FF (P.w 0) m_max boot_max (a2 af (cv (Kf L.calm) Jr (P.w 1) m_min boot_min (a2 (bE (bF af (P.y 0)) af) (aQ (bE (P.v 7) af) (bU (P.v 5) af)))))))
 (ae (P.set 9 (bU (jT (fM (P.v 5) af) af) (bF af (P.y 0))))
 (ai (P.ret (aQ (aQ (P.v 6) (bF (P.v 8) (P.y 0))) (P.v 9)))))))))))))))))
theorem qG (P:Pl X jA jI) (hS:X.env.scope=aa dD)
  (m_max:X.mg "max"=none) (m_min:X.mg "min"=none):SSs X (ag dD) dO:=by
 unfold dO
 exact (ae (P.set 3 (bF af (aQ (P.y 0) (P.y 0))))
 (ae (P.set 4 (bE (P.v 3) (bF af (P.y 0))))
 (ae (P.set 5 (bU (P.v 2) af))
 (ae (P.if_ (gD hr (P.v 5) af) (ai (P.ret (bU (aQ (P.v 1) (P.v 3)) (jT af (P.v 3))))) aE)
 (ae (P.set 6 (bU (P.v 1) (P.v 3)))
 (ae (P.if_ (gD hr (P.v 5) af) (ai (P.set 6 (cv (Gy L.calm) FF (P.w 0) m_max boot_max (a2 (bE (bE (P.v 6) af) (bU (fM (P.v 2) af) af)) af)))) aE)
 (ae (P.if_ (gD hr (P.v 5) af) (ai (P.set 6 (cv (Kf L.calm) Jr (P.w 1) m_min boot_min (a2 (aQ (aQ (P.v 6) af) (bU (fM (P.v 2) af) af)) (bE (P.v 4) af))))) aE)
 (ae (P.if_ (gD hr (P.v 5) af) (ae (P.set 7 (bU (jT (fM (P.v 2) af) af) (bF af (P.y 0))))
 (ai (P.set 6 (aQ (bF (J0 (P.v 6) (P.y 0)) (P.y 0)) (P.v 7))))) aE)
 (ai (P.ret (aQ (jT (bU (fM (P.v 2) af) af) (P.v 3)) (P.v 6))))))))))))
theorem qE (P:Pl X jy jG) (hS:X.env.scope=aa dB)
  (m_len:X.mg "len"=none) (c_law_beside:Callee X "_law_beside" bQ) (c_law_finite_by:Callee X "_law_finite_by" aM):SSs X (ag dB) dN:=by
 unfold dN
 exact (ae (ow P.toSx 3 rfl (P.sto _ (mG 3)))
 (ae (ig P.toSx L 4 rfl (P.sto _ (mG 4)) (fJ (P.v 1)) (ai (AQ (t_w (w_and (gD hr (bU (P.v 4) af) af) (wB (MF (cv mL mH (P.w 0) m_len PySem.boot_len (a1 (P.v 3))) af)))) (ai (eC P.toSx 3 rfl (P.call 1 c_law_beside (a3 (P.v 0) (mh (P.v 3) (sI af)) (fM (P.v 4) af))))) (ai (eC P.toSx 3 rfl (P.call 2 c_law_finite_by (a2 (P.v 0) (fM (P.v 4) af))))))))
 (ae (AQ (gD hr (cv mL mH (P.w 0) m_len PySem.boot_len (a1 (P.v 3))) af) (ai (eC P.toSx 3 rfl (P.call 2 c_law_finite_by (a2 (P.v 0) (P.v 2))))) aE)
 (ai (xg 3 (P.ret (BZ (Mq (P.v 3) (aQ af (bU (P.v 2) af))) oH (ik af))))))))
theorem B8 (P:Pl X uN uT) (hS:X.env.scope=aa j2) {C_NoWay:Addr}
  (g_NAMES:GC X "NAMES" (.tup [.str "even",.str "away",.str "nought",.str "up",.str "down"])) (q_NoWay:X.mg "NoWay"=some (.ref  C_NoWay)) (xi_NoWay:PySem.W.excIn X.K C_NoWay bmV "ValueError.__new__"=true) (mk_Way:MakeOk X "Way" "name"):SSs X (ag j2) kg:=by
 unfold kg
 exact (ae (P.if_ (Ei (P.v 0) (Ms (P.w 0) g_NAMES)) (ai (ft (x:="NoWay") L.calm (P.w 1) q_NoWay xi_NoWay)) aE)
 (ai (P.ret (Gs (cn:="Way") (f:="name") mk_Way (P.w 2) (a1 (P.v 0))))))
theorem vV (P:Pl X nz nG) (hS:X.env.scope=aa gh)
     : SSs X (ag gh) gw:=by
 unfold gw
 exact (ai (P.ret (bF af (aQ (P.y 0) (P.y 0)))))
theorem GJ (P:Pl X zD zI) (hS:X.env.scope=aa ot)
     : SSs X (ag ot) oZ:=by
 unfold oZ
 exact (ai (P.ret (aQ (aQ (P.y 0) (P.y 0)) af)))
theorem Cd (P:Pl X uR uX) (hS:X.env.scope=aa j6) {C_NoBits:Addr}
  (c_width:Callee X "width" kP) (q_NoBits:X.mg "NoBits"=some (.ref  C_NoBits)) (xi_NoBits:PySem.W.excIn X.K C_NoBits bmV "ValueError.__new__"=true) (c_sign_bit:Callee X "sign_bit" bP):SSs X (ag j6) km:=by
 unfold km
 exact (ae (P.if_ (t_w (w_or (zO (P.v 1) af) (mi (G6 (P.v 1) (bF af (P.call 0 c_width (a1 (P.v 0)))))))) (ai (ft (x:="NoBits") L.calm (P.w 1) q_NoBits xi_NoBits)) aE)
 (ae (P.set 2 (bU (P.v 1) (P.call 2 c_sign_bit (a1 (P.v 0)))))
 (ae (P.set 3 (bF af (P.y 0)))
 (ai (P.ret (bB (a3 (fM (P.v 1) (P.call 2 c_sign_bit (a1 (P.v 0)))) (fM (P.v 2) (P.v 3)) (bU (P.v 2) (P.v 3))) ↥2))))))
theorem qH (P:Pl X jB jJ) (hS:X.env.scope=aa dE)
     : SSs X (ag dE) dP:=by
 unfold dP
 exact (ai (P.ret (bE (bF af (P.y 0)) af)))
theorem Ki (P:Pl X Dh Dj) (hS:X.env.scope=aa tK)
  (c_parted:Callee X "parted" bA) (c_last_field:Callee X "last_field" aN):SSs X (ag tK) uk:=by
 unfold uk
 exact (ae (P.set 2 (P.call 0 c_parted (a2 (P.v 0) (P.v 1))))
 (ae (P.set 3 (P.y 2))
 (ae (P.set 4 (P.y 2))
 (ae (P.if_ (gD hr (P.v 3) af) (ai (P.ret (yS (gD hr (P.v 4) af) cY cY))) aE)
 (ae (P.if_ (gD hr (P.v 3) (P.call 1 c_last_field (a1 (P.v 0)))) (ai (P.ret (yS (gD hr (P.v 4) af) cY cY))) aE)
 (ai (P.ret cY)))))))
theorem vY (P:Pl X nE nM) (hS:X.env.scope=aa gm)
  (c_kind:Callee X "kind" bD):SSs X (ag gm) gA:=by
 unfold gA
 exact (ae (kK P.toSx L.calm 2 rfl (P.sto _ (mG 2)) (x:="bits") (ksn:=["size"]) (G:=["kind"]) (ks:=[0]) (by walk_at "C") rfl ↥2 (by rw [hS];decide +kernel) (fJ (P.v 1)) (fun C fp s H W S' G'=>.nil) (fun C fp s H W S' G'=>(jt ⟨c_kind.ex⟩ (G' _ (mG 0)) (a2 (dn S' 1 rfl) (dn S' 0 rfl)))) (kC hS (by decide +kernel)))
 (ai (xg 2 (P.ret (Mr cY (P.v 2))))))
theorem jU (P:Pl X fc fh) (hS:X.env.scope=aa bG)
     : SSs X (ag bG) bJ:=by
 unfold bJ
 exact (ae (P.set 1 (P.y 0))
 (ae (P.set 2 (P.y 0))
 (ae (P.if_ (G6 (P.v 2) af) (ai (P.ret (bB (a3 (P.y 0) (bF (P.v 1) (P.v 2)) af) ↥2))) aE)
 (ai (P.ret (bB (a3 (P.y 0) (P.v 1) (bF af (sI (P.v 2)))) ↥2))))))
theorem jW (P:Pl X fg fj) (hS:X.env.scope=aa bI) {C_NoFraction:Addr}
  (q_NoFraction:X.mg "NoFraction"=some (.ref  C_NoFraction)) (xi_NoFraction:PySem.W.excIn X.K C_NoFraction bmV "ValueError.__new__"=true):SSs X (ag bI) bL:=by
 unfold bL
 exact (ai (P.if_ (t_w (w_or (zO (P.v 0) af) (mi (zO (P.v 1) af)))) (ai (ft (x:="NoFraction") L.calm (P.w 0) q_NoFraction xi_NoFraction)) aE))
theorem Cc (P:Pl X uQ uW) (hS:X.env.scope=aa j5)
     : SSs X (ag j5) kj:=by
 unfold kj
 exact (ae (P.if_ (G6 (P.v 2) af) (ai (P.ret (bB (a2 (P.v 0) (bF (P.v 1) (P.v 2))) ↥2))) aE)
 (ai (P.ret (bB (a2 (bF (P.v 0) (sI (P.v 2))) (P.v 1)) ↥2))))
theorem Kj (P:Pl X Di Dk) (hS:X.env.scope=aa tL)
     : SSs X (ag tL) um:=by
 unfold um
 exact (ai (P.ret (bE (bF af (bE (P.y 0) af)) af)))
theorem MA (P:Pl X Ko Ks) (hS:X.env.scope=aa AO)
  (c_bias:Callee X "bias" qb):SSs X (ag AO) BS:=by
 unfold BS
 exact (ai (P.ret (bE (bE af (P.call 0 c_bias (a1 (P.v 0)))) (P.y 0))))
theorem jV (P:Pl X fe fi) (hS:X.env.scope=aa bH)
     : SSs X (ag bH) bK:=by
 unfold bK
 exact (ae (P.if_ (gD hr (P.v 0) af) (ai (P.ret af)) aE)
 (ae (P.if_ (zO (P.v 1) (P.v 2)) (ai (P.ret af)) aE)
 (ai (P.ret (yS (gD hr (P.v 1) (P.v 2)) af af)))))
theorem zj (P:Pl X qM qS) (hS:X.env.scope=aa ia)
  (c_rest_by_middle:Callee X "rest_by_middle" aW):SSs X (ag ia) iB:=by
 unfold iB
 exact (ai (P.ret (P.call 0 c_rest_by_middle (a3 (P.v 0) (jT af (P.v 0)) (P.v 1)))))
theorem Ce (P:Pl X uS uY) (hS:X.env.scope=aa j7)
  (c_scaled:Callee X "scaled" eK):SSs X (ag j7) ko:=by
 unfold ko
 exact (ae (P.set 2 (bE (uB (P.v 0)) (uB (P.v 1))))
 (ae (P.set 3 (P.call 0 c_scaled (a3 (P.v 0) (P.v 1) (P.v 2))))
 (ai (P.ret (yS (zO (P.y 3) (P.y 3)) (P.v 2) (aQ (P.v 2) af))))))
theorem MC (P:Pl X Kq Ku) (hS:X.env.scope=aa AR)
  (c_check_fraction:Callee X "check_fraction" aX) (c_low:Callee X "low" kR) (c_height:Callee X "height" ir) (m_max:X.mg "max"=none) (c_scaled:Callee X "scaled" eK) (c_rest_of:Callee X "rest_of" fB):SSs X (ag AR) yF:=by
 unfold yF
 exact (ae (P.xp (P.call 0 c_check_fraction (a2 (P.v 1) (P.v 2))))
 (ae (P.if_ (gD hr (P.v 1) af) (ai (P.ret (bB (a3 af (P.call 1 c_low (a1 (P.v 0))) af) ↥2))) aE)
 (ae (P.set 3 (cv (Gy L.calm) FF (P.w 2) m_max boot_max (a2 (P.call 1 c_low (a1 (P.v 0))) (bE (bE (P.call 3 c_height (a2 (P.v 1) (P.v 2))) (P.y 0)) af))))
 (ae (P.set 4 (P.call 4 c_scaled (a3 (P.v 1) (P.v 2) (P.v 3))))
 (ai (P.ret (bB (a3 (fM (P.y 4) (P.y 4)) (P.v 3) (P.call 5 c_rest_of (a2 (bU (P.y 4) (P.y 4)) (P.y 4)))) ↥2)))))))
theorem zm (P:Pl X qP qV) (hS:X.env.scope=aa ij)
  (c_last_field:Callee X "last_field" aN):SSs X (ag ij) iE:=by
 unfold iE
 exact (ai (P.ret (bF (P.call 0 c_last_field (a1 (P.v 0))) (P.y 0))))
theorem Cb (P:Pl X uP uV) (hS:X.env.scope=aa j4)
  (c_sign_bit:Callee X "sign_bit" bP):SSs X (ag j4) ki:=by
 unfold ki
 exact (ai (P.ret (aQ (jT (P.v 1) (P.call 0 c_sign_bit (a1 (P.v 0)))) (P.v 2))))
theorem qC (P:Pl X jw jE) (hS:X.env.scope=aa dz)
  (c_endless:Callee X "endless" bo) (g_INEXACT:∃ t,X.mg "INEXACT"=some (.int 1 t)) (g_GREAT:∃ t,X.mg "GREAT"=some (.int 4 t)) (g_SMALL:∃ t,X.mg "SMALL"=some (.int 2 t)):SSs X (ag dz) dJ:=by
 unfold dJ
 exact (ae (P.if_ (gD hr (P.v 2) (P.call 0 c_endless (a1 (P.v 0)))) (ai (P.ret (aQ (gH (P.w 1) g_INEXACT) (gH (P.w 2) g_GREAT)))) aE)
 (ae (P.set 3 (RV (P.v 1) (bF af (P.y 0))))
 (ai (P.ret (yS (gP (P.v 3)) (aQ (gH (P.w 1) g_INEXACT) (gH (P.w 3) g_SMALL)) (gH (P.w 1) g_INEXACT))))))
theorem iI (P:Pl X dW dX) (hS:X.env.scope=aa aC)
  (fl_Way_name:FldOk X "Way" "name"):SSs X (ag aC) aO:=by
 unfold aO
 exact (ae (P.if_ (gD hr (yT (cn:="Way") (f:="name") fl_Way_name (P.v 0)) cY) (ai (P.ret (v7 hr (P.v 1) af))) aE)
 (ai (P.ret (qt (v7 hr (yT (cn:="Way") (f:="name") fl_Way_name (P.v 0)) cY) (sG (v7 hr (P.v 1) af))))))
theorem sW (P:Pl X lZ me) (hS:X.env.scope=aa bN)
  (fl_Way_name:FldOk X "Way" "name") (mt_Way_flees_nought:MethOk X "Way" "flees_nought" aJ):SSs X (ag bN) dm:=by
 unfold dm
 exact (ae (P.if_ (gD hr (P.v 3) af) (ai (P.ret vO)) aE)
 (ae (P.if_ (gD hr (yT (cn:="Way") (f:="name") fl_Way_name (P.v 0)) cY) (ai (P.ret (RU (v7 hr (P.v 3) af) (sG (qt (v7 hr (P.v 3) af) (sG (P.v 2))))))) aE)
 (ae (P.if_ (gD hr (yT (cn:="Way") (f:="name") fl_Way_name (P.v 0)) cY) (ai (P.ret (RW (P.v 3) af))) aE)
 (ai (P.ret (uz (cn:="Way") (m:="flees_nought") mt_Way_flees_nought (P.v 0) (a1 (P.v 1))))))))
theorem qJ (P:Pl X jD jL) (hS:X.env.scope=aa a9)
  (fl_Way_name:FldOk X "Way" "name") (mt_Way_flees_nought:MethOk X "Way" "flees_nought" aJ):SSs X (ag a9) cN:=by
 unfold cN
 exact (ae (P.if_ (CA (yT (cn:="Way") (f:="name") fl_Way_name (P.v 0)) (bB (a2 cY cY) ↥2)) (ai (P.ret vO)) aE)
 (ai (P.ret (uz (cn:="Way") (m:="flees_nought") mt_Way_flees_nought (P.v 0) (a1 (P.v 1))))))
theorem zh (P:Pl X qK qQ) (hS:X.env.scope=aa hG)
  (c_way_of:Callee X "way_of" bx) (c_low:Callee X "low" kR) (c_endless:Callee X "endless" bo) (mt_Way_bursts:MethOk X "Way" "bursts" dH) (c_signed:Callee X "signed" bZ) (g_INEXACT:∃ t,X.mg "INEXACT"=some (.int 1 t)) (g_GREAT:∃ t,X.mg "GREAT"=some (.int 4 t)) (mt_Way_grows:MethOk X "Way" "grows" eO) (c_lost_flags:Callee X "lost_flags" cJ):SSs X (ag hG) iA:=by
 unfold iA
 exact (ae (P.set 6 (P.call 0 c_way_of (a1 (P.v 1))))
 (ae (P.set 7 (aQ (bF (bE (P.v 4) (P.call 1 c_low (a1 (P.v 0)))) (P.y 0)) (P.v 3)))
 (ae (P.set 8 (P.call 2 c_endless (a1 (P.v 0))))
 (ae (P.if_ (G6 (P.v 7) (P.v 8)) (ae (P.set 9 (yS (gP (uz (cn:="Way") (m:="bursts") mt_Way_bursts (P.v 6) (a1 (P.v 2)))) (P.v 8) (bE (P.v 8) af)))
 (ai (P.ret (bB (a2 (P.call 3 c_signed (a3 (P.v 0) (P.v 2) (P.v 9))) (aQ (gH (P.w 4) g_INEXACT) (gH (P.w 5) g_GREAT))) ↥2)))) aE)
 (ae (P.if_ (gD hr (P.v 5) af) (ai (P.ret (bB (a2 (P.call 3 c_signed (a3 (P.v 0) (P.v 2) (P.v 7))) af) ↥2))) aE)
 (ae (P.set 9 (yS (gP (uz (cn:="Way") (m:="grows") mt_Way_grows (P.v 6) (a3 (P.v 2) (v7 hr (C8 (P.v 7) af) af) (P.v 5)))) (aQ (P.v 7) af) (P.v 7)))
 (ai (P.ret (bB (a2 (P.call 3 c_signed (a3 (P.v 0) (P.v 2) (P.v 9))) (P.call 6 c_lost_flags (a3 (P.v 0) (P.v 7) (P.v 9)))) ↥2)))))))))
theorem zi (P:Pl X qL qR) (hS:X.env.scope=aa hZ)
  (c_way_of:Callee X "way_of" bx) (c_cut:Callee X "cut" rP) (c_settled:Callee X "settled" fA):SSs X (ag hZ) fL:=by
 unfold fL
 exact (ae (P.xp (P.call 0 c_way_of (a1 (P.v 1))))
 (ae (P.set 5 (P.call 1 c_cut (a3 (P.v 0) (P.v 3) (P.v 4))))
 (ai (P.ret (P.call 2 c_settled (ak (P.v 0) (ak (P.v 1) (ak (P.v 2) (ak (P.y 5) (ak (P.y 5) (ak (P.y 5) fQ)))))))))))
theorem GK (P:Pl X zE zJ) (hS:X.env.scope=aa ou)
  (m_min:X.mg "min"=none) (m_abs:X.mg "abs"=none):SSs X (ag ou) pd:=by
 unfold pd
 exact (ae (P.set 1 (J2 L.calm (P.w 0) m_min (a1 (m8 L.calm P.sc (x:="term") (ksn:=[]) (G:=[]) (ks:=[]) (by walk_at "C") rfl ↥2 (by rw [hS];decide +kernel) (fJ (P.v 0)) (fun C fp s H W S' G'=>(mh (dn S' 0 rfl) af))))))
 (ae (P.set 2 af)
 (ae (ig P.toSx L 3 rfl (P.sto _ (mG 3)) (fJ (P.v 0)) (ae (P.set 4 (bF (P.y 3) (bE (P.y 3) (P.v 1))))
 (ai (P.set 2 (yS (gD hr (P.y 3) af) (bE (P.v 2) (P.v 4)) (aQ (P.v 2) (P.v 4)))))))
 (ai (P.ret (bB (a3 (yS (zO (P.v 2) af) af af) (cv Mw Mc (P.w 1) m_abs boot_abs (a1 (P.v 2))) (P.v 1)) ↥2))))))
theorem pB (P:Pl X iN iT) (hS:X.env.scope=aa cR)
  (c_way_of:Callee X "way_of" bx):SSs X (ag cR) cV:=by
 unfold cV
 exact (ae (P.xp (P.call 0 c_way_of (a1 (P.v 0))))
 (ae (P.if_ (t_w (w_and (CA af (P.v 1)) (wB (CA af (P.v 1))))) (ai (P.ret (yS (gD hr (P.v 0) cY) af af))) aE)
 (ai (P.ret (yS (CA af (P.v 1)) af af)))))
theorem lO (P:Pl X fR fW) (hS:X.env.scope=aa bV)
  (c_worth_fraction:Callee X "worth_fraction" aK) (c_total:Callee X "total" gU) (c_nought_sign:Callee X "nought_sign" b8) (c_signed:Callee X "signed" bZ) (c_rounded:Callee X "rounded" bh):SSs X (ag bV) bq:=by
 unfold bq
 exact (ae (P.set 3 (P.call 0 c_worth_fraction (a1 (P.call 1 c_total (a1 (P.v 2))))))
 (ae (P.if_ (gD hr (P.y 3) af) (ae (P.set 4 (P.call 2 c_nought_sign (a2 (P.v 1) (m8 L.calm P.sc (x:="term") (ksn:=[]) (G:=[]) (ks:=[]) (by walk_at "C") rfl ↥2 (by rw [hS];decide +kernel) (fJ (P.v 2)) (fun C fp s H W S' G'=>(mh (dn S' 0 rfl) af))))))
 (ai (P.ret (bB (a2 (P.call 3 c_signed (a3 (P.v 0) (P.v 4) af)) af) ↥2)))) aE)
 (ai (P.ret (P.call 4 c_rounded (ak (P.v 0) (ak (P.v 1) (ak (P.y 3) (ak (P.y 3) (ak (P.y 3) fQ))))))))))
theorem sR (P:Pl X lU l6) (hS:X.env.scope=aa eD)
  (c_endless:Callee X "endless" bo):SSs X (ag eD) eR:=by
 unfold eR
 exact (ai (P.ret (aQ (P.call 0 c_endless (a1 (P.v 0))) (bF af (bE (P.y 0) af)))))
theorem lP (P:Pl X fS fX) (hS:X.env.scope=aa bW)
  (c_no_number:Callee X "no_number" bj) (g_WRONG:∃ t,X.mg "WRONG"=some (.int 16 t)) (m_len:X.mg "len"=none) (c_signed:Callee X "signed" bZ) (c_endless:Callee X "endless" bo) (c_settled_total:Callee X "settled_total" ax):SSs X (ag bW) bu:=by
 unfold bu
 exact (ae (kK P.toSx L.calm 3 rfl (P.sto _ (mG 3)) (x:="term") (ksn:=[]) (G:=[]) (ks:=[]) (by walk_at "C") rfl ↥2 (by rw [hS];decide +kernel) (fJ (P.v 2)) (fun C fp s H W S' G'=>.one (Ej (mh (dn S' 0 rfl) af))) (fun C fp s H W S' G'=>(mh (dn S' 0 rfl) af)) (kC hS (by decide +kernel)))
 (ae (xg 3 (P.if_ (t_w (w_and (CA af (P.v 3)) (wB (CA af (P.v 3))))) (ai (P.ret (bB (a2 (P.call 0 c_no_number (a1 (P.v 0))) (gH (P.w 1) g_WRONG)) ↥2))) aE))
 (ae (P.if_ (MF (cv mL mH (P.w 2) m_len PySem.boot_len (a1 (P.v 3))) af) (ai (P.ret (bB (a2 (P.call 3 c_signed (a3 (P.v 0) (P.y 3) (P.call 4 c_endless (a1 (P.v 0))))) af) ↥2))) aE)
 (ai (P.ret (P.call 5 c_settled_total (a3 (P.v 0) (P.v 1) (P.v 2))))))))
theorem GI (P:Pl X zC zH) (hS:X.env.scope=aa oq) {C_NotFinite:Addr}
  (c_parted:Callee X "parted" bA) (c_last_field:Callee X "last_field" aN) (q_NotFinite:X.mg "NotFinite"=some (.ref  C_NotFinite)) (xi_NotFinite:PySem.W.excIn X.K C_NotFinite bmV "ValueError.__new__"=true) (c_low:Callee X "low" kR):SSs X (ag oq) oY:=by
 unfold oY
 exact (ae (P.set 2 (P.call 0 c_parted (a2 (P.v 0) (P.v 1))))
 (ae (P.set 3 (P.y 2))
 (ae (P.set 4 (P.y 2))
 (ae (P.set 5 (P.y 2))
 (ae (P.if_ (gD hr (P.v 4) (P.call 1 c_last_field (a1 (P.v 0)))) (ai (ft (x:="NotFinite") L.calm (P.w 2) q_NotFinite xi_NotFinite)) aE)
 (ae (P.if_ (gD hr (P.v 4) af) (ai (P.ret (bB (a3 (P.v 3) (P.v 5) (P.call 3 c_low (a1 (P.v 0)))) ↥2))) aE)
 (ai (P.ret (bB (a3 (P.v 3) (aQ (bF af (P.y 0)) (P.v 5)) (bE (aQ (P.call 3 c_low (a1 (P.v 0))) (P.v 4)) af)) ↥2)))))))))
theorem pA (P:Pl X iM iS) (hS:X.env.scope=aa cQ)
  (c_kind:Callee X "kind" bD) (c_parted:Callee X "parted" bA) (c_worth:Callee X "worth" dZ):SSs X (ag cQ) ck:=by
 unfold ck
 exact (ae (P.if_ (gD hr (P.call 0 c_kind (a2 (P.v 0) (P.v 1))) cY) (ai (P.ret (bB (a3 (mh (P.call 1 c_parted (a2 (P.v 0) (P.v 1))) af) vN af) ↥2))) aE)
 (ai (P.ret (P.call 2 c_worth (a2 (P.v 0) (P.v 1))))))
theorem mM (P:Pl X gK gM) (hS:X.env.scope=aa cE)
  (c_number_term:Callee X "number_term" ay):SSs X (ag cE) cG:=by
 unfold cG
 exact (ae (P.set 3 (P.call 0 c_number_term (a2 (P.v 0) (P.v 1))))
 (ae (P.set 4 (P.call 0 c_number_term (a2 (P.v 0) (P.v 2))))
 (ae (P.set 5 (J4 (P.y 3) (P.y 4)))
 (ae (P.if_ (t_w (w_or (Ej (P.y 3)) (mi (Ej (P.y 4))))) (ai (P.ret (bB (a3 (P.v 5) vN af) ↥2))) aE)
 (ai (P.ret (bB (a3 (P.v 5) (jT (P.y 3) (P.y 4)) (aQ (P.y 3) (P.y 4))) ↥2)))))))
theorem lQ (P:Pl X fU fY) (hS:X.env.scope=aa bX)
  (c_kind:Callee X "kind" bD):SSs X (ag bX) cj:=by
 unfold cj
 exact (ae (P.set 3 (bB (a2 (P.call 0 c_kind (a2 (P.v 0) (P.v 1))) (P.call 0 c_kind (a2 (P.v 0) (P.v 2)))) ↥2))
 (ai (P.ret (qt (Mr cY (P.v 3)) (sG (Mr cY (P.v 3)))))))
theorem pz (P:Pl X iL iR) (hS:X.env.scope=aa cP)
  (c_way_of:Callee X "way_of" bx) (m_list:X.mg "list"=none) (c_any_none:Callee X "any_none" d4) (c_no_number:Callee X "no_number" bj) (c_product_wrong:Callee X "product_wrong" aR) (m_any:X.mg "any"=none) (g_WRONG:∃ t,X.mg "WRONG"=some (.int 16 t)) (c_product_term:Callee X "product_term" aY) (c_settled_terms:Callee X "settled_terms" aG) (c_number_term:Callee X "number_term" ay):SSs X (ag cP) cg:=by
 unfold cg
 exact (ae (P.xp (P.call 0 c_way_of (a1 (P.v 1))))
 (ae (kJ P.toSx 4 rfl (P.sto _ (mG 4)) (yO (P.w 1) m_list (P.v 3)))
 (ae (ig P.toSx L 5 rfl (P.sto _ (mG 5)) (fJ (P.v 2)) (ai (AN P.toSx 4 rfl (P.v 5))))
 (ae (AQ (gP (P.call 2 c_any_none (a2 (P.v 0) (P.v 4)))) (ai (P.ret (bB (a2 (P.call 3 c_no_number (a1 (P.v 0))) af) ↥2))) aE)
 (ae (P.if_ (gP (cv (Mv L.calm) Ma (P.w 4) m_any boot_any (a1 (m8 L.calm P.sc (x:="pair") (ksn:=["size"]) (G:=["product_wrong"]) (ks:=[0]) (by walk_at "C") rfl ↥2 (by rw [hS];decide +kernel) (fJ (P.v 2)) (fun C fp s H W S' G'=>(jt ⟨c_product_wrong.ex⟩ (G' _ (mG 0)) (a3 (dn S' 1 rfl) (mh (dn S' 0 rfl) af) (mh (dn S' 0 rfl) af)))))))) (ai (P.ret (bB (a2 (P.call 3 c_no_number (a1 (P.v 0))) (gH (P.w 5) g_WRONG)) ↥2))) aE)
 (ae (kK P.toSx L.calm 6 rfl (P.sto _ (mG 6)) (x:="pair") (ksn:=["size"]) (G:=["product_term"]) (ks:=[0]) (by walk_at "C") rfl ↥2 (by rw [hS];decide +kernel) (fJ (P.v 2)) (fun C fp s H W S' G'=>.nil) (fun C fp s H W S' G'=>(jt ⟨c_product_term.ex⟩ (G' _ (mG 0)) (a3 (dn S' 1 rfl) (mh (dn S' 0 rfl) af) (mh (dn S' 0 rfl) af)))) (kC hS (by decide +kernel)))
 (ai (xg 6 (P.ret (P.call 6 c_settled_terms (a3 (P.v 0) (P.v 1) (aQ (P.v 6) (m8 L.calm P.sc (x:="bits") (ksn:=["size"]) (G:=["number_term"]) (ks:=[0]) (by walk_at "C") rfl ↥2 (by rw [hS];decide +kernel) (fJ (P.v 3)) (fun C fp s H W S' G'=>(jt ⟨c_number_term.ex⟩ (G' _ (mG 0)) (a2 (dn S' 1 rfl) (dn S' 0 rfl)))))))))))))))))
theorem B9 (P:Pl X uO uU) (hS:X.env.scope=aa j3)
  (c_settled_sum:Callee X "settled_sum" aq):SSs X (ag j3) kh:=by
 unfold kh
 exact (ai (P.ret (P.call 0 c_settled_sum (ak (P.v 0) (ak (P.v 1) (ak (lJ fQ ↥2) (ak (P.v 2) fQ)))))))
theorem pE (P:Pl X iP iV) (hS:X.env.scope=aa cT)
  (m_len:X.mg "len"=none):SSs X (ag cT) cX:=by
 unfold cX
 exact (ae (P.if_ (zO (P.v 1) (cv mL mH (P.w 0) m_len PySem.boot_len (a1 (P.v 0)))) (ai (P.ret (mh (P.v 0) (P.v 1)))) aE)
 (ai (P.ret af)))
theorem qI (P:Pl X jC jK) (hS:X.env.scope=aa dF)
  (c_parted:Callee X "parted" bA):SSs X (ag dF) dQ:=by
 unfold dQ
 exact (ai (ig P.toSx L 2 rfl (P.sto _ (mG 2)) (fJ (P.v 1)) (ai (P.xp (P.call 0 c_parted (a2 (P.v 0) (P.v 2)))))))
theorem GN (P:Pl X zG zL) (hS:X.env.scope=aa oy)
  (c_settled_sum:Callee X "settled_sum" aq):SSs X (ag oy) pf:=by
 unfold pf
 exact (ai (P.ret (P.call 0 c_settled_sum (ak (P.v 0) (ak (P.v 1) (ak (lJ fQ ↥2) (ak (lJ (a2 (P.v 2) (P.v 3)) ↥2) fQ)))))))
theorem zl (P:Pl X qO qU) (hS:X.env.scope=aa ie)
  (c_way_of:Callee X "way_of" bx) (c_check_bits:Callee X "check_bits" bp) (m_len:X.mg "len"=none) (c_added:Callee X "added" cy):SSs X (ag ie) iD:=by
 unfold iD
 exact (ae (P.xp (P.call 0 c_way_of (a1 (P.v 1))))
 (ae (P.xp (P.call 1 c_check_bits (a2 (P.v 0) (P.v 2))))
 (ae (ow P.toSx 3 rfl (P.sto _ (mG 3)))
 (ae (P.set 4 af)
 (ae (ig P.toSx L 5 rfl (P.sto _ (mG 5)) (fJ (P.v 2)) (ai (AQ (gD hr (cv mL mH (P.w 2) m_len PySem.boot_len (a1 (P.v 3))) af) (ai (eC P.toSx 3 rfl (P.v 5))) (ae (CH P.toSx 6 rfl (P.sto _ (mG 6)) (P.call 3 c_added (ak (P.v 0) (ak (P.v 1) (ak (mh (P.v 3) (sI af)) (ak (P.v 5) fQ))))))
 (ae (eC P.toSx 3 rfl (P.y 6))
 (ai (P.set 4 (Mt (P.v 4) (P.y 6)))))))))
 (ai (xg 3 (P.ret (bB (a2 (P.v 3) (P.v 4)) ↥2)))))))))
theorem mO (P:Pl X gL gN) (hS:X.env.scope=aa cF) {C_NotFinite:Addr}
  (c_check_bits:Callee X "check_bits" bp) (c_kind:Callee X "kind" bD) (g_NOT_FINITE:GC X "NOT_FINITE" (.tup [.str "endless",.str "none"])) (q_NotFinite:X.mg "NotFinite"=some (.ref  C_NotFinite)) (xi_NotFinite:PySem.W.excIn X.K C_NotFinite bmV "ValueError.__new__"=true):SSs X (ag cF) cH:=by
 unfold cH
 exact (ae (P.xp (P.call 0 c_check_bits (a2 (P.v 0) (P.v 1))))
 (ai (ig P.toSx L 2 rfl (P.sto _ (mG 2)) (fJ (P.v 1)) (ai (P.if_ (CA (P.call 1 c_kind (a2 (P.v 0) (P.v 2))) (Ms (P.w 2) g_NOT_FINITE)) (ai (ft (x:="NotFinite") L.calm (P.w 3) q_NotFinite xi_NotFinite)) aE)))))
theorem pF (P:Pl X iQ iW) (hS:X.env.scope=aa cU) {C_NoLeft:Addr}
  (c_kind:Callee X "kind" bD) (g_NOT_FINITE:GC X "NOT_FINITE" (.tup [.str "endless",.str "none"])) (g_GREAT:∃ t,X.mg "GREAT"=some (.int 4 t)) (q_NoLeft:X.mg "NoLeft"=some (.ref  C_NoLeft)) (xi_NoLeft:PySem.W.excIn X.K C_NoLeft bmV "ValueError.__new__"=true):SSs X (ag cU) cq:=by
 unfold cq
 exact (ae (P.if_ (t_w (w_or (CA (P.call 0 c_kind (a2 (P.v 0) (P.y 1))) (Ms (P.w 1) g_NOT_FINITE)) (mi (zM hr (C8 (P.y 1) (gH (P.w 2) g_GREAT)) af)))) (ai (ft (x:="NoLeft") L.calm (P.w 3) q_NoLeft xi_NoLeft)) aE)
 (ai (P.ret (P.y 1))))
theorem GL (P:Pl X zF zK) (hS:X.env.scope=aa ox)
     : SSs X (ag ox) pe:=by
 unfold pe
 exact (ai (P.ret (bB (a3 (bE af (P.y 0)) (P.y 0) (P.y 0)) ↥2)))
theorem zk (P:Pl X qN qT) (hS:X.env.scope=aa ib) {C_NoLeft:Addr}
  (c_worth_fraction:Callee X "worth_fraction" aK) (c_total:Callee X "total" gU) (c_rounded:Callee X "rounded" bh) (q_NoLeft:X.mg "NoLeft"=some (.ref  C_NoLeft)) (xi_NoLeft:PySem.W.excIn X.K C_NoLeft bmV "ValueError.__new__"=true):SSs X (ag ib) iC:=by
 unfold iC
 exact (ae (P.set 2 (P.call 0 c_worth_fraction (a1 (P.call 1 c_total (a1 (P.v 1))))))
 (ae (P.set 3 (P.call 2 c_rounded (ak (P.v 0) (ak cY (ak (P.y 2) (ak (P.y 2) (ak (P.y 2) fQ)))))))
 (ae (P.if_ (zM hr (P.y 3) af) (ai (ft (x:="NoLeft") L.calm (P.w 3) q_NoLeft xi_NoLeft)) aE)
 (ai (P.ret (P.y 3))))))
theorem vU (P:Pl X nv nF) (hS:X.env.scope=aa gf)
  (c_check_finite:Callee X "check_finite" aF) (c_kept_answer:Callee X "kept_answer" aU) (c_added:Callee X "added" cy) (c_worth:Callee X "worth" dZ) (c_minus:Callee X "minus" kQ) (c_left_of:Callee X "left_of" fD):SSs X (ag gf) eu:=by
 unfold eu
 exact (ae (P.xp (P.call 0 c_check_finite (a2 (P.v 0) (lJ (a2 (P.v 1) (P.v 2)) ↥2))))
 (ae (P.set 3 (P.call 1 c_kept_answer (a2 (P.v 0) (P.call 2 c_added (ak (P.v 0) (ak cY (ak (P.v 1) (ak (P.v 2) fQ))))))))
 (ae (P.set 4 (lJ (a3 (P.call 3 c_worth (a2 (P.v 0) (P.v 1))) (P.call 3 c_worth (a2 (P.v 0) (P.v 2))) (P.call 4 c_minus (a1 (P.call 3 c_worth (a2 (P.v 0) (P.v 3)))))) ↥2))
 (ai (P.ret (bB (a2 (P.v 3) (P.call 5 c_left_of (a2 (P.v 0) (P.v 4)))) ↥2))))))
theorem sV (P:Pl X lY ma) (hS:X.env.scope=aa bM) {C_Empty:Addr}
  (c_sum_left:Callee X "sum_left" bz) (c_check_finite:Callee X "check_finite" aF) (m_len:X.mg "len"=none) (q_Empty:X.mg "Empty"=some (.ref  C_Empty)) (xi_Empty:PySem.W.excIn X.K C_Empty bmV "ValueError.__new__"=true):SST X (ag bM) eY:=by
 unfold eY
 exact (pN (P.if_ (gD hr (cv mL mH (P.w 0) m_len PySem.boot_len (a1 (P.v 1))) af) (ai (ft (x:="Empty") L.calm (P.w 1) q_Empty xi_Empty)) aE) (Ju Bw FJ)
 (pN (P.xp (P.call 2 c_check_finite (a2 (P.v 0) (P.v 1)))) FL
 (pN (kJ P.toSx 2 rfl (P.sto _ (mG 2)) (Mo (a1 (P.y 1)) ↥2)) vy
 (pN (ow P.toSx 3 rfl (P.sto _ (mG 3))) xO
 (pN (ig P.toSx L 4 rfl (P.sto _ (mG 4)) (fJ (BZ (P.v 1) (ik af) oH)) (ae (CH P.toSx 5 rfl (P.sto _ (mG 5)) (P.call 3 c_sum_left (a3 (P.v 0) (mh (P.v 2) (sI af)) (P.v 4))))
 (ae (eC P.toSx 2 rfl (P.y 5))
 (ai (eC P.toSx 3 rfl (P.y 5)))))) (FK (CU vz (CU qj qj)))
 (Ld P.toSx 2 3 rfl rfl))))))
theorem sS (P:Pl X lV l7) (hS:X.env.scope=aa eF)
  (m_int:X.mg "int"=none) (isi_int:Isi X (.ty "int")) (hE:nN X) (m_isinstance:X.mg "isinstance"=none) (m_bool:X.mg "bool"=none) (isi_bool:Isi X (.ty "bool")):SSs X (ag eF) eS:=by
 unfold eS
 exact (ai (P.ret (qt (sJ isi_int hE (P.w 0) m_isinstance (P.v 0) (JZ (n:="int") (P.w 1) m_int boot_int)) (sG (J1 (sJ isi_bool hE (P.w 0) m_isinstance (P.v 0) (JZ (n:="bool") (P.w 2) m_bool boot_bool)))))))
theorem qF (P:Pl X jz jH) (hS:X.env.scope=aa dC)
  (c_law_whole:Callee X "_law_whole" di):SSs X (ag dC) cM:=by
 unfold cM
 exact (ae (P.set 2 (bF af (aQ (P.y 0) (P.y 0))))
 (ae (ig P.toSx L 3 rfl (P.sto _ (mG 3)) (fJ (P.v 1)) (ai (P.if_ (t_w (w_or (kA (gP (P.call 0 c_law_whole (a1 (P.v 3))))) (w_or (kA (Ek Rc L7 Jg xB af (P.v 3) (jT af (P.v 2)))) (mi (G6 (bU (P.v 3) (P.v 2)) (bE (P.v 2) (bF af (P.y 0)))))))) (ai (P.ret vO)) aE)))
 (ai (P.ret vO))))
theorem sT (P:Pl X lW l8) (hS:X.env.scope=aa eG)
     : SSs X (ag eG) eT:=by
 unfold eT
 exact (ae (P.set 2 (J0 (P.v 1) (P.y 0)))
 (ae (P.if_ (gD hr (P.v 2) af) (ai (P.ret (P.v 1))) aE)
 (ai (P.ret (bF (aQ (bF af (P.y 0)) (bU (P.v 1) (bF af (P.y 0)))) (bE (P.v 2) af))))))
theorem vW (P:Pl X nC nH) (hS:X.env.scope=aa gi)
  (c_law_value:Callee X "_law_value" dj):SSs X (ag gi) gy:=by
 unfold gy
 exact (ae (P.set 2 (bF af (aQ (P.y 0) (P.y 0))))
 (ae (P.set 3 (P.call 0 c_law_value (a2 (P.v 0) (bU (P.v 1) (P.v 2)))))
 (ae (P.if_ (G6 (P.v 1) (P.v 2)) (ai (P.ret (sI (P.v 3)))) aE)
 (ai (P.ret (P.v 3))))))
theorem vX (P:Pl X nD nJ) (hS:X.env.scope=aa gj)
  (m_tuple:X.mg "tuple"=none) (isi_tuple:Isi X (.ty "tuple")) (hE:nN X) (m_isinstance:X.mg "isinstance"=none) (m_len:X.mg "len"=none) (m_list:X.mg "list"=none) (isi_list:Isi X (.ty "list")) (c_law_finite:Callee X "_law_finite" aL) (m_range:X.mg "range"=none) (c_law_line:Callee X "_law_line" aD):SSs X (ag gj) gz:=by
 unfold gz
 exact (ae (P.if_ (t_w (w_or (kA (gP (sJ isi_tuple hE (P.w 0) m_isinstance (P.v 3) (JZ (n:="tuple") (P.w 1) m_tuple boot_tuple)))) (w_or (zM hr (cv mL mH (P.w 2) m_len PySem.boot_len (a1 (P.v 3))) af) (mi (kA (gP (sJ isi_list hE (P.w 0) m_isinstance (P.y 3) (JZ (n:="list") (P.w 3) m_list boot_list)))))))) (ai (P.ret vO)) aE)
 (ae (P.if_ (t_w (w_or (kA (gP (sJ isi_list hE (P.w 0) m_isinstance (P.y 3) (JZ (n:="list") (P.w 3) m_list boot_list)))) (w_or (zM hr (cv mL mH (P.w 2) m_len PySem.boot_len (a1 (P.y 3))) (bE (cv mL mH (P.w 2) m_len PySem.boot_len (a1 (P.v 1))) af)) (w_or (zM hr (P.y 3) (P.v 2)) (mi (zM hr (P.y 2) (P.y 1))))))) (ai (P.ret vO)) aE)
 (ae (P.if_ (t_w (w_or (kA (gP (P.call 4 c_law_finite (a2 (P.v 0) (P.y 3))))) (mi (kA (gP (P.call 4 c_law_finite (a2 (P.v 0) (P.y 3)))))))) (ai (P.ret vO)) aE)
 (ae (ig P.toSx L 4 rfl (P.sto _ (mG 4)) (JN (P.w 5) m_range af (cv mL mH (P.w 2) m_len PySem.boot_len (a1 (P.v 1)))) (ae (P.set 5 (aQ (P.call 6 c_law_line (a2 (P.v 0) (mh (P.v 2) (bE (P.v 4) af)))) (P.call 6 c_law_line (a2 (P.v 0) (mh (P.v 1) (P.v 4))))))
 (ai (P.if_ (zM hr (aQ (P.call 6 c_law_line (a2 (P.v 0) (mh (P.v 2) (P.v 4)))) (P.call 6 c_law_line (a2 (P.v 0) (mh (P.y 3) (bE (P.v 4) af))))) (P.v 5)) (ai (P.ret vO)) aE))))
 (ai (P.ret vO))))))
theorem sU (P:Pl X lX l9) (hS:X.env.scope=aa eH)
  (m_list:X.mg "list"=none) (cT_kept_turn:CalleeT X "kept_turn" aT):SSs X (ag eH) eV:=by
 unfold eV
 exact (ae (kJ P.toSx 2 rfl (P.sto _ (mG 2)) (yO (P.w 0) m_list (P.v 1))) (AS P.toSx 2 3 4 rfl rfl rfl (P.sto _ (mG 3)) (P.sto _ (mG 4)) (x_call cT_kept_turn (P.w 1) (a2 (P.v 0) (P.v 2))) (lJ (a2 (uA uE tZ (P.w 0) m_list boot_list (a1 (P.y 3))) (uA uE tZ (P.w 0) m_list boot_list (a1 (P.y 3)))) ↥2) af (zM hr (lJ (a2 (P.y 3) (P.y 3)) ↥2) (P.v 4)) af af (v7 hr (P.v 2) (aQ (P.v 1) (lJ (a1 af) ↥2)))))
theorem MB (P:Pl X Kp Kt) (hS:X.env.scope=aa mB) {C_MillError C_NoLeft C_NotFinite:Addr}
  (c_law_size_by:Callee X "_law_size_by" b9) (c_law_cell_at:Callee X "_law_cell_at" aS) (c_law_way_by:Callee X "_law_way_by" cK) (c_law_row_by:Callee X "_law_row_by" cL) (c_in_turn:Callee X "in_turn" fE) (m_list:X.mg "list"=none) (c_kept_turn:Callee X "kept_turn" aT) (lc_8:X.env.scope.names.lookup ("e":Str)=some .local) (q_MillError:X.mg "MillError"=some (.ref  C_MillError)) (ct_MillError:tf X "MillError" C_MillError) (c_law_finite:Callee X "_law_finite" aL) (q_NoLeft:X.mg "NoLeft"=some (.ref  C_NoLeft)) (isi_NoLeft:Isi X (.cls "NoLeft")) (hE:nN X) (m_isinstance:X.mg "isinstance"=none) (q_NotFinite:X.mg "NotFinite"=some (.ref  C_NotFinite)) (isi_NotFinite:Isi X (.cls "NotFinite")) (c_law_kept:Callee X "_law_kept" d3) (c_law_apart:Callee X "_law_apart" cx) (c_law_line:Callee X "_law_line" aD) (m_sum:X.mg "sum"=none) (c_summed:Callee X "summed" eJ):SSs X (ag mB) BU:=by
 unfold BU
 exact (ae (P.set 1 (P.call 0 c_law_size_by (a1 (P.call 1 c_law_cell_at (a2 (P.v 0) af)))))
 (ae (P.set 2 (P.call 2 c_law_way_by (a1 (P.call 1 c_law_cell_at (a2 (P.v 0) af)))))
 (ae (P.set 3 (P.call 3 c_law_row_by (a3 (P.v 1) (BZ (P.v 0) (ik af) (ik af)) (fM (P.call 1 c_law_cell_at (a2 (P.v 0) af)) af))))
 (ae (P.set 4 (mh (P.call 4 c_in_turn (a3 (P.v 1) cY (uA uE tZ (P.w 5) m_list boot_list (a1 (P.v 3))))) af))
 (ae (P.set 5 (uA uE tZ (P.w 5) m_list boot_list (a1 (P.v 3))))
 (ae (P.set 6 vN)
 (ae (P.set 7 vN)
 (ae (Lr (cls:="MillError") P O 8 rfl lc_8 (P.w 7) q_MillError ct_MillError (fun pins W=>(ai (ED (P.try pins W).toSx 7 rfl ((P.try pins W).sto _ (mG 7)) (jt ⟨c_kept_turn.ex⟩ ((P.try pins W).gb _ (mG 6)) (a2 (dn (P.try pins W).sc 1 rfl) (dn (P.try pins W).sc 5 rfl)))))) (fun ea=>(ai (ED (P.inn ea).toSx 6 rfl ((P.inn ea).sto _ (mG 6)) (dn (P.inn ea).sc 8 rfl)))))
 (ae (P.if_ (zM hr (P.v 5) (P.v 3)) (ai (P.ret vO)) aE)
 (ae (P.if_ (kA (gP (P.call 8 c_law_finite (a2 (P.v 1) (P.v 4))))) (ai (P.ret (qt (sJ isi_NoLeft hE (P.w 9) m_isinstance (P.v 6) (J3 (x:="NoLeft") (P.w 10) q_NoLeft)) (sG (J1 (sJ isi_NotFinite hE (P.w 9) m_isinstance (P.v 6) (J3 (x:="NotFinite") (P.w 11) q_NotFinite))))))) aE)
 (ae (P.if_ (t_w (w_or (HV (P.v 6)) (mi (kA (gP (P.call 12 c_law_kept (ak (P.v 1) (ak (P.v 3) (ak (P.v 4) (ak (P.v 7) fQ)))))))))) (ai (P.ret vO)) aE)
 (ae (P.if_ (t_w (w_or (kA (gP (P.call 13 c_law_apart (a2 (P.v 1) (P.v 3))))) (mi (kA (gP (P.call 13 c_law_apart (a2 (P.v 1) (BZ (P.v 3) oH (ik af))))))))) (ai (P.ret vO)) aE)
 (ae (P.set 9 (cv (Kd L.calm) Jp (P.w 14) m_sum boot_sum (a1 (m8 L.calm P.sc (x:="_law_bits") (ksn:=["_law_size"]) (G:=["_law_line"]) (ks:=[1]) (by walk_at "C") rfl ↥2 (by rw [hS];decide +kernel) (fJ (P.v 3)) (fun C fp s H W S' G'=>(jt ⟨c_law_line.ex⟩ (G' _ (mG 0)) (a2 (dn S' 1 rfl) (dn S' 0 rfl))))))))
 (ae (P.set 10 (aQ (lJ (a1 (mh (P.v 4) (sI af))) ↥2) (P.y 7)))
 (ae (P.if_ (zM hr (cv (Kd L.calm) Jp (P.w 14) m_sum boot_sum (a1 (m8 L.calm P.sc (x:="_law_bits") (ksn:=["_law_size"]) (G:=["_law_line"]) (ks:=[1]) (by walk_at "C") rfl ↥2 (by rw [hS];decide +kernel) (fJ (P.v 10)) (fun C fp s H W S' G'=>(jt ⟨c_law_line.ex⟩ (G' _ (mG 0)) (a2 (dn S' 1 rfl) (dn S' 0 rfl))))))) (P.v 9)) (ai (P.ret vO)) aE)
 (ae (P.set 11 (P.call 15 c_summed (a3 (P.v 1) (P.v 2) (P.v 3))))
 (ae (P.set 12 (P.call 15 c_summed (a3 (P.v 1) (P.v 2) (P.v 10))))
 (ae (P.if_ (gD hr (P.v 9) af) (ai (P.ret (qt (v7 hr (P.y 11) af) (qt (v7 hr (P.y 12) af) (qt (v7 hr (P.call 16 c_law_line (a2 (P.v 1) (P.y 11))) af) (sG (v7 hr (P.call 16 c_law_line (a2 (P.v 1) (P.y 12))) af))))))) aE)
 (ai (P.ret (v7 hr (P.v 11) (P.v 12))))))))))))))))))))))
end
theorem all_mk {P:Program} {w:World} {K:PySem.W.Frag} {h:Heap} {mg:Str->Option Value} {fa:Addr} (KX:K.In h) (GG:h.Ns mainGlobals mg) (hfa:mg "law"=some (.ref fa))
  {C_Way:Addr} (n_Way:PySem.W.nsIn K mainGlobals "Way"=some (some (.ref C_Way)))
  (pg_Way:PySem.W.plainGet K C_Way Str.empty=true) (hd_Way:PySem.W.hasDictIn K C_Way=true) (po_Way:PySem.W.plainOver K C_Way=true) (sa_Way:PySem.W.findIn K (.ref C_Way) "__setattr__"=some (some (.builtin "object.__setattr__")))
  (na_Way:PySem.W.findIn K (.ref C_Way) "name"=some none)
  {fIWay:Addr} {odIWay anIWay:Option Addr} {slIWay:Array (Option Value)} {ocIWay kVIWay dcIWay pmIWay cdIWay ctIWay:Value}
  (aIWay:PySem.W.findIn K (.ref C_Way) "__init__"=some (some (.ref fIWay))) (uIWay:PySem.W.isFn K (.ref fIWay)=true) (mm_Way:PySem.W.makesIn K C_Way=true) (kc_Way:PySem.W.keepIn K (.ref C_Way)=true)
  (lIWay:K.lookup fIWay=some ⟨ocIWay,odIWay,.func (PySem.W.fnOf "__init__" "Way.__init__" (dq gn) (ag gn) (aa gn) .none kVIWay dcIWay pmIWay anIWay cdIWay ctIWay),slIWay⟩)
  (eIWay:PySem.W.codeIn K cdIWay "Way.__init__"=true) (kIWay:PySem.W.keepIn K (.ref fIWay)=true)
  (q1:DA K "_law_size_by" cS)
  (q2:DA K "_law_way_by" dA)
  (q3:DA K "_law_finite_by" bY)
  (q4:DA K "_law_beside" dD)
  (q5:DA K "_law_row_by" dB)
  (q6:DA K "way_of" j2)
  (q7:DA K "sign_bit" gh)
  (q8:DA K "width" ot)
  (q9:DA K "parted" j6)
  (q10:DA K "last_field" dE)
  (q11:DA K "kind" tK)
  (q12:DA K "any_none" gm)
  (q13:DA K "worth_fraction" bG)
  (q14:DA K "check_fraction" bI)
  (q15:DA K "scaled" j5)
  (q16:DA K "bias" tL)
  (q17:DA K "low" AO)
  (q18:DA K "rest_by_middle" bH)
  (q19:DA K "rest_of" ia)
  (q20:DA K "height" j7)
  (q21:DA K "cut" AR)
  (q22:DA K "endless" ij)
  (q23:DA K "signed" j4)
  (q24:DA K "lost_flags" dz)
  {f25:Addr} {od25 an25:Option Addr} {sl25:Array (Option Value)} {oc25 kV25 dc25 pm25 cd25 ct25:Value}
  (a25:PySem.W.findIn K (.ref C_Way) "flees_nought"=some (some (.ref f25))) (u25:PySem.W.isFn K (.ref f25)=true)
  (l25:K.lookup f25=some ⟨oc25,od25,.func (PySem.W.fnOf "flees_nought" "Way.flees_nought" (dq aC) (ag aC) (aa aC) .none kV25 dc25 pm25 an25 cd25 ct25),sl25⟩)
  (e25:PySem.W.codeIn K cd25 "Way.flees_nought"=true) (k25:PySem.W.keepIn K (.ref f25)=true)
  {f26:Addr} {od26 an26:Option Addr} {sl26:Array (Option Value)} {oc26 kV26 dc26 pm26 cd26 ct26:Value}
  (a26:PySem.W.findIn K (.ref C_Way) "grows"=some (some (.ref f26))) (u26:PySem.W.isFn K (.ref f26)=true)
  (l26:K.lookup f26=some ⟨oc26,od26,.func (PySem.W.fnOf "grows" "Way.grows" (dq bN) (ag bN) (aa bN) .none kV26 dc26 pm26 an26 cd26 ct26),sl26⟩)
  (e26:PySem.W.codeIn K cd26 "Way.grows"=true) (k26:PySem.W.keepIn K (.ref f26)=true)
  {f27:Addr} {od27 an27:Option Addr} {sl27:Array (Option Value)} {oc27 kV27 dc27 pm27 cd27 ct27:Value}
  (a27:PySem.W.findIn K (.ref C_Way) "bursts"=some (some (.ref f27))) (u27:PySem.W.isFn K (.ref f27)=true)
  (l27:K.lookup f27=some ⟨oc27,od27,.func (PySem.W.fnOf "bursts" "Way.bursts" (dq a9) (ag a9) (aa a9) .none kV27 dc27 pm27 an27 cd27 ct27),sl27⟩)
  (e27:PySem.W.codeIn K cd27 "Way.bursts"=true) (k27:PySem.W.keepIn K (.ref f27)=true)
  (q28:DA K "settled" hG)
  (q29:DA K "rounded" hZ)
  (q30:DA K "total" ou)
  (q31:DA K "nought_sign" cR)
  (q32:DA K "settled_total" bV)
  (q33:DA K "no_number" eD)
  (q34:DA K "settled_terms" bW)
  (q35:DA K "worth" oq)
  (q36:DA K "number_term" cQ)
  (q37:DA K "product_term" cE)
  (q38:DA K "product_wrong" bX)
  (q39:DA K "settled_sum" cP)
  (q40:DA K "summed" j3)
  (q41:DA K "_law_cell_at" cT)
  (q42:DA K "check_bits" dF)
  (q43:DA K "added" oy)
  (q44:DA K "in_turn" ie)
  (q45:DA K "check_finite" cF)
  (q46:DA K "kept_answer" cU)
  (q47:DA K "minus" ox)
  (q48:DA K "left_of" ib)
  (q49:DA K "sum_left" gf)
  {f50:Addr} {od50 an50:Option Addr} {sl50:Array (Option Value)} {oc50 kV50 dc50 pm50 cd50 ct50:Value}
  (a50:PySem.W.nsIn K mainGlobals "kept_turn"=some (some (.ref f50)))
  (l50:K.lookup f50=some ⟨oc50,od50,.func (PySem.W.fnOf "kept_turn" "kept_turn" (dq bM) (ag bM) (aa bM) .none kV50 dc50 pm50 an50 cd50 ct50),sl50⟩)
  (e50:PySem.W.codeIn K cd50 "kept_turn"=true) (k50:PySem.W.keepIn K (.ref f50)=true)
  (q51:DA K "_law_whole" eF)
  (q52:DA K "_law_finite" dC)
  (q53:DA K "_law_value" eG)
  (q54:DA K "_law_line" gi)
  (q55:DA K "_law_kept" gj)
  (q56:DA K "_law_apart" eH)
  {f57:Addr} {od57 an57:Option Addr} {sl57:Array (Option Value)} {oc57 kV57 dc57 pm57 cd57 ct57:Value}
  (a57:PySem.W.nsIn K mainGlobals "law"=some (some (.ref f57)))
  (l57:K.lookup f57=some ⟨oc57,od57,.func (PySem.W.fnOf "law" "law" (dq mB) (ag mB) (aa mB) .none kV57 dc57 pm57 an57 cd57 ct57),sl57⟩)
  (e57:PySem.W.codeIn K cd57 "law"=true) (k57:PySem.W.keepIn K (.ref f57)=true)
  (z_min:PySem.W.nsIn K mainGlobals "min"=some none)
  (z_max:PySem.W.nsIn K mainGlobals "max"=some none)
  (z_len:PySem.W.nsIn K mainGlobals "len"=some none)
  (z_abs:PySem.W.nsIn K mainGlobals "abs"=some none)
  (z_list:PySem.W.nsIn K mainGlobals "list"=some none)
  (z_any:PySem.W.nsIn K mainGlobals "any"=some none)
  (z_int:PySem.W.nsIn K mainGlobals "int"=some none)
  (z_isinstance:PySem.W.nsIn K mainGlobals "isinstance"=some none)
  (z_bool:PySem.W.nsIn K mainGlobals "bool"=some none)
  (z_tuple:PySem.W.nsIn K mainGlobals "tuple"=some none)
  (z_range:PySem.W.nsIn K mainGlobals "range"=some none)
  (z_sum:PySem.W.nsIn K mainGlobals "sum"=some none)
  {A_NAMES:Addr} {dd_NAMES:Option Addr} {nn_NAMES:Nat} {ss_NAMES:Array (Option Value)} {t0_NAMES t1_NAMES t2_NAMES t3_NAMES t4_NAMES:Tok} (y_NAMES:PySem.W.nsIn K mainGlobals "NAMES"=some (some (.ref A_NAMES)))
  (yl_NAMES:K.lookup A_NAMES=some ⟨.type "tuple",dd_NAMES,.seq #[.str "even" t0_NAMES,.str "away" t1_NAMES,.str "nought" t2_NAMES,.str "up" t3_NAMES,.str "down" t4_NAMES] nn_NAMES,ss_NAMES⟩)
  {t_INEXACT:Tok} (y_INEXACT:PySem.W.nsIn K mainGlobals "INEXACT"=some (some (.int 1 t_INEXACT)))
  {t_GREAT:Tok} (y_GREAT:PySem.W.nsIn K mainGlobals "GREAT"=some (some (.int 4 t_GREAT)))
  {t_SMALL:Tok} (y_SMALL:PySem.W.nsIn K mainGlobals "SMALL"=some (some (.int 2 t_SMALL)))
  {t_WRONG:Tok} (y_WRONG:PySem.W.nsIn K mainGlobals "WRONG"=some (some (.int 16 t_WRONG)))
  {A_NOT_FINITE:Addr} {dd_NOT_FINITE:Option Addr} {nn_NOT_FINITE:Nat} {ss_NOT_FINITE:Array (Option Value)} {t0_NOT_FINITE t1_NOT_FINITE:Tok} (y_NOT_FINITE:PySem.W.nsIn K mainGlobals "NOT_FINITE"=some (some (.ref A_NOT_FINITE)))
  (yl_NOT_FINITE:K.lookup A_NOT_FINITE=some ⟨.type "tuple",dd_NOT_FINITE,.seq #[.str "endless" t0_NOT_FINITE,.str "none" t1_NOT_FINITE] nn_NOT_FINITE,ss_NOT_FINITE⟩)
  {C_MillError:Addr} (n_MillError:PySem.W.nsIn K mainGlobals "MillError"=some (some (.ref C_MillError)))
  {C_NoBits:Addr} (n_NoBits:PySem.W.nsIn K mainGlobals "NoBits"=some (some (.ref C_NoBits)))
  {C_NotFinite:Addr} (n_NotFinite:PySem.W.nsIn K mainGlobals "NotFinite"=some (some (.ref C_NotFinite)))
  {C_NoWay:Addr} (n_NoWay:PySem.W.nsIn K mainGlobals "NoWay"=some (some (.ref C_NoWay)))
  {C_NoFraction:Addr} (n_NoFraction:PySem.W.nsIn K mainGlobals "NoFraction"=some (some (.ref C_NoFraction)))
  {C_Empty:Addr} (n_Empty:PySem.W.nsIn K mainGlobals "Empty"=some (some (.ref C_Empty)))
  {C_NoLeft:Addr} (n_NoLeft:PySem.W.nsIn K mainGlobals "NoLeft"=some (some (.ref C_NoLeft)))
  (xi_NoWay:PySem.W.excIn K C_NoWay bmV "ValueError.__new__"=true)
  (xi_NoBits:PySem.W.excIn K C_NoBits bmV "ValueError.__new__"=true)
  (xi_NoFraction:PySem.W.excIn K C_NoFraction bmV "ValueError.__new__"=true)
  (xi_NotFinite:PySem.W.excIn K C_NotFinite bmV "ValueError.__new__"=true)
  (xi_NoLeft:PySem.W.excIn K C_NoLeft bmV "ValueError.__new__"=true)
  (xi_Empty:PySem.W.excIn K C_Empty bmV "ValueError.__new__"=true)
  (v_MillError:XCls K C_MillError)
  (w_NoSize:PySem.W.nsIn K mainGlobals "NoSize"=some none)
  (v_NoBits:XCls K C_NoBits)
  (w_NoParts:PySem.W.nsIn K mainGlobals "NoParts"=some none)
  (w_NoRank:PySem.W.nsIn K mainGlobals "NoRank"=some none)
  (v_NotFinite:XCls K C_NotFinite)
  (v_NoWay:XCls K C_NoWay)
  (w_NoFlags:PySem.W.nsIn K mainGlobals "NoFlags"=some none)
  (v_NoFraction:XCls K C_NoFraction)
  (w_Unlike:PySem.W.nsIn K mainGlobals "Unlike"=some none)
  (v_Empty:XCls K C_Empty)
  (v_NoLeft:XCls K C_NoLeft)
  (w_NoText:PySem.W.nsIn K mainGlobals "NoText"=some none)
  (w_NoRow:PySem.W.nsIn K mainGlobals "NoRow"=some none)
  (w_NoName:PySem.W.nsIn K mainGlobals "NoName"=some none)
  (w_Stopped:PySem.W.nsIn K mainGlobals "Stopped"=some none)
  (cb_MillError:CB K C_MillError)
  (r_MillError_MillError:PySem.W.mroIn K C_MillError (.ref C_MillError)=some true)
  (r_MillError_NoBits:PySem.W.mroIn K C_NoBits (.ref C_MillError)=some true)
  (r_MillError_NotFinite:PySem.W.mroIn K C_NotFinite (.ref C_MillError)=some true)
  (r_MillError_NoWay:PySem.W.mroIn K C_NoWay (.ref C_MillError)=some true)
  (r_MillError_NoFraction:PySem.W.mroIn K C_NoFraction (.ref C_MillError)=some true)
  (r_MillError_Empty:PySem.W.mroIn K C_Empty (.ref C_MillError)=some true)
  (r_MillError_NoLeft:PySem.W.mroIn K C_NoLeft (.ref C_MillError)=some true)
  (itab:[("NoLeft",C_NoLeft),("NotFinite",C_NotFinite)].all (tabI K [("MillError",C_MillError),("NoBits",C_NoBits),("NotFinite",C_NotFinite),("NoWay",C_NoWay),("NoFraction",C_NoFraction),("Empty",C_Empty),("NoLeft",C_NoLeft)])=true)
  (i_int_NoneType:PySem.W.kitOne K (.type "NoneType") (.type "int")=some false)
  (i_int_bool:PySem.W.kitOne K (.type "bool") (.type "int")=some true)
  (i_int_int:PySem.W.kitOne K (.type "int") (.type "int")=some true)
  (i_int_str:PySem.W.kitOne K (.type "str") (.type "int")=some false)
  (i_int_tuple:PySem.W.kitOne K ↥5 (.type "int")=some false)
  (i_int_list:PySem.W.kitOne K (.type "list") (.type "int")=some false)
  (i_bool_NoneType:PySem.W.kitOne K (.type "NoneType") (.type "bool")=some false)
  (i_bool_bool:PySem.W.kitOne K (.type "bool") (.type "bool")=some true)
  (i_bool_int:PySem.W.kitOne K (.type "int") (.type "bool")=some false)
  (i_bool_str:PySem.W.kitOne K (.type "str") (.type "bool")=some false)
  (i_bool_tuple:PySem.W.kitOne K ↥5 (.type "bool")=some false)
  (i_bool_list:PySem.W.kitOne K (.type "list") (.type "bool")=some false)
  (i_tuple_NoneType:PySem.W.kitOne K (.type "NoneType") ↥5=some false)
  (i_tuple_bool:PySem.W.kitOne K (.type "bool") ↥5=some false)
  (i_tuple_int:PySem.W.kitOne K (.type "int") ↥5=some false)
  (i_tuple_str:PySem.W.kitOne K (.type "str") ↥5=some false)
  (i_tuple_tuple:PySem.W.kitOne K ↥5 ↥5=some true)
  (i_tuple_list:PySem.W.kitOne K (.type "list") ↥5=some false)
  (i_list_NoneType:PySem.W.kitOne K (.type "NoneType") (.type "list")=some false)
  (i_list_bool:PySem.W.kitOne K (.type "bool") (.type "list")=some false)
  (i_list_int:PySem.W.kitOne K (.type "int") (.type "list")=some false)
  (i_list_str:PySem.W.kitOne K (.type "str") (.type "list")=some false)
  (i_list_tuple:PySem.W.kitOne K ↥5 (.type "list")=some false)
  (i_list_list:PySem.W.kitOne K (.type "list") (.type "list")=some true)
  : ∃ fd:FuncData,(∀ (s:Shared) (v:Value),BindsTo s fd ⟨[v],[]⟩ [("_law_script",v)])/\∀ base:Heap,K.In base->base.Ns mainGlobals mg->FnOk P w K mg base (CXF P w) 13 fa fd ["_law_script"] (spP K mg A7):=by
 have e:=hfa.symm.trans (PySem.W.mg_of KX GG a57)
 cases e
 have q_Way:=PySem.W.mg_of KX GG n_Way
 have cl_Way:Cls K C_Way:=⟨pg_Way,hd_Way,po_Way,sa_Way⟩
 have m_min:=PySem.W.mg_none_of KX GG z_min
 have m_max:=PySem.W.mg_none_of KX GG z_max
 have m_len:=PySem.W.mg_none_of KX GG z_len
 have m_abs:=PySem.W.mg_none_of KX GG z_abs
 have m_list:=PySem.W.mg_none_of KX GG z_list
 have m_any:=PySem.W.mg_none_of KX GG z_any
 have m_int:=PySem.W.mg_none_of KX GG z_int
 have m_isinstance:=PySem.W.mg_none_of KX GG z_isinstance
 have m_bool:=PySem.W.mg_none_of KX GG z_bool
 have m_tuple:=PySem.W.mg_none_of KX GG z_tuple
 have m_range:=PySem.W.mg_none_of KX GG z_range
 have m_sum:=PySem.W.mg_none_of KX GG z_sum
 have g_INEXACT:∃ t,mg "INEXACT"=some (.int 1 t):=⟨_,PySem.W.mg_of KX GG y_INEXACT⟩
 have g_GREAT:∃ t,mg "GREAT"=some (.int 4 t):=⟨_,PySem.W.mg_of KX GG y_GREAT⟩
 have g_SMALL:∃ t,mg "SMALL"=some (.int 2 t):=⟨_,PySem.W.mg_of KX GG y_SMALL⟩
 have g_WRONG:∃ t,mg "WRONG"=some (.int 16 t):=⟨_,PySem.W.mg_of KX GG y_WRONG⟩
 have q_MillError:=PySem.W.mg_of KX GG n_MillError
 have q_NoBits:=PySem.W.mg_of KX GG n_NoBits
 have q_NotFinite:=PySem.W.mg_of KX GG n_NotFinite
 have q_NoWay:=PySem.W.mg_of KX GG n_NoWay
 have q_NoFraction:=PySem.W.mg_of KX GG n_NoFraction
 have q_Empty:=PySem.W.mg_of KX GG n_Empty
 have q_NoLeft:=PySem.W.mg_of KX GG n_NoLeft
 have hXF:∀ n∈aj,XF K mg n:=G3
  ⟨.inr ⟨_,q_MillError,v_MillError⟩⟩
  ⟨.inl (PySem.W.mg_none_of KX GG w_NoSize)⟩
  ⟨.inr ⟨_,q_NoBits,v_NoBits⟩⟩
  ⟨.inl (PySem.W.mg_none_of KX GG w_NoParts)⟩
  ⟨.inl (PySem.W.mg_none_of KX GG w_NoRank)⟩
  ⟨.inr ⟨_,q_NotFinite,v_NotFinite⟩⟩
  ⟨.inr ⟨_,q_NoWay,v_NoWay⟩⟩
  ⟨.inl (PySem.W.mg_none_of KX GG w_NoFlags)⟩
  ⟨.inr ⟨_,q_NoFraction,v_NoFraction⟩⟩
  ⟨.inl (PySem.W.mg_none_of KX GG w_Unlike)⟩
  ⟨.inr ⟨_,q_Empty,v_Empty⟩⟩
  ⟨.inr ⟨_,q_NoLeft,v_NoLeft⟩⟩
  ⟨.inl (PySem.W.mg_none_of KX GG w_NoText)⟩
  ⟨.inl (PySem.W.mg_none_of KX GG w_NoRow)⟩
  ⟨.inl (PySem.W.mg_none_of KX GG w_NoName)⟩
  ⟨.inl (PySem.W.mg_none_of KX GG w_Stopped)⟩
 have hct_MillError:∀ n∈aj,pj n "MillError"=true->CF K mg C_MillError n:=G3 (P:=fun n=>pj n "MillError"=true->CF K mg C_MillError n)
  (fun _=>⟨.inr ⟨_,q_MillError,r_MillError_MillError⟩⟩)
  (fun _=>⟨.inl (PySem.W.mg_none_of KX GG w_NoSize)⟩)
  (fun _=>⟨.inr ⟨_,q_NoBits,r_MillError_NoBits⟩⟩)
  (fun _=>⟨.inl (PySem.W.mg_none_of KX GG w_NoParts)⟩)
  (fun _=>⟨.inl (PySem.W.mg_none_of KX GG w_NoRank)⟩)
  (fun _=>⟨.inr ⟨_,q_NotFinite,r_MillError_NotFinite⟩⟩)
  (fun _=>⟨.inr ⟨_,q_NoWay,r_MillError_NoWay⟩⟩)
  (fun _=>⟨.inl (PySem.W.mg_none_of KX GG w_NoFlags)⟩)
  (fun _=>⟨.inr ⟨_,q_NoFraction,r_MillError_NoFraction⟩⟩)
  (fun _=>⟨.inl (PySem.W.mg_none_of KX GG w_Unlike)⟩)
  (fun _=>⟨.inr ⟨_,q_Empty,r_MillError_Empty⟩⟩)
  (fun _=>⟨.inr ⟨_,q_NoLeft,r_MillError_NoLeft⟩⟩)
  (fun _=>⟨.inl (PySem.W.mg_none_of KX GG w_NoText)⟩)
  (fun _=>⟨.inl (PySem.W.mg_none_of KX GG w_NoRow)⟩)
  (fun _=>⟨.inl (PySem.W.mg_none_of KX GG w_NoName)⟩)
  (fun _=>⟨.inl (PySem.W.mg_none_of KX GG w_Stopped)⟩)
 have hCs:∀ x∈aj,G5 mg [("MillError",C_MillError),("NoBits",C_NoBits),("NotFinite",C_NotFinite),("NoWay",C_NoWay),("NoFraction",C_NoFraction),("Empty",C_Empty),("NoLeft",C_NoLeft)] x:=G3 (P:=fun x=>G5 mg [("MillError",C_MillError),("NoBits",C_NoBits),("NotFinite",C_NotFinite),("NoWay",C_NoWay),("NoFraction",C_NoFraction),("Empty",C_Empty),("NoLeft",C_NoLeft)] x)
  (.inr ⟨_,q_MillError,mP 0⟩)
  (.inl (PySem.W.mg_none_of KX GG w_NoSize))
  (.inr ⟨_,q_NoBits,mP 1⟩)
  (.inl (PySem.W.mg_none_of KX GG w_NoParts))
  (.inl (PySem.W.mg_none_of KX GG w_NoRank))
  (.inr ⟨_,q_NotFinite,mP 2⟩)
  (.inr ⟨_,q_NoWay,mP 3⟩)
  (.inl (PySem.W.mg_none_of KX GG w_NoFlags))
  (.inr ⟨_,q_NoFraction,mP 4⟩)
  (.inl (PySem.W.mg_none_of KX GG w_Unlike))
  (.inr ⟨_,q_Empty,mP 5⟩)
  (.inr ⟨_,q_NoLeft,mP 6⟩)
  (.inl (PySem.W.mg_none_of KX GG w_NoText))
  (.inl (PySem.W.mg_none_of KX GG w_NoRow))
  (.inl (PySem.W.mg_none_of KX GG w_NoName))
  (.inl (PySem.W.mg_none_of KX GG w_Stopped))
 have i0_NoLeft:=wL itab (q:=("NoLeft",C_NoLeft)) (mP 0)
 have hisi_NoLeft:=wM hCs itab (q:=("NoLeft",C_NoLeft)) (mP 0)
 have i0_NotFinite:=wL itab (q:=("NotFinite",C_NotFinite)) (mP 1)
 have hisi_NotFinite:=wM hCs itab (q:=("NotFinite",C_NotFinite)) (mP 1)
 refine ⟨PySem.W.fnOf "law" "law" (dq mB) (ag mB) (aa mB) .none kV57 dc57 pm57 an57 cd57 ct57,fun s v=>.of_eq rfl,fun base _ _ => ?_⟩
 have FIWay:=lH (st:=gn) lIWay eIWay kIWay
 have BIWay:=bw (ps:=["self","name"]) FIWay rfl fun _ _ _ _ _ _ _ _=>rfl
 have JIWay:FnOk P w K mg base CX0 1 fIWay _ ["self","name"] (spI K "name"):=Gd (k:=0) FIWay ⟨rfl,rfl,rfl,by decide +kernel,by decide +kernel,by decide +kernel,by decide +kernel⟩ (by decide +kernel) (by decide +kernel) (by decide +kernel) (by decide +kernel) rfl (fun _=>rfl)
 have D1:FnP P w K mg base "_law_size_by" 1 b9:=q1.fn KX GG mv rfl rfl (dU · rfl fun _ _ _ _ _ _ _=>rfl) fun X hr L O Pl hS =>
  pC (X:=at5 X P w K mg base) hr L O Pl hS
 have D2:FnP P w K mg base "_law_way_by" 1 cK:=q2.fn KX GG nY rfl rfl (dU · rfl fun _ _ _ _ _ _ _=>rfl) fun X hr L O Pl hS =>
  qD (X:=at5 X P w K mg base) hr L O Pl hS
 have D3:FnP P w K mg base "_law_finite_by" 1 aM:=q3.fn KX GG jR rfl rfl (bw · rfl fun _ _ _ _ _ _ _ _=>rfl) fun X hr L O Pl hS =>
  lS (X:=at5 X P w K mg base) hr L O Pl hS m_min m_max
 have D4:FnP P w K mg base "_law_beside" 1 bQ:=q4.fn KX GG oh rfl rfl (dS · rfl fun _ _ _ _ _ _ _ _ _=>rfl) fun X hr L O Pl hS =>
  qG (X:=at5 X P w K mg base) hr L O Pl hS m_max m_min
 have D5:FnP P w K mg base "_law_row_by" 2 cL:=q5.fn KX GG nZ rfl rfl (dS · rfl fun _ _ _ _ _ _ _ _ _=>rfl) fun X hr L O Pl hS =>
  qE (X:=at5 X P w K mg base) hr L O Pl hS m_len (D4.c hr) (D3.c hr)
 have D6:FnP P w K mg base "way_of" 3 bx:=q6.fn KX GG wX rfl rfl (dU · rfl fun _ _ _ _ _ _ _=>rfl) fun X hr L O Pl hS =>
  B8 (X:=at5 X P w K mg base) hr L O Pl hS (sC (ss:=["even","away","nought","up","down"]) (PySem.W.mg_of KX GG y_NAMES) yl_NAMES (gX (ts:=[t0_NAMES,t1_NAMES,t2_NAMES,t3_NAMES,t4_NAMES]) rfl rfl) (Nat.le_of_ble_eq_true rfl)) q_NoWay xi_NoWay ⟨⟨C_Way,_,1,_,_,q_Way,cl_Way,na_Way,⟨mm_Way,aIWay,uIWay,kc_Way⟩,JIWay,hr.mono ↥2,BIWay⟩⟩
 have D7:FnP P w K mg base "sign_bit" 1 bP:=q7.fn KX GG rB rfl rfl (dU · rfl fun _ _ _ _ _ _ _=>rfl) fun X hr L O Pl hS =>
  vV (X:=at5 X P w K mg base) hr L O Pl hS
 have D8:FnP P w K mg base "width" 1 kP:=q8.fn KX GG AJ rfl rfl (dU · rfl fun _ _ _ _ _ _ _=>rfl) fun X hr L O Pl hS =>
  GJ (X:=at5 X P w K mg base) hr L O Pl hS
 have D9:FnP P w K mg base "parted" 2 bA:=q9.fn KX GG xb rfl rfl (bw · rfl fun _ _ _ _ _ _ _ _=>rfl) fun X hr L O Pl hS =>
  Cd (X:=at5 X P w K mg base) hr L O Pl hS (D8.c hr) q_NoBits xi_NoBits (D7.c hr)
 have D10:FnP P w K mg base "last_field" 1 aN:=q10.fn KX GG oi rfl rfl (dU · rfl fun _ _ _ _ _ _ _=>rfl) fun X hr L O Pl hS =>
  qH (X:=at5 X P w K mg base) hr L O Pl hS
 have D11:FnP P w K mg base "kind" 3 bD:=q11.fn KX GG EB rfl rfl (bw · rfl fun _ _ _ _ _ _ _ _=>rfl) fun X hr L O Pl hS =>
  Ki (X:=at5 X P w K mg base) hr L O Pl hS (D9.c hr) (D10.c hr)
 have D12:FnP P w K mg base "any_none" 4 d4:=q12.fn KX GG rG rfl rfl (bw · rfl fun _ _ _ _ _ _ _ _=>rfl) fun X hr L O Pl hS =>
  vY (X:=at5 X P w K mg base) hr L O Pl hS (D11.c hr)
 have D13:FnP P w K mg base "worth_fraction" 1 aK:=q13.fn KX GG i6 rfl rfl (dU · rfl fun _ _ _ _ _ _ _=>rfl) fun X hr L O Pl hS =>
  jU (X:=at5 X P w K mg base) hr L O Pl hS
 have D14:FnP P w K mg base "check_fraction" 1 aX:=q14.fn KX GG i8 rfl rfl (bw · rfl fun _ _ _ _ _ _ _ _=>rfl) fun X hr L O Pl hS =>
  jW (X:=at5 X P w K mg base) hr L O Pl hS q_NoFraction xi_NoFraction
 have D15:FnP P w K mg base "scaled" 1 eK:=q15.fn KX GG xa rfl rfl (dS · rfl fun _ _ _ _ _ _ _ _ _=>rfl) fun X hr L O Pl hS =>
  Cc (X:=at5 X P w K mg base) hr L O Pl hS
 have D16:FnP P w K mg base "bias" 1 qb:=q16.fn KX GG EC rfl rfl (dU · rfl fun _ _ _ _ _ _ _=>rfl) fun X hr L O Pl hS =>
  Kj (X:=at5 X P w K mg base) hr L O Pl hS
 have D17:FnP P w K mg base "low" 2 kR:=q17.fn KX GG Ii rfl rfl (dU · rfl fun _ _ _ _ _ _ _=>rfl) fun X hr L O Pl hS =>
  MA (X:=at5 X P w K mg base) hr L O Pl hS (D16.c hr)
 have D18:FnP P w K mg base "rest_by_middle" 1 aW:=q18.fn KX GG i7 rfl rfl (dS · rfl fun _ _ _ _ _ _ _ _ _=>rfl) fun X hr L O Pl hS =>
  jV (X:=at5 X P w K mg base) hr L O Pl hS
 have D19:FnP P w K mg base "rest_of" 2 fB:=q19.fn KX GG vj rfl rfl (bw · rfl fun _ _ _ _ _ _ _ _=>rfl) fun X hr L O Pl hS =>
  zj (X:=at5 X P w K mg base) hr L O Pl hS (D18.c hr)
 have D20:FnP P w K mg base "height" 2 ir:=q20.fn KX GG xf rfl rfl (bw · rfl fun _ _ _ _ _ _ _ _=>rfl) fun X hr L O Pl hS =>
  Ce (X:=at5 X P w K mg base) hr L O Pl hS (D15.c hr)
 have D21:FnP P w K mg base "cut" 3 rP:=q21.fn KX GG Ik rfl rfl (dS · rfl fun _ _ _ _ _ _ _ _ _=>rfl) fun X hr L O Pl hS =>
  MC (X:=at5 X P w K mg base) hr L O Pl hS (D14.c hr) (D17.c hr) (D20.c hr) m_max (D15.c hr) (D19.c hr)
 have D22:FnP P w K mg base "endless" 2 bo:=q22.fn KX GG vn rfl rfl (dU · rfl fun _ _ _ _ _ _ _=>rfl) fun X hr L O Pl hS =>
  zm (X:=at5 X P w K mg base) hr L O Pl hS (D10.c hr)
 have D23:FnP P w K mg base "signed" 2 bZ:=q23.fn KX GG wZ rfl rfl (dS · rfl fun _ _ _ _ _ _ _ _ _=>rfl) fun X hr L O Pl hS =>
  Cb (X:=at5 X P w K mg base) hr L O Pl hS (D7.c hr)
 have D24:FnP P w K mg base "lost_flags" 3 cJ:=q24.fn KX GG nW rfl rfl (dS · rfl fun _ _ _ _ _ _ _ _ _=>rfl) fun X hr L O Pl hS =>
  qC (X:=at5 X P w K mg base) hr L O Pl hS (D22.c hr) g_INEXACT g_GREAT g_SMALL
 have F25:=lH (st:=aC) l25 e25 k25
 have B25:=bw (ps:=["self","sign"]) F25 rfl fun _ _ _ _ _ _ _ _=>rfl
 have D25:=qq (P:=P) (w:=w) (mg:=mg) (base:=base) (n:=2) (m:=2) (g:=aO) (k:=0) F25 gQ rfl rfl fun X hr L O Pl hS=>by
  exact iI (X:=at5 X P w K mg base) hr L O Pl hS ⟨⟨C_Way,q_Way,cl_Way,na_Way⟩⟩
 have F26:=lH (st:=bN) l26 e26 k26
 have B26:=uG (ps:=["self","sign","odd","rest"]) F26 rfl fun _ _ _ _ _ _ _ _ _ _=>rfl
 have D26:=qq (P:=P) (w:=w) (mg:=mg) (base:=base) (n:=4) (m:=4) (g:=dm) (k:=1) F26 pX rfl rfl fun X hr L O Pl hS=>by
  exact sW (X:=at5 X P w K mg base) hr L O Pl hS ⟨⟨C_Way,q_Way,cl_Way,na_Way⟩⟩ ⟨⟨C_Way,f25,1,_,_,q_Way,cl_Way,⟨a25,u25,k25⟩,D25,hr.mono ↥2,B25⟩⟩
 have F27:=lH (st:=a9) l27 e27 k27
 have B27:=bw (ps:=["self","sign"]) F27 rfl fun _ _ _ _ _ _ _ _=>rfl
 have D27:=qq (P:=P) (w:=w) (mg:=mg) (base:=base) (n:=2) (m:=2) (g:=cN) (k:=1) F27 oo rfl rfl fun X hr L O Pl hS=>by
  exact qJ (X:=at5 X P w K mg base) hr L O Pl hS ⟨⟨C_Way,q_Way,cl_Way,na_Way⟩⟩ ⟨⟨C_Way,f25,1,_,_,q_Way,cl_Way,⟨a25,u25,k25⟩,D25,hr.mono ↥2,B25⟩⟩
 have D28:FnP P w K mg base "settled" 4 fA:=q28.fn KX GG vh rfl rfl (Kg · rfl fun _ _ _ _ _ _ _ _ _ _ _ _=>rfl) fun X hr L O Pl hS =>
  zh (X:=at5 X P w K mg base) hr L O Pl hS (D6.c hr) (D17.c hr) (D22.c hr) ⟨⟨C_Way,f27,2,_,_,q_Way,cl_Way,⟨a27,u27,k27⟩,D27,hr.mono ↥2,B27⟩⟩ (D23.c hr) g_INEXACT g_GREAT ⟨⟨C_Way,f26,2,_,_,q_Way,cl_Way,⟨a26,u26,k26⟩,D26,hr.mono ↥2,B26⟩⟩ (D24.c hr)
 have D29:FnP P w K mg base "rounded" 5 bh:=q29.fn KX GG vi rfl rfl (Kh · rfl fun _ _ _ _ _ _ _ _ _ _ _=>rfl) fun X hr L O Pl hS =>
  zi (X:=at5 X P w K mg base) hr L O Pl hS (D6.c hr) (D21.c hr) (D28.c hr)
 have D30:FnP P w K mg base "total" 1 gU:=q30.fn KX GG AK rfl rfl (dU · rfl fun _ _ _ _ _ _ _=>rfl) fun X hr L O Pl hS =>
  GK (X:=at5 X P w K mg base) hr L O Pl hS m_min m_abs
 have D31:FnP P w K mg base "nought_sign" 4 b8:=q31.fn KX GG mr rfl rfl (bw · rfl fun _ _ _ _ _ _ _ _=>rfl) fun X hr L O Pl hS =>
  pB (X:=at5 X P w K mg base) hr L O Pl hS (D6.c hr)
 have D32:FnP P w K mg base "settled_total" 6 ax:=q32.fn KX GG jO rfl rfl (dS · rfl fun _ _ _ _ _ _ _ _ _=>rfl) fun X hr L O Pl hS =>
  lO (X:=at5 X P w K mg base) hr L O Pl hS (D13.c hr) (D30.c hr) (D31.c hr) (D23.c hr) (D29.c hr)
 have D33:FnP P w K mg base "no_number" 3 bj:=q33.fn KX GG pS rfl rfl (dU · rfl fun _ _ _ _ _ _ _=>rfl) fun X hr L O Pl hS =>
  sR (X:=at5 X P w K mg base) hr L O Pl hS (D22.c hr)
 have D34:FnP P w K mg base "settled_terms" 7 aG:=q34.fn KX GG jP rfl rfl (dS · rfl fun _ _ _ _ _ _ _ _ _=>rfl) fun X hr L O Pl hS =>
  lP (X:=at5 X P w K mg base) hr L O Pl hS (D33.c hr) g_WRONG m_len (D23.c hr) (D22.c hr) (D32.c hr)
 have D35:FnP P w K mg base "worth" 3 dZ:=q35.fn KX GG AI rfl rfl (bw · rfl fun _ _ _ _ _ _ _ _=>rfl) fun X hr L O Pl hS =>
  GI (X:=at5 X P w K mg base) hr L O Pl hS (D9.c hr) (D10.c hr) q_NotFinite xi_NotFinite (D17.c hr)
 have D36:FnP P w K mg base "number_term" 4 ay:=q36.fn KX GG ml rfl rfl (bw · rfl fun _ _ _ _ _ _ _ _=>rfl) fun X hr L O Pl hS =>
  pA (X:=at5 X P w K mg base) hr L O Pl hS (D11.c hr) (D9.c hr) (D35.c hr)
 have D37:FnP P w K mg base "product_term" 5 aY:=q37.fn KX GG kH rfl rfl (dS · rfl fun _ _ _ _ _ _ _ _ _=>rfl) fun X hr L O Pl hS =>
  mM (X:=at5 X P w K mg base) hr L O Pl hS (D36.c hr)
 have D38:FnP P w K mg base "product_wrong" 4 aR:=q38.fn KX GG jQ rfl rfl (dS · rfl fun _ _ _ _ _ _ _ _ _=>rfl) fun X hr L O Pl hS =>
  lQ (X:=at5 X P w K mg base) hr L O Pl hS (D11.c hr)
 have D39:FnP P w K mg base "settled_sum" 8 aq:=q39.fn KX GG mj rfl rfl (uG · rfl fun _ _ _ _ _ _ _ _ _ _=>rfl) fun X hr L O Pl hS =>
  pz (X:=at5 X P w K mg base) hr L O Pl hS (D6.c hr) m_list (D12.c hr) (D33.c hr) (D38.c hr) m_any g_WRONG (D37.c hr) (D34.c hr) (D36.c hr)
 have D40:FnP P w K mg base "summed" 9 eJ:=q40.fn KX GG wY rfl rfl (dS · rfl fun _ _ _ _ _ _ _ _ _=>rfl) fun X hr L O Pl hS =>
  B9 (X:=at5 X P w K mg base) hr L O Pl hS (D39.c hr)
 have D41:FnP P w K mg base "_law_cell_at" 1 aS:=q41.fn KX GG mw rfl rfl (bw · rfl fun _ _ _ _ _ _ _ _=>rfl) fun X hr L O Pl hS =>
  pE (X:=at5 X P w K mg base) hr L O Pl hS m_len
 have D42:FnP P w K mg base "check_bits" 3 bp:=q42.fn KX GG om rfl rfl (bw · rfl fun _ _ _ _ _ _ _ _=>rfl) fun X hr L O Pl hS =>
  qI (X:=at5 X P w K mg base) hr L O Pl hS (D9.c hr)
 have D43:FnP P w K mg base "added" 9 cy:=q43.fn KX GG AM rfl rfl (uG · rfl fun _ _ _ _ _ _ _ _ _ _=>rfl) fun X hr L O Pl hS =>
  GN (X:=at5 X P w K mg base) hr L O Pl hS (D39.c hr)
 have D44:FnP P w K mg base "in_turn" 10 fE:=q44.fn KX GG vm rfl rfl (dS · rfl fun _ _ _ _ _ _ _ _ _=>rfl) fun X hr L O Pl hS =>
  zl (X:=at5 X P w K mg base) hr L O Pl hS (D6.c hr) (D42.c hr) m_len (D43.c hr)
 have D45:FnP P w K mg base "check_finite" 4 aF:=q45.fn KX GG kI rfl rfl (bw · rfl fun _ _ _ _ _ _ _ _=>rfl) fun X hr L O Pl hS =>
  mO (X:=at5 X P w K mg base) hr L O Pl hS (D42.c hr) (D11.c hr) (sC (ss:=["endless","none"]) (PySem.W.mg_of KX GG y_NOT_FINITE) yl_NOT_FINITE (gX (ts:=[t0_NOT_FINITE,t1_NOT_FINITE]) rfl rfl) (Nat.le_of_ble_eq_true rfl)) q_NotFinite xi_NotFinite
 have D46:FnP P w K mg base "kept_answer" 4 aU:=q46.fn KX GG mz rfl rfl (bw · rfl fun _ _ _ _ _ _ _ _=>rfl) fun X hr L O Pl hS =>
  pF (X:=at5 X P w K mg base) hr L O Pl hS (D11.c hr) (sC (ss:=["endless","none"]) (PySem.W.mg_of KX GG y_NOT_FINITE) yl_NOT_FINITE (gX (ts:=[t0_NOT_FINITE,t1_NOT_FINITE]) rfl rfl) (Nat.le_of_ble_eq_true rfl)) g_GREAT q_NoLeft xi_NoLeft
 have D47:FnP P w K mg base "minus" 1 kQ:=q47.fn KX GG AL rfl rfl (dU · rfl fun _ _ _ _ _ _ _=>rfl) fun X hr L O Pl hS =>
  GL (X:=at5 X P w K mg base) hr L O Pl hS
 have D48:FnP P w K mg base "left_of" 6 fD:=q48.fn KX GG vk rfl rfl (bw · rfl fun _ _ _ _ _ _ _ _=>rfl) fun X hr L O Pl hS =>
  zk (X:=at5 X P w K mg base) hr L O Pl hS (D13.c hr) (D30.c hr) (D29.c hr) q_NoLeft xi_NoLeft
 have D49:FnP P w K mg base "sum_left" 10 bz:=q49.fn KX GG rA rfl rfl (dS · rfl fun _ _ _ _ _ _ _ _ _=>rfl) fun X hr L O Pl hS =>
  vU (X:=at5 X P w K mg base) hr L O Pl hS (D45.c hr) (D46.c hr) (D43.c hr) (D35.c hr) (D47.c hr) (D48.c hr)
 have F50:=lH (st:=bM) l50 e50 k50
 have B50:=bw (ps:=["size","xs"]) F50 rfl fun _ _ _ _ _ _ _ _=>rfl
 have DT50:FnT P w K mg base "kept_turn" 11 aT:=by
  refine ⟨_,_,_,JT (k:=10) F50 pW rfl rfl fun X hr L O Pl hS => ?_,PySem.W.mg_of KX GG a50,k50,B50⟩
  exact sV (X:=at5 X P w K mg base) hr L O Pl hS (D49.c hr) (D45.c hr) m_len q_Empty xi_Empty
 have D50:=DT50.p
 have D51:FnP P w K mg base "_law_whole" 1 di:=q51.fn KX GG pT rfl rfl (dU · rfl fun _ _ _ _ _ _ _=>rfl) fun X hr L O Pl hS =>
  sS (X:=at5 X P w K mg base) hr L O Pl hS m_int (uh ↥2 i_int_NoneType i_int_bool i_int_int i_int_str i_int_tuple i_int_list) (lI (rh hXF)) m_isinstance m_bool (uh ↥2 i_bool_NoneType i_bool_bool i_bool_int i_bool_str i_bool_tuple i_bool_list)
 have D52:FnP P w K mg base "_law_finite" 2 aL:=q52.fn KX GG og rfl rfl (bw · rfl fun _ _ _ _ _ _ _ _=>rfl) fun X hr L O Pl hS =>
  qF (X:=at5 X P w K mg base) hr L O Pl hS (D51.c hr)
 have D53:FnP P w K mg base "_law_value" 1 dj:=q53.fn KX GG pU rfl rfl (bw · rfl fun _ _ _ _ _ _ _ _=>rfl) fun X hr L O Pl hS =>
  sT (X:=at5 X P w K mg base) hr L O Pl hS
 have D54:FnP P w K mg base "_law_line" 2 aD:=q54.fn KX GG rE rfl rfl (bw · rfl fun _ _ _ _ _ _ _ _=>rfl) fun X hr L O Pl hS =>
  vW (X:=at5 X P w K mg base) hr L O Pl hS (D53.c hr)
 have D55:FnP P w K mg base "_law_kept" 3 d3:=q55.fn KX GG rF rfl rfl (uG · rfl fun _ _ _ _ _ _ _ _ _ _=>rfl) fun X hr L O Pl hS =>
  vX (X:=at5 X P w K mg base) hr L O Pl hS m_tuple (uh ↥2 i_tuple_NoneType i_tuple_bool i_tuple_int i_tuple_str i_tuple_tuple i_tuple_list) (lI (rh hXF)) m_isinstance m_len m_list (uh ↥2 i_list_NoneType i_list_bool i_list_int i_list_str i_list_tuple i_list_list) (D52.c hr) m_range (D54.c hr)
 have D56:FnP P w K mg base "_law_apart" 12 cx:=q56.fn KX GG pV rfl rfl (bw · rfl fun _ _ _ _ _ _ _ _=>rfl) fun X hr L O Pl hS =>
  sU (X:=at5 X P w K mg base) hr L O Pl hS m_list (DT50.callee hr ↥2)
 have F57:=lH (st:=mB) l57 e57 k57
 ·refine qq (k:=12) F57 Ij rfl rfl fun X hr L O Pl hS => ?_
  exact MB (X:=at5 X P w K mg base) hr L O Pl hS (D1.c hr) (D41.c hr) (D2.c hr) (D5.c hr) (D44.c hr) m_list (D50.c hr) (by rw [hS];decide +kernel) q_MillError (vQ cb_MillError hct_MillError) (D52.c hr) q_NoLeft (yu q_NoLeft (CI hXF) i0_NoLeft hisi_NoLeft) (lI (rh hXF)) m_isinstance q_NotFinite (yu q_NotFinite (CI hXF) i0_NotFinite hisi_NotFinite) (D55.c hr) (D56.c hr) (D54.c hr) m_sum (D40.c hr)
end T
namespace H
open PySem PySem.W PySem.Spec PyProof.Rows L2 EV ES
noncomputable section
abbrev vS (x:Str) (n:Nat):Value:=.str x n
abbrev vI (x:Int) (n:Nat):Value:=.int x n
abbrev r (n:Addr):Value:=.ref n
abbrev z (x:Int):Value:=.int x 0
abbrev c (n:Nat):Value:=.str "/claim/cut.py" n
abbrev en (P:Params) (x:Str) (n:Nat) (v:Value):DictEntry:=⟨PyData.keyHash P x,.str x n,v⟩
abbrev sqO (c:Value) (a:Array Value):Obj:=⟨c,none,.seq a 0,#[]⟩
abbrev fiO (c:Value) (a:Array Value):Obj:=⟨c,none,.fields a,#[]⟩
abbrev diO (c:Value) (a:Array DictEntry) (n:Nat):Obj:=⟨c,none,.dict a n,#[]⟩
abbrev fnO (c:Value) (x q:Str) (s:Stmt) (g:Addr) (cl:List (Str×Addr)) (d k dc m:Value) (an:Option Addr) (cd ct:Value) (b:Addr):Obj:=⟨c,none,.func ⟨x,q,dq s,.stmts (ag s),aa s,g,cl,d,k,dc,m,an,cd,ct,b⟩,#[]⟩
abbrev cd (x:Str) (a b d:Nat) (l k:Int) (p:Addr) (w:Int) (q s t u:Addr) (m:Int) (e:Nat):Obj:=fiO (.type "code") #[vS x a,vS x b,c d,z l,z k,z 0,z 0,z 3,r p,.bool true,z w,r q,.none,r s,r t,r u,z m,z l,c e]
abbrev fu (x:Str) (n:Nat) (g:Addr) (m:Str) (b:Nat) (d:Addr):Obj:=fnO (.type "function") x x (T.top n) g [] .none .none .none (vS m b) none (r d) .none 0
abbrev fv (x:Str) (n:Nat):Obj:=fnO .none x x (T.top n) 0 [] .none .none .none .none none .none .none 0
abbrev N:BT:=.nil
abbrev L (o:Obj):BT:=.node o .nil .nil
abbrev B (o:Obj) (l r:BT):BT:=.node o l r
def cut (n:Nat) (t:BT):Nat->Nat->BT := @BT.rec (fun _=>Nat->Nat->BT) (fun _ _=>.nil) (fun v _ _ l r a b => @Bool.rec (fun _=>BT) .nil (.node v (l (Nat.mul 2 a) (Nat.add a b)) (r (Nat.mul 2 a) (Nat.add (Nat.mul 2 a) b))) (Nat.blt b n)) t
def o0:Obj:=sqO ↥5 #[]
def o1:Obj:=fiO .none #[]
def o2:Obj:=fiO (.type "code") #[(vS "<module>" 182),(vS "<module>" 183),(c 184),(z 1),(z 0),(z 0),(z 0),(z 0),(r 11),(.bool false),(z 181),(r 12),.none,.none,.none,.none,(z 185),(z 1),(c 186)]
def o3:Obj:=(Obj.mk (.type "frame") none Data.plain #[(some (r 13)),(some (r 3)),(some (r 3)),none,(some (vS "__main__" 164)),none,(some (r 0))])
def o4 (P:Params):Obj:=diO (.type "dict") #[(en P "__name__" 165 ↥14),(en P "__doc__" 166 .none),(en P "__package__" 167 .none),(en P "__loader__" 168 (.builtin "__main__.__loader__#opaque")),(en P "__spec__" 169 .none),(en P "__annotations__" 170 (r 6)),(en P "__builtins__" 171 (r 4)),(en P "__file__" 173 (c 172)),(en P "__cached__" 174 .none),(en P "MillError" 206 (r 24)),(en P "NoBits" 222 (r 37)),(en P "NotFinite" 238 (r 49)),(en P "NoWay" 254 (r 61)),(en P "NoFraction" 270 (r 73)),(en P "Empty" 286 (r 85))] 15
def o5:Obj:=fiO .none #[(z 2),(z 0),(r 20),(z 4),(z 0),(r 33),(z 6),(z 0),(r 45),(z 8),(z 0),(r 57),(z 10),(z 0),(r 69),(z 12),(z 0),(r 81)]
def o6:Obj:=sqO ↥5 #[(.type "ValueError")]
def o7:Obj:=fiO ↥31 #[(.builtin "type.__prepare__"),(.type "type")]
def o8 (P:Params):Obj:=diO (.type "dict") #[(en P "__module__" 196 ↥14),(en P "__qualname__" 198 (vS "MillError" 197)),(en P "__firstlineno__" 200 (vI 2 199)),(en P "__static_attributes__" 201 (r 22))] 4
def o9:Obj:=fiO (.type "code") #[(vS "MillError" 191),(vS "MillError" 192),(c 193),(z 2),(z 0),(z 0),(z 0),(z 0),(r 18),(.bool false),(z 181),(r 19),.none,.none,.none,.none,(z 194),(z 2),(c 195)]
def o10:Obj:=(Obj.mk (.type "frame") none Data.plain #[(some (r 20)),(some (r 3)),(some (r 17)),none,(some ↥14),none,(some (r 0))])
def o11 (P:Params):Obj:=diO (.type "dict") #[(en P "__module__" 196 ↥14),(en P "__firstlineno__" 200 (vI 2 199)),(en P "__static_attributes__" 201 (r 22)),(en P "__weakref__" 203 (r 25)),(en P "__doc__" 204 .none)] 3
def o12:Obj:=(Obj.mk (.type "type") none (Data.cls (ClassData.mk "MillError" [(.type "ValueError")] [(r 24),(.type "ValueError"),(.type "Exception"),↥33,(.type "object")] 23 "MillError" true [] [(r 37),(r 49),(r 61),(r 73),(r 85)] false none false)) #[(some (r 15)),none,(some (vS "MillError" 189)),(some (vS "MillError" 197)),↥36,(some (.bool true))])
def o13:Obj:=fiO (.type "getset_descriptor") #[(vS "__weakref__" 202),(r 24),(.builtin "ExceptionGroup.__weakref__"),.none]
def o14:Obj:=fiO (.type "super") #[(r 24),(r 24),(r 24)]
def o15:Obj:=fiO ↥31 #[↥39,(r 24)]
def o16:Obj:=sqO ↥5 #[(r 24)]
def o17 (P:Params):Obj:=diO (.type "dict") #[(en P "__module__" 214 ↥14),(en P "__qualname__" 216 (vS "NoBits" 215)),(en P "__firstlineno__" 218 (vI 4 217)),(en P "__static_attributes__" 219 (r 35))] 4
def o18:Obj:=fiO (.type "code") #[(vS "NoBits" 209),(vS "NoBits" 210),(c 211),(z 4),(z 0),(z 0),(z 0),(z 0),(r 31),(.bool false),(z 181),(r 32),.none,.none,.none,.none,(z 212),(z 4),(c 213)]
def o19:Obj:=(Obj.mk (.type "frame") none Data.plain #[(some (r 33)),(some (r 3)),(some (r 30)),none,(some ↥14),none,(some (r 0))])
def o20 (P:Params):Obj:=diO (.type "dict") #[(en P "__module__" 214 ↥14),(en P "__firstlineno__" 218 (vI 4 217)),(en P "__static_attributes__" 219 (r 35)),(en P "__doc__" 220 .none)] 2
def o21:Obj:=(Obj.mk (.type "type") none (Data.cls (ClassData.mk "NoBits" [(r 24)] [(r 37),(r 24),(.type "ValueError"),(.type "Exception"),↥33,(.type "object")] 36 "NoBits" true [] [] false none false)) #[(some (r 28)),none,(some (vS "NoBits" 207)),(some (vS "NoBits" 215)),↥36,(some (.bool true))])
def o22:Obj:=fiO (.type "super") #[(r 37),(r 37),(r 37)]
def o23:Obj:=fiO ↥31 #[↥39,(r 37)]
def o24 (P:Params):Obj:=diO (.type "dict") #[(en P "__module__" 230 ↥14),(en P "__qualname__" 232 (vS "NotFinite" 231)),(en P "__firstlineno__" 234 (vI 6 233)),(en P "__static_attributes__" 235 (r 47))] 4
def o25:Obj:=fiO (.type "code") #[(vS "NotFinite" 225),(vS "NotFinite" 226),(c 227),(z 6),(z 0),(z 0),(z 0),(z 0),(r 43),(.bool false),(z 181),(r 44),.none,.none,.none,.none,(z 228),(z 6),(c 229)]
def o26:Obj:=(Obj.mk (.type "frame") none Data.plain #[(some (r 45)),(some (r 3)),(some (r 42)),none,(some ↥14),none,(some (r 0))])
def o27 (P:Params):Obj:=diO (.type "dict") #[(en P "__module__" 230 ↥14),(en P "__firstlineno__" 234 (vI 6 233)),(en P "__static_attributes__" 235 (r 47)),(en P "__doc__" 236 .none)] 2
def o28:Obj:=(Obj.mk (.type "type") none (Data.cls (ClassData.mk "NotFinite" [(r 24)] [(r 49),(r 24),(.type "ValueError"),(.type "Exception"),↥33,(.type "object")] 48 "NotFinite" true [] [] false none false)) #[(some (r 40)),none,(some (vS "NotFinite" 223)),(some (vS "NotFinite" 231)),↥36,(some (.bool true))])
def o29:Obj:=fiO (.type "super") #[(r 49),(r 49),(r 49)]
def o30:Obj:=fiO ↥31 #[↥39,(r 49)]
def o31 (P:Params):Obj:=diO (.type "dict") #[(en P "__module__" 246 ↥14),(en P "__qualname__" 248 (vS "NoWay" 247)),(en P "__firstlineno__" 250 (vI 8 249)),(en P "__static_attributes__" 251 (r 59))] 4
def o32:Obj:=fiO (.type "code") #[(vS "NoWay" 241),(vS "NoWay" 242),(c 243),(z 8),(z 0),(z 0),(z 0),(z 0),(r 55),(.bool false),(z 181),(r 56),.none,.none,.none,.none,(z 244),(z 8),(c 245)]
def o33:Obj:=(Obj.mk (.type "frame") none Data.plain #[(some (r 57)),(some (r 3)),(some (r 54)),none,(some ↥14),none,(some (r 0))])
def o34 (P:Params):Obj:=diO (.type "dict") #[(en P "__module__" 246 ↥14),(en P "__firstlineno__" 250 (vI 8 249)),(en P "__static_attributes__" 251 (r 59)),(en P "__doc__" 252 .none)] 2
def o35:Obj:=(Obj.mk (.type "type") none (Data.cls (ClassData.mk "NoWay" [(r 24)] [(r 61),(r 24),(.type "ValueError"),(.type "Exception"),↥33,(.type "object")] 60 "NoWay" true [] [] false none false)) #[(some (r 52)),none,(some (vS "NoWay" 239)),(some (vS "NoWay" 247)),↥36,(some (.bool true))])
def o36:Obj:=fiO (.type "super") #[(r 61),(r 61),(r 61)]
def o37:Obj:=fiO ↥31 #[↥39,(r 61)]
def o38 (P:Params):Obj:=diO (.type "dict") #[(en P "__module__" 262 ↥14),(en P "__qualname__" 264 (vS "NoFraction" 263)),(en P "__firstlineno__" 266 (vI 10 265)),(en P "__static_attributes__" 267 (r 71))] 4
def o39:Obj:=fiO (.type "code") #[(vS "NoFraction" 257),(vS "NoFraction" 258),(c 259),(z 10),(z 0),(z 0),(z 0),(z 0),(r 67),(.bool false),(z 181),(r 68),.none,.none,.none,.none,(z 260),(z 10),(c 261)]
def o40:Obj:=(Obj.mk (.type "frame") none Data.plain #[(some (r 69)),(some (r 3)),(some (r 66)),none,(some ↥14),none,(some (r 0))])
def o41 (P:Params):Obj:=diO (.type "dict") #[(en P "__module__" 262 ↥14),(en P "__firstlineno__" 266 (vI 10 265)),(en P "__static_attributes__" 267 (r 71)),(en P "__doc__" 268 .none)] 2
def o42:Obj:=(Obj.mk (.type "type") none (Data.cls (ClassData.mk "NoFraction" [(r 24)] [(r 73),(r 24),(.type "ValueError"),(.type "Exception"),↥33,(.type "object")] 72 "NoFraction" true [] [] false none false)) #[(some (r 64)),none,(some (vS "NoFraction" 255)),(some (vS "NoFraction" 263)),↥36,(some (.bool true))])
def o43:Obj:=fiO (.type "super") #[(r 73),(r 73),(r 73)]
def o44:Obj:=fiO ↥31 #[↥39,(r 73)]
def o45 (P:Params):Obj:=diO (.type "dict") #[(en P "__module__" 278 ↥14),(en P "__qualname__" 280 (vS "Empty" 279)),(en P "__firstlineno__" 282 (vI 12 281)),(en P "__static_attributes__" 283 (r 83))] 4
def o46:Obj:=fiO (.type "code") #[(vS "Empty" 273),(vS "Empty" 274),(c 275),(z 12),(z 0),(z 0),(z 0),(z 0),(r 79),(.bool false),(z 181),(r 80),.none,.none,.none,.none,(z 276),(z 12),(c 277)]
def o47:Obj:=(Obj.mk (.type "frame") none Data.plain #[(some (r 81)),(some (r 3)),(some (r 78)),none,(some ↥14),none,(some (r 0))])
def o48 (P:Params):Obj:=diO (.type "dict") #[(en P "__module__" 278 ↥14),(en P "__firstlineno__" 282 (vI 12 281)),(en P "__static_attributes__" 283 (r 83)),(en P "__doc__" 284 .none)] 2
def o49:Obj:=(Obj.mk (.type "type") none (Data.cls (ClassData.mk "Empty" [(r 24)] [(r 85),(r 24),(.type "ValueError"),(.type "Exception"),↥33,(.type "object")] 84 "Empty" true [] [] false none false)) #[(some (r 76)),none,(some (vS "Empty" 271)),(some (vS "Empty" 279)),↥36,(some (.bool true))])
def o50:Obj:=fiO (.type "super") #[(r 85),(r 85),(r 85)]
def o51:Obj:=fiO ↥31 #[↥39,(r 85)]
def o52 (P:Params):Obj:=diO (.type "dict") #[(en P "__name__" 165 (vS "roundmill.rounding" 551)),(en P "__doc__" 166 .none),(en P "__package__" 167 .none),(en P "__loader__" 168 (.builtin "__main__.__loader__#opaque")),(en P "__spec__" 169 .none),(en P "__annotations__" 170 (r 6)),(en P "__builtins__" 171 (r 4)),(en P "__file__" 173 (c 172)),(en P "__cached__" 174 .none),(en P "MillError" 206 (r 24)),(en P "NoBits" 222 (r 37)),(en P "NotFinite" 238 (r 49)),(en P "NoWay" 254 (r 61)),(en P "NoFraction" 270 (r 73)),(en P "Empty" 286 (r 85)),(en P "NoLeft" 302 (r 97)),(en P "width" 311 (r 106)),(en P "bias" 318 (r 113)),(en P "low" 325 (r 120)),(en P "sign_bit" 332 (r 127)),(en P "last_field" 339 (r 134)),(en P "endless" 346 (r 141)),(en P "no_number" 353 (r 148)),(en P "check_fraction" 363 (r 155)),(en P "scaled" 372 (r 162)),(en P "height" 382 (r 169)),(en P "rest_by_middle" 391 (r 176)),(en P "rest_of" 399 (r 183)),(en P "cut" 410 (r 190)),(en P "INEXACT" 412 (vI 1 411)),(en P "SMALL" 414 (vI 2 413)),(en P "GREAT" 416 (vI 4 415)),(en P "WRONG" 418 (vI 16 417)),(en P "parted" 430 (r 197)),(en P "check_bits" 439 (r 204)),(en P "kind" 450 (r 211)),(en P "worth" 462 (r 218)),(en P "worth_fraction" 471 (r 225)),(en P "signed" 480 (r 232)),(en P "NAMES" 488 (r 233)),(en P "Way" 543 (r 271)),(en P "way_of" 550 (r 282)),(en P "settled" 568 (r 289))] 43
def o53:Obj:=fiO .none #[(z 2),(z 0),(r 20),(z 4),(z 0),(r 33),(z 6),(z 0),(r 45),(z 8),(z 0),(r 57),(z 10),(z 0),(r 69),(z 12),(z 0),(r 81),(z 14),(z 0),(r 93),(z 17),(z 0),(r 105),(z 19),(z 0),(r 112),(z 21),(z 0),(r 119),(z 23),(z 0),(r 126),(z 25),(z 0),(r 133),(z 27),(z 0),(r 140),(z 29),(z 0),(r 147),(z 32),(z 0),(r 154),(z 35),(z 0),(r 161),(z 39),(z 0),(r 168),(z 43),(z 0),(r 175),(z 49),(z 0),(r 182),(z 51),(z 0),(r 189),(z 63),(z 0),(r 196),(z 69),(z 0),(r 203),(z 72),(z 0),(r 210),(z 81),(z 0),(r 217),(z 91),(z 0),(r 224),(z 97),(z 0),(r 231),(z 101),(z 0),(r 239),(z 124),(z 0),(r 281),(z 129),(z 0),(r 288)]
def o54:Obj:=(Obj.mk (.type "type") none (Data.cls (ClassData.mk "MillError" [(.type "ValueError")] [(r 24),(.type "ValueError"),(.type "Exception"),↥33,(.type "object")] 23 "MillError" true [] [(r 37),(r 49),(r 61),(r 73),(r 85),(r 97)] false none false)) #[(some (r 15)),none,(some (vS "MillError" 189)),(some (vS "MillError" 197)),↥36,(some (.bool true))])
def o55 (P:Params):Obj:=diO (.type "dict") #[(en P "__module__" 294 ↥14),(en P "__qualname__" 296 (vS "NoLeft" 295)),(en P "__firstlineno__" 298 (vI 14 297)),(en P "__static_attributes__" 299 (r 95))] 4
def o56:Obj:=fiO (.type "code") #[(vS "NoLeft" 289),(vS "NoLeft" 290),(c 291),(z 14),(z 0),(z 0),(z 0),(z 0),(r 91),(.bool false),(z 181),(r 92),.none,.none,.none,.none,(z 292),(z 14),(c 293)]
def o57:Obj:=(Obj.mk (.type "frame") none Data.plain #[(some (r 93)),(some (r 3)),(some (r 90)),none,(some ↥14),none,(some (r 0))])
def o58 (P:Params):Obj:=diO (.type "dict") #[(en P "__module__" 294 ↥14),(en P "__firstlineno__" 298 (vI 14 297)),(en P "__static_attributes__" 299 (r 95)),(en P "__doc__" 300 .none)] 2
def o59:Obj:=(Obj.mk (.type "type") none (Data.cls (ClassData.mk "NoLeft" [(r 24)] [(r 97),(r 24),(.type "ValueError"),(.type "Exception"),↥33,(.type "object")] 96 "NoLeft" true [] [] false none false)) #[(some (r 88)),none,(some (vS "NoLeft" 287)),(some (vS "NoLeft" 295)),↥36,(some (.bool true))])
def o60:Obj:=fiO (.type "super") #[(r 97),(r 97),(r 97)]
def o61:Obj:=fiO ↥31 #[↥39,(r 97)]
def o62:Obj:=sqO ↥5 #[(vS "size" 308)]
def o63:Obj:=fv "width" 9
def o64:Obj:=cd "width" 305 306 307 17 1 100 181 101 102 103 104 309 310
def o65:Obj:=fu "width" 9 3 "roundmill.sizes" 303 105
def o66:Obj:=sqO ↥5 #[(vS "size" 315)]
def o67:Obj:=fv "bias" 10
def o68:Obj:=cd "bias" 312 313 314 19 1 107 181 108 109 110 111 316 317
def o69:Obj:=fu "bias" 10 3 "roundmill.sizes" 303 112
def o70:Obj:=sqO ↥5 #[(vS "size" 322)]
def o71:Obj:=fv "low" 11
def o72:Obj:=cd "low" 319 320 321 21 1 114 181 115 116 117 118 323 324
def o73:Obj:=fu "low" 11 3 "roundmill.sizes" 303 119
def o74:Obj:=sqO ↥5 #[(vS "size" 329)]
def o75:Obj:=fv "sign_bit" 12
def o76:Obj:=cd "sign_bit" 326 327 328 23 1 121 181 122 123 124 125 330 331
def o77:Obj:=fu "sign_bit" 12 3 "roundmill.sizes" 303 126
def o78:Obj:=sqO ↥5 #[(vS "size" 336)]
def o79:Obj:=fv "last_field" 13
def o80:Obj:=cd "last_field" 333 334 335 25 1 128 181 129 130 131 132 337 338
def o81:Obj:=fu "last_field" 13 3 "roundmill.sizes" 303 133
def o82:Obj:=sqO ↥5 #[(vS "size" 343)]
def o83:Obj:=fv "endless" 14
def o84:Obj:=cd "endless" 340 341 342 27 1 135 181 136 137 138 139 344 345
def o85:Obj:=fu "endless" 14 3 "roundmill.sizes" 303 140
def o86:Obj:=sqO ↥5 #[(vS "size" 350)]
def o87:Obj:=fv "no_number" 15
def o88:Obj:=cd "no_number" 347 348 349 29 1 142 181 143 144 145 146 351 352
def o89:Obj:=fu "no_number" 15 3 "roundmill.sizes" 303 147
def o90:Obj:=sqO ↥5 #[(vS "top" 359),(vS "bottom" 360)]
def o91:Obj:=fv "check_fraction" 17
def o92:Obj:=cd "check_fraction" 356 357 358 32 2 149 181 150 151 152 153 361 362
def o93:Obj:=fu "check_fraction" 17 3 "roundmill.cutting" 354 154
def o94:Obj:=sqO ↥5 #[(vS "top" 367),(vS "bottom" 368),(vS "power" 369)]
def o95:Obj:=fv "scaled" 18
def o96:Obj:=cd "scaled" 364 365 366 35 3 156 181 157 158 159 160 370 371
def o97:Obj:=fu "scaled" 18 3 "roundmill.cutting" 354 161
def o98:Obj:=sqO ↥5 #[(vS "top" 376),(vS "bottom" 377),(vS "guess" 378),(vS "parts" 379)]
def o99:Obj:=fv "height" 19
def Pm:Obj:=cd "height" 373 374 375 39 2 163 181 164 165 166 167 380 381
def Pk:Obj:=fu "height" 19 3 "roundmill.cutting" 354 168
def Pj:Obj:=sqO ↥5 #[(vS "over" 386),(vS "number" 387),(vS "middle" 388)]
def Ra:Obj:=fv "rest_by_middle" 20
def Ph:Obj:=cd "rest_by_middle" 383 384 385 43 3 170 181 171 172 173 174 389 390
def Pg:Obj:=fu "rest_by_middle" 20 3 "roundmill.cutting" 354 175
def Pf:Obj:=sqO ↥5 #[(vS "over" 395),(vS "step" 396)]
def Q9:Obj:=fv "rest_of" 21
def Pe:Obj:=cd "rest_of" 392 393 394 49 2 177 181 178 179 180 181 397 398
def Pd:Obj:=fu "rest_of" 21 3 "roundmill.cutting" 354 182
def Pc:Obj:=sqO ↥5 #[(vS "size" 403),(vS "top" 404),(vS "bottom" 405),(vS "power" 406),(vS "parts" 407)]
def Q8:Obj:=fv "cut" 22
def Pb:Obj:=cd "cut" 400 401 402 51 3 184 181 185 186 187 188 408 409
def Pa:Obj:=fu "cut" 22 3 "roundmill.cutting" 354 189
def O9:Obj:=sqO ↥5 #[(vS "size" 424),(vS "bits" 425),(vS "code" 426),(vS "step" 427)]
def Q7:Obj:=fv "parted" 28
def O8:Obj:=cd "parted" 421 422 423 63 2 191 181 192 193 194 195 428 429
def O7:Obj:=fu "parted" 28 3 "roundmill.parts" 419 196
def O6:Obj:=sqO ↥5 #[(vS "size" 434),(vS "numbers" 435),(vS "bits" 436)]
def Q6:Obj:=fv "check_bits" 29
def O5:Obj:=cd "check_bits" 431 432 433 69 2 198 181 199 200 201 202 437 438
def O4:Obj:=fu "check_bits" 29 3 "roundmill.parts" 419 203
def O3:Obj:=sqO ↥5 #[(vS "size" 443),(vS "bits" 444),(vS "parts" 445),(vS "field" 446),(vS "figures" 447)]
def Q5:Obj:=fv "kind" 30
def O2:Obj:=cd "kind" 440 441 442 72 2 205 181 206 207 208 209 448 449
def O1:Obj:=fu "kind" 30 3 "roundmill.parts" 419 210
def O0:Obj:=sqO ↥5 #[(vS "size" 454),(vS "bits" 455),(vS "parts" 456),(vS "sign" 457),(vS "field" 458),(vS "figures" 459)]
def Q4:Obj:=fv "worth" 31
def OZ:Obj:=cd "worth" 451 452 453 81 2 212 181 213 214 215 216 460 461
def OY:Obj:=fu "worth" 31 3 "roundmill.parts" 419 217
def OX:Obj:=sqO ↥5 #[(vS "value" 466),(vS "whole" 467),(vS "power" 468)]
def Q3:Obj:=fv "worth_fraction" 32
def OW:Obj:=cd "worth_fraction" 463 464 465 91 1 219 181 220 221 222 223 469 470
def OV:Obj:=fu "worth_fraction" 32 3 "roundmill.parts" 419 224
def OU:Obj:=sqO ↥5 #[(vS "size" 475),(vS "sign" 476),(vS "code" 477)]
def Q2:Obj:=fv "signed" 33
def OT:Obj:=cd "signed" 472 473 474 97 3 226 181 227 228 229 230 478 479
def OS:Obj:=fu "signed" 33 3 "roundmill.parts" 419 231
def OR:Obj:=sqO ↥5 #[(vS "even" 483),(vS "away" 484),(vS "nought" 485),(vS "up" 486),(vS "down" 487)]
def Q1 (P:Params):Obj:=diO (.type "dict") #[(en P "__module__" 496 (vS "roundmill.ways" 481)),(en P "__qualname__" 498 (vS "Way" 497)),(en P "__firstlineno__" 500 (vI 101 499)),(en P "__init__" 508 (r 247)),(en P "grows" 518 (r 254)),(en P "bursts" 526 (r 261)),(en P "flees_nought" 534 (r 268)),(en P "__static_attributes__" 536 (r 269))] 8
def Q0:Obj:=fiO .none #[(z 103),(z 4),(r 246),(z 106),(z 4),(r 253),(z 115),(z 4),(r 260),(z 120),(z 4),(r 267)]
def QZ:Obj:=fiO (.type "code") #[(vS "Way" 491),(vS "Way" 492),(c 493),(z 101),(z 0),(z 0),(z 0),(z 0),(r 237),(.bool false),(z 181),(r 238),.none,.none,.none,.none,(z 494),(z 101),(c 495)]
def QY:Obj:=(Obj.mk (.type "frame") none Data.plain #[(some (r 239)),(some (r 3)),(some (r 236)),none,(some (vS "roundmill.ways" 481)),none,(some (r 0))])
def OP:Obj:=sqO ↥5 #[(vS "self" 504),(vS "name" 505)]
def QX:Obj:=fnO .none "__init__" "Way.__init__" ((cO (T.top 36)).getD 0 ↥37) 0 [] .none .none .none .none none .none .none 0
def OO:Obj:=fiO (.type "code") #[(vS "__init__" 501),(vS "Way.__init__" 502),(c 503),(z 103),(z 2),(z 0),(z 0),(z 3),(r 241),(.bool true),(z 181),(r 242),.none,(r 243),(r 244),(r 245),(z 506),(z 103),(c 507)]
def ON:Obj:=fnO (.type "function") "__init__" "Way.__init__" ((cO (T.top 36)).getD 0 ↥37) 3 [] .none .none .none (vS "roundmill.ways" 481) none (r 246) .none 0
def OM:Obj:=sqO ↥5 #[(vS "self" 512),(vS "sign" 513),(vS "odd" 514),(vS "rest" 515)]
def QW:Obj:=fnO .none "grows" "Way.grows" ((cO (T.top 36)).getD 1 ↥37) 0 [] .none .none .none .none none .none .none 0
def OL:Obj:=fiO (.type "code") #[(vS "grows" 509),(vS "Way.grows" 510),(c 511),(z 106),(z 4),(z 0),(z 0),(z 3),(r 248),(.bool true),(z 181),(r 249),.none,(r 250),(r 251),(r 252),(z 516),(z 106),(c 517)]
def OK:Obj:=fnO (.type "function") "grows" "Way.grows" ((cO (T.top 36)).getD 1 ↥37) 3 [] .none .none .none (vS "roundmill.ways" 481) none (r 253) .none 0
def OJ:Obj:=sqO ↥5 #[(vS "self" 522),(vS "sign" 523)]
def QV:Obj:=fnO .none "bursts" "Way.bursts" ((cO (T.top 36)).getD 2 ↥37) 0 [] .none .none .none .none none .none .none 0
def OI:Obj:=fiO (.type "code") #[(vS "bursts" 519),(vS "Way.bursts" 520),(c 521),(z 115),(z 2),(z 0),(z 0),(z 3),(r 255),(.bool true),(z 181),(r 256),.none,(r 257),(r 258),(r 259),(z 524),(z 115),(c 525)]
def OH:Obj:=fnO (.type "function") "bursts" "Way.bursts" ((cO (T.top 36)).getD 2 ↥37) 3 [] .none .none .none (vS "roundmill.ways" 481) none (r 260) .none 0
def OG:Obj:=sqO ↥5 #[(vS "self" 530),(vS "sign" 531)]
def QU:Obj:=fnO .none "flees_nought" "Way.flees_nought" ((cO (T.top 36)).getD 3 ↥37) 0 [] .none .none .none .none none .none .none 0
def OF:Obj:=fiO (.type "code") #[(vS "flees_nought" 527),(vS "Way.flees_nought" 528),(c 529),(z 120),(z 2),(z 0),(z 0),(z 3),(r 262),(.bool true),(z 181),(r 263),.none,(r 264),(r 265),(r 266),(z 532),(z 120),(c 533)]
def OE:Obj:=fnO (.type "function") "flees_nought" "Way.flees_nought" ((cO (T.top 36)).getD 3 ↥37) 3 [] .none .none .none (vS "roundmill.ways" 481) none (r 267) .none 0
def OD:Obj:=sqO ↥5 #[(vS "name" 535)]
def OC (P:Params):Obj:=diO (.type "dict") #[(en P "__module__" 496 (vS "roundmill.ways" 481)),(en P "__firstlineno__" 500 (vI 101 499)),(en P "__init__" 508 (r 247)),(en P "grows" 518 (r 254)),(en P "bursts" 526 (r 261)),(en P "flees_nought" 534 (r 268)),(en P "__static_attributes__" 536 (r 269)),(en P "__dict__" 538 (r 272)),(en P "__weakref__" 540 (r 273)),(en P "__doc__" 541 .none)] 4
def OB:Obj:=(Obj.mk (.type "type") none (Data.cls (ClassData.mk "Way" [(.type "object")] [(r 271),(.type "object")] 270 "Way" true [] [] false none false)) #[none,none,(some (vS "Way" 489)),(some (vS "Way" 497)),(some (.builtin "object.__new__")),(some (.bool true))])
def OA:Obj:=fiO (.type "getset_descriptor") #[(vS "__dict__" 537),(r 271),(.builtin "function.__dict__"),(.builtin "function.__dict__#set")]
def Oz:Obj:=fiO (.type "getset_descriptor") #[(vS "__weakref__" 539),(r 271),(.builtin "ExceptionGroup.__weakref__"),.none]
def QT:Obj:=fiO (.type "super") #[(r 271),(r 271),(r 271)]
def QS:Obj:=fiO ↥31 #[↥39,(r 271)]
def Oy:Obj:=sqO ↥5 #[(vS "name" 547)]
def QR:Obj:=fv "way_of" 37
def Ox:Obj:=cd "way_of" 544 545 546 124 1 276 181 277 278 279 280 548 549
def Ow:Obj:=fu "way_of" 37 3 "roundmill.ways" 481 281
def Ov:Obj:=sqO ↥5 #[(vS "size" 556),(vS "way" 557),(vS "sign" 558),(vS "whole" 559),(vS "power" 560),(vS "rest" 561),(vS "chosen" 562),(vS "code" 563),(vS "end" 564),(vS "taken" 565)]
def QQ:Obj:=fv "settled" 39
def Ou:Obj:=cd "settled" 553 554 555 129 6 283 181 284 285 286 287 566 567
def Ot:Obj:=fu "settled" 39 3 "roundmill.rounding" 551 288
def Oq (P:Params):Obj:=diO (.type "dict") #[(en P "__name__" 165 (vS "law_roundmill_k45_whole_kept_turn" 761)),(en P "__doc__" 166 .none),(en P "__package__" 167 .none),(en P "__loader__" 168 (.builtin "__main__.__loader__#opaque")),(en P "__spec__" 169 .none),(en P "__annotations__" 170 (r 6)),(en P "__builtins__" 171 (r 4)),(en P "__file__" 173 (c 172)),(en P "__cached__" 174 .none),(en P "MillError" 206 (r 24)),(en P "NoBits" 222 (r 37)),(en P "NotFinite" 238 (r 49)),(en P "NoWay" 254 (r 61)),(en P "NoFraction" 270 (r 73)),(en P "Empty" 286 (r 85)),(en P "NoLeft" 302 (r 97)),(en P "width" 311 (r 106)),(en P "bias" 318 (r 113)),(en P "low" 325 (r 120)),(en P "sign_bit" 332 (r 127)),(en P "last_field" 339 (r 134)),(en P "endless" 346 (r 141)),(en P "no_number" 353 (r 148)),(en P "check_fraction" 363 (r 155)),(en P "scaled" 372 (r 162)),(en P "height" 382 (r 169)),(en P "rest_by_middle" 391 (r 176)),(en P "rest_of" 399 (r 183)),(en P "cut" 410 (r 190)),(en P "INEXACT" 412 (vI 1 411)),(en P "SMALL" 414 (vI 2 413)),(en P "GREAT" 416 (vI 4 415)),(en P "WRONG" 418 (vI 16 417)),(en P "parted" 430 (r 197)),(en P "check_bits" 439 (r 204)),(en P "kind" 450 (r 211)),(en P "worth" 462 (r 218)),(en P "worth_fraction" 471 (r 225)),(en P "signed" 480 (r 232)),(en P "NAMES" 488 (r 233)),(en P "Way" 543 (r 271)),(en P "way_of" 550 (r 282)),(en P "settled" 568 (r 289)),(en P "lost_flags" 578 (r 296)),(en P "rounded" 590 (r 303)),(en P "total" 598 (r 308)),(en P "nought_sign" 606 (r 315)),(en P "settled_total" 612 (r 320)),(en P "any_none" 620 (r 325)),(en P "number_term" 628 (r 332)),(en P "product_wrong" 638 (r 339)),(en P "product_term" 650 (r 346)),(en P "settled_terms" 656 (r 351)),(en P "settled_sum" 662 (r 356)),(en P "added" 674 (r 363)),(en P "NOT_FINITE" 679 (r 364)),(en P "check_finite" 688 (r 371)),(en P "kept_answer" 696 (r 378)),(en P "minus" 703 (r 385)),(en P "left_of" 713 (r 392)),(en P "sum_left" 724 (r 399)),(en P "kept_turn" 736 (r 406)),(en P "summed" 747 (r 413)),(en P "in_turn" 760 (r 420)),(en P "_law_cell_at" 770 (r 427)),(en P "_law_whole" 777 (r 434)),(en P "_law_size_by" 786 (r 441)),(en P "_law_way_by" 793 (r 448)),(en P "_law_finite_by" 810 (r 455)),(en P "_law_beside" 824 (r 462)),(en P "_law_value" 833 (r 469)),(en P "_law_line" 843 (r 476)),(en P "_law_row_by" 854 (r 483)),(en P "_law_finite" 864 (r 490)),(en P "_law_kept" 876 (r 497)),(en P "_law_apart" 887 (r 504)),(en P "law" 893 (r 509))] 77
def QP:Obj:=fiO .none #[(z 2),(z 0),(r 20),(z 4),(z 0),(r 33),(z 6),(z 0),(r 45),(z 8),(z 0),(r 57),(z 10),(z 0),(r 69),(z 12),(z 0),(r 81),(z 14),(z 0),(r 93),(z 17),(z 0),(r 105),(z 19),(z 0),(r 112),(z 21),(z 0),(r 119),(z 23),(z 0),(r 126),(z 25),(z 0),(r 133),(z 27),(z 0),(r 140),(z 29),(z 0),(r 147),(z 32),(z 0),(r 154),(z 35),(z 0),(r 161),(z 39),(z 0),(r 168),(z 43),(z 0),(r 175),(z 49),(z 0),(r 182),(z 51),(z 0),(r 189),(z 63),(z 0),(r 196),(z 69),(z 0),(r 203),(z 72),(z 0),(r 210),(z 81),(z 0),(r 217),(z 91),(z 0),(r 224),(z 97),(z 0),(r 231),(z 101),(z 0),(r 239),(z 124),(z 0),(r 281),(z 129),(z 0),(r 288),(z 140),(z 0),(r 295),(z 145),(z 0),(r 302),(z 150),(z 0),(r 307),(z 157),(z 0),(r 314),(z 162),(z 0),(r 319),(z 169),(z 0),(r 324),(z 172),(z 0),(r 331),(z 176),(z 0),(r 338),(z 179),(z 0),(r 345),(z 186),(z 0),(r 350),(z 193),(z 0),(r 355),(z 205),(z 0),(r 362),(z 209),(z 0),(r 370),(z 214),(z 0),(r 377),(z 218),(z 0),(r 384),(z 220),(z 0),(r 391),(z 226),(z 0),(r 398),(z 231),(z 0),(r 405),(z 243),(z 0),(r 412),(z 245),(z 0),(r 419),(z 259),(z 0),(r 426),(z 263),(z 0),(r 433),(z 265),(z 0),(r 440),(z 273),(z 0),(r 447),(z 275),(z 0),(r 454),(z 295),(z 0),(r 461),(z 310),(z 0),(r 468),(z 315),(z 0),(r 475),(z 321),(z 0),(r 482),(z 331),(z 0),(r 489),(z 337),(z 0),(r 496),(z 349),(z 0),(r 503),(z 359),(z 0),(r 508)]
def Oo:Obj:=sqO ↥5 #[(vS "size" 572),(vS "code" 573),(vS "taken" 574),(vS "faint" 575)]
def QO:Obj:=fv "lost_flags" 40
def Om:Obj:=cd "lost_flags" 569 570 571 140 3 290 181 291 292 293 294 576 577
def Ol:Obj:=fu "lost_flags" 40 3 "roundmill.rounding" 551 295
def Oj:Obj:=sqO ↥5 #[(vS "size" 582),(vS "way" 583),(vS "sign" 584),(vS "top" 585),(vS "bottom" 586),(vS "parts" 587)]
def QN:Obj:=fv "rounded" 41
def Oi:Obj:=cd "rounded" 579 580 581 145 5 297 181 298 299 300 301 588 589
def Oh:Obj:=fu "rounded" 41 3 "roundmill.rounding" 551 302
def QM:Obj:=fv "total" 43
def Og:Obj:=fiO (.type "code") #[(vS "total" 593),(vS "total" 594),(c 595),(z 150),(z 1),(z 0),(z 0),(z 3),(r 304),(.bool true),(z 181),(r 305),.none,.none,.none,(r 306),(z 596),(z 150),(c 597)]
def Of:Obj:=fu "total" 43 3 "roundmill.totals" 591 307
def Oe:Obj:=sqO ↥5 #[(vS "way" 602),(vS "signs" 603)]
def QL:Obj:=fv "nought_sign" 44
def Od:Obj:=cd "nought_sign" 599 600 601 157 2 309 181 310 311 312 313 604 605
def Oc:Obj:=fu "nought_sign" 44 3 "roundmill.totals" 591 314
def QK:Obj:=fv "settled_total" 45
def Ob:Obj:=fiO (.type "code") #[(vS "settled_total" 607),(vS "settled_total" 608),(c 609),(z 162),(z 3),(z 0),(z 0),(z 3),(r 316),(.bool true),(z 181),(r 317),.none,.none,.none,(r 318),(z 610),(z 162),(c 611)]
def Oa:Obj:=fu "settled_total" 45 3 "roundmill.totals" 591 319
def QJ:Obj:=fv "any_none" 47
def N9:Obj:=fiO (.type "code") #[(vS "any_none" 615),(vS "any_none" 616),(c 617),(z 169),(z 2),(z 0),(z 0),(z 3),(r 321),(.bool true),(z 181),(r 322),.none,.none,.none,(r 323),(z 618),(z 169),(c 619)]
def N8:Obj:=fu "any_none" 47 3 "roundmill.terms" 613 324
def N7:Obj:=sqO ↥5 #[(vS "size" 624),(vS "bits" 625)]
def QI:Obj:=fv "number_term" 48
def N6:Obj:=cd "number_term" 621 622 623 172 2 326 181 327 328 329 330 626 627
def N5:Obj:=fu "number_term" 48 3 "roundmill.terms" 613 331
def N4:Obj:=sqO ↥5 #[(vS "size" 632),(vS "a" 633),(vS "b" 634),(vS "kinds" 635)]
def QH:Obj:=fv "product_wrong" 49
def N3:Obj:=cd "product_wrong" 629 630 631 176 3 333 181 334 335 336 337 636 637
def N2:Obj:=fu "product_wrong" 49 3 "roundmill.terms" 613 338
def N1:Obj:=sqO ↥5 #[(vS "size" 642),(vS "a" 643),(vS "b" 644),(vS "left" 645),(vS "right" 646),(vS "sign" 647)]
def QG:Obj:=fv "product_term" 50
def NZ:Obj:=cd "product_term" 639 640 641 179 3 340 181 341 342 343 344 648 649
def NY:Obj:=fu "product_term" 50 3 "roundmill.terms" 613 345
def QF:Obj:=fv "settled_terms" 51
def NX:Obj:=fiO (.type "code") #[(vS "settled_terms" 651),(vS "settled_terms" 652),(c 653),(z 186),(z 3),(z 0),(z 0),(z 3),(r 347),(.bool true),(z 181),(r 348),.none,.none,.none,(r 349),(z 654),(z 186),(c 655)]
def NW:Obj:=fu "settled_terms" 51 3 "roundmill.terms" 613 350
def QE:Obj:=fv "settled_sum" 52
def NV:Obj:=fiO (.type "code") #[(vS "settled_sum" 657),(vS "settled_sum" 658),(c 659),(z 193),(z 4),(z 0),(z 0),(z 3),(r 352),(.bool true),(z 181),(r 353),.none,.none,.none,(r 354),(z 660),(z 193),(c 661)]
def NU:Obj:=fu "settled_sum" 52 3 "roundmill.terms" 613 355
def NT:Obj:=sqO ↥5 #[(vS "size" 668),(vS "way" 669),(vS "a" 670),(vS "b" 671)]
def QD:Obj:=fv "added" 54
def NS:Obj:=cd "added" 665 666 667 205 4 357 181 358 359 360 361 672 673
def NR:Obj:=fu "added" 54 3 "roundmill.deeds" 663 362
def NQ:Obj:=sqO ↥5 #[(vS "endless" 677),(vS "none" 678)]
def NP:Obj:=sqO ↥5 #[(vS "size" 683),(vS "numbers" 684),(vS "bits" 685)]
def QC:Obj:=fv "check_finite" 57
def NO:Obj:=cd "check_finite" 680 681 682 209 2 365 181 366 367 368 369 686 687
def NN:Obj:=fu "check_finite" 57 3 "roundmill.lefts" 675 370
def NM:Obj:=sqO ↥5 #[(vS "size" 692),(vS "pair" 693)]
def QB:Obj:=fv "kept_answer" 58
def NL:Obj:=cd "kept_answer" 689 690 691 214 2 372 181 373 374 375 376 694 695
def NK:Obj:=fu "kept_answer" 58 3 "roundmill.lefts" 675 377
def NJ:Obj:=sqO ↥5 #[(vS "term" 700)]
def QA:Obj:=fv "minus" 59
def NI:Obj:=cd "minus" 697 698 699 218 1 379 181 380 381 382 383 701 702
def NH:Obj:=fu "minus" 59 3 "roundmill.lefts" 675 384
def NG:Obj:=sqO ↥5 #[(vS "size" 707),(vS "terms" 708),(vS "value" 709),(vS "pair" 710)]
def Qz:Obj:=fv "left_of" 60
def NF:Obj:=cd "left_of" 704 705 706 220 2 386 181 387 388 389 390 711 712
def ND:Obj:=fu "left_of" 60 3 "roundmill.lefts" 675 391
def NC:Obj:=sqO ↥5 #[(vS "size" 717),(vS "a" 718),(vS "b" 719),(vS "answer" 720),(vS "terms" 721)]
def Qy:Obj:=fv "sum_left" 61
def NA:Obj:=cd "sum_left" 714 715 716 226 3 393 181 394 395 396 397 722 723
def Nz:Obj:=fu "sum_left" 61 3 "roundmill.lefts" 675 398
def Ny:Obj:=sqO ↥5 #[(vS "size" 728),(vS "xs" 729),(vS "steps" 730),(vS "lefts" 731),(vS "bits" 732),(vS "pair" 733)]
def Qx:Obj:=fv "kept_turn" 62
def Nx:Obj:=cd "kept_turn" 725 726 727 231 2 400 181 401 402 403 404 734 735
def Nw:Obj:=fu "kept_turn" 62 3 "roundmill.lefts" 675 405
def Nv:Obj:=sqO ↥5 #[(vS "size" 742),(vS "way" 743),(vS "xs" 744)]
def Qw:Obj:=fv "summed" 64
def Nu:Obj:=cd "summed" 739 740 741 243 3 407 181 408 409 410 411 745 746
def Nt:Obj:=fu "summed" 64 3 "roundmill.rows" 737 412
def Nq:Obj:=sqO ↥5 #[(vS "size" 751),(vS "way" 752),(vS "xs" 753),(vS "steps" 754),(vS "flags" 755),(vS "bits" 756),(vS "pair" 757)]
def Qv:Obj:=fv "in_turn" 65
def Np:Obj:=cd "in_turn" 748 749 750 245 3 414 181 415 416 417 418 758 759
def Nn:Obj:=fu "in_turn" 65 3 "roundmill.rows" 737 419
def Nm:Obj:=sqO ↥5 #[(vS "_law_script" 766),(vS "_law_k" 767)]
def Qu:Obj:=fv "_law_cell_at" 67
def Nl:Obj:=cd "_law_cell_at" 763 764 765 259 2 421 181 422 423 424 425 768 769
def Nk:Obj:=fu "_law_cell_at" 67 3 "law_roundmill_k45_whole_kept_turn" 761 426
def Nj:Obj:=sqO ↥5 #[(vS "_law_found" 774)]
def Qt:Obj:=fv "_law_whole" 68
def Ni:Obj:=cd "_law_whole" 771 772 773 263 1 428 181 429 430 431 432 775 776
def Nh:Obj:=fu "_law_whole" 68 3 "law_roundmill_k45_whole_kept_turn" 761 433
def Ng:Obj:=sqO ↥5 #[(vS "_law_cell" 781),(vS "_law_way" 782),(vS "_law_rest" 783)]
def Qs:Obj:=fv "_law_size_by" 69
def Nf:Obj:=cd "_law_size_by" 778 779 780 265 1 435 181 436 437 438 439 784 785
def Nd:Obj:=fu "_law_size_by" 69 3 "law_roundmill_k45_whole_kept_turn" 761 440
def Nc:Obj:=sqO ↥5 #[(vS "_law_cell" 790)]
def Qr:Obj:=fv "_law_way_by" 70
def Nb:Obj:=cd "_law_way_by" 787 788 789 273 1 442 181 443 444 445 446 791 792
def Na:Obj:=fu "_law_way_by" 70 3 "law_roundmill_k45_whole_kept_turn" 761 447
def M9:Obj:=sqO ↥5 #[(vS "_law_size" 797),(vS "_law_cell" 798),(vS "_law_half" 799),(vS "_law_last" 800),(vS "_law_way" 801),(vS "_law_rest" 802),(vS "_law_mixed" 803),(vS "_law_side" 804),(vS "_law_middle" 805),(vS "_law_field" 806),(vS "_law_figures" 807)]
def Qq:Obj:=fv "_law_finite_by" 71
def M8:Obj:=cd "_law_finite_by" 794 795 796 275 2 449 181 450 451 452 453 808 809
def M7:Obj:=fu "_law_finite_by" 71 3 "law_roundmill_k45_whole_kept_turn" 761 454
def M6:Obj:=sqO ↥5 #[(vS "_law_size" 814),(vS "_law_bits" 815),(vS "_law_cell" 816),(vS "_law_half" 817),(vS "_law_last" 818),(vS "_law_way" 819),(vS "_law_code" 820),(vS "_law_figures" 821)]
def Qp:Obj:=fv "_law_beside" 72
def M5:Obj:=cd "_law_beside" 811 812 813 295 3 456 181 457 458 459 460 822 823
def M4:Obj:=fu "_law_beside" 72 3 "law_roundmill_k45_whole_kept_turn" 761 461
def M3:Obj:=sqO ↥5 #[(vS "_law_size" 828),(vS "_law_code" 829),(vS "_law_field" 830)]
def Qo:Obj:=fv "_law_value" 73
def M1:Obj:=cd "_law_value" 825 826 827 310 2 463 181 464 465 466 467 831 832
def M0:Obj:=fu "_law_value" 73 3 "law_roundmill_k45_whole_kept_turn" 761 468
def MZ:Obj:=sqO ↥5 #[(vS "_law_size" 837),(vS "_law_bits" 838),(vS "_law_half" 839),(vS "_law_value_here" 840)]
def Qn:Obj:=fv "_law_line" 74
def MY:Obj:=cd "_law_line" 834 835 836 315 2 470 181 471 472 473 474 841 842
def MX:Obj:=fu "_law_line" 74 3 "law_roundmill_k45_whole_kept_turn" 761 475
def MW:Obj:=sqO ↥5 #[(vS "_law_size" 847),(vS "_law_cells" 848),(vS "_law_first" 849),(vS "_law_row" 850),(vS "_law_cell" 851)]
def Qm:Obj:=fv "_law_row_by" 75
def MV:Obj:=cd "_law_row_by" 844 845 846 321 3 477 181 478 479 480 481 852 853
def MU:Obj:=fu "_law_row_by" 75 3 "law_roundmill_k45_whole_kept_turn" 761 482
def MT:Obj:=sqO ↥5 #[(vS "_law_size" 858),(vS "_law_row" 859),(vS "_law_half" 860),(vS "_law_bits" 861)]
def Ql:Obj:=fv "_law_finite" 76
def MS:Obj:=cd "_law_finite" 855 856 857 331 2 484 181 485 486 487 488 862 863
def MR:Obj:=fu "_law_finite" 76 3 "law_roundmill_k45_whole_kept_turn" 761 489
def MQ:Obj:=sqO ↥5 #[(vS "_law_size" 868),(vS "_law_row" 869),(vS "_law_steps" 870),(vS "_law_found" 871),(vS "_law_k" 872),(vS "_law_ahead_of" 873)]
def Qk:Obj:=fv "_law_kept" 77
def MP:Obj:=cd "_law_kept" 865 866 867 337 4 491 181 492 493 494 495 874 875
def MO:Obj:=fu "_law_kept" 77 3 "law_roundmill_k45_whole_kept_turn" 761 496
def MN:Obj:=sqO ↥5 #[(vS "_law_size" 880),(vS "_law_row" 881),(vS "_law_handed" 882),(vS "_law_found" 883),(vS "_law_told" 884)]
def Qj:Obj:=fv "_law_apart" 78
def MM:Obj:=cd "_law_apart" 877 878 879 349 2 498 181 499 500 501 502 885 886
def ML:Obj:=fu "_law_apart" 78 3 "law_roundmill_k45_whole_kept_turn" 761 503
def Qi:Obj:=fv "law" 79
def MK:Obj:=fiO (.type "code") #[(vS "law" 888),(vS "law" 889),(c 890),(z 359),(z 1),(z 0),(z 0),(z 3),(r 505),(.bool true),(z 181),(r 506),.none,.none,.none,(r 507),(z 891),(z 359),(c 892)]
def MJ:Obj:=fu "law" 79 3 "law_roundmill_k45_whole_kept_turn" 761 508
def full (P:Params):BT:=(B (boot_o_0 P) (B (boot_o_1 P) (B (Oq P) (B (boot_o_7 P) (B o6 (B o0 (B o37 (B o77 (L o0) (L QA)) (B o0 (L Ob) (L Nb))) (B o0 (B o0 (L QQ) (L o1)) (B Q3 (L NW) (L MW)))) (B o0 (B o0 (B o1 (L OB) (L Nz)) (B O3 (L N4) (L o0))) (B o67 (B Ph (L Oh) (L o0)) (B QZ (L NP) (L Qk))))) (B (o11 P) (B o23 (B o0 (B o0 (L o1) (L NF)) (B o1 (L o1) (L M7))) (B o0 (B o99 (L Om) (L Nm)) (B OT (L NT) (L o0)))) (B o0 (B o51 (B o90 (L o0) (L o0)) (B o0 (L o0) (L o1))) (B o72 (B Pd (L Oe) (L Qs)) (B ON (L o0) (L MM)))))) (B o0 (B o1 (B o0 (B o0 (B o0 (L QV) (L o1)) (B Q7 (L QJ) (L M9))) (B o61 (B o0 (L o1) (L Np)) (B o1 (L NV) (L MU)))) (B o30 (B o0 (B o88 (L QS) (L o0)) (B O1 (L N2) (L Qo))) (B o1 (B Pf (L Og) (L o0)) (B OP (L NN) (L o1))))) (B o15 (B o0 (B o44 (B o83 (L OF) (L NC)) (B O5 (L N6) (L o0))) (B o0 (B o1 (L Oj) (L Nk)) (B o7 (L NR) (L o0)))) (B o0 (B o0 (B o93 (L o0) (L Qw)) (B o0 (L o0) (L MY))) (B o74 (B o0 (L Oc) (L o1)) (B o0 (L o0) (L Qi))))))) (B (boot_o_5 P) (B (boot_o_9 P) (B (o8 P) (B o18 (B o7 (B o1 (L OJ) (L NH)) (B O9 (L o0) (L o0))) (B o59 (B o96 (L Ot) (L o0)) (B OV (L o1) (L Qm)))) (B o28 (B o46 (B o0 (L Oz) (L o1)) (B Q5 (L QH) (L M3))) (B o69 (B o0 (L o1) (L Ni)) (B o0 (L QC) (L MO))))) (B o13 (B o7 (B o42 (B o82 (L o0) (L o0)) (B o0 (L o0) (L o1))) (B o64 (B Pk (L o0) (L Qu)) (B OR (L QD) (L MS)))) (B o32 (B o7 (B o91 (L Ox) (L Nv)) (B OZ (L NZ) (L o0))) (B o0 (B o1 (L QL) (L Nd)) (B o1 (L NL) (L o0)))))) (B o2 (B o10 (B o21 (B o39 (B o80 (L OH) (L o0)) (B O7 (L N8) (L Qq))) (B o1 (B o98 (L o0) (L o0)) (B o0 (L o0) (L o1)))) (B o7 (B o49 (B o0 (L o1) (L Nx)) (B o1 (L o1) (L M0))) (B o0 (B Q9 (L o0) (L Ng)) (B QX (L o1) (L o0))))) (B o7 (B o25 (B o7 (B o85 (L OD) (L Qy)) (B o0 (L o0) (L M5))) (B o66 (B o0 (L QN) (L o1)) (B o0 (L o0) (L MQ)))) (B o35 (B o56 (B o1 (L Ov) (L Nt)) (B OX (L QF) (L o0))) (B o75 (B Pb (L o1) (L o0)) (B OL (L NJ) (L MJ)))))))) (B (boot_o_2 P) (B (boot_o_4 P) (B (boot_o_8 P) (B o7 (B o1 (B o16 (B o0 (L o1) (L NI)) (B o1 (L Oa) (L Na))) (B (o58 P) (B o95 (L Ou) (L Nq)) (B OW (L o0) (L o0)))) (B (o27 P) (B o1 (B o86 (L OA) (L o0)) (B o0 (L o0) (L o1))) (B o68 (B Pg (L o0) (L Qt)) (B QY (L o0) (L MP))))) (B o54 (B o16 (B (o41 P) (B o1 (L OG) (L ND)) (B O6 (L N7) (L o0))) (B o63 (B Pm (L Ol) (L o0)) (B OS (L o0) (L Ql)))) (B o1 (B o16 (B o0 (L QR) (L o1)) (B Q4 (L QG) (L MZ))) (B o73 (B o0 (L o0) (L Nf)) (B o0 (L QB) (L ML)))))) (B QP (B o9 (B (o20 P) (B o1 (B o79 (L OI) (L NG)) (B O8 (L N9) (L o0))) (B o0 (B o1 (L Oo) (L Nn)) (B OU (L NU) (L o0)))) (B o16 (B (o48 P) (B o89 (L o0) (L Qx)) (B o0 (L o0) (L M1))) (B o70 (B o0 (L Of) (L o1)) (B o0 (L o0) (L MN))))) (B o16 (B o1 (B o16 (B o84 (L OE) (L o0)) (B O4 (L N5) (L Qp))) (B o1 (B Pj (L o0) (L o0)) (B (Q1 P) (L NQ) (L o1)))) (B (o34 P) (B o1 (B o0 (L o1) (L Nu)) (B o1 (L o1) (L MX))) (B o0 (B Q8 (L o0) (L Nc)) (B QW (L o1) (L MK))))))) (B (boot_o_6 P) (B (boot_o_10 P) (B o0 (B o19 (B (o38 P) (B o78 (L o0) (L o0)) (B o0 (L o1) (L o1))) (B o60 (B o97 (L o0) (L Qv)) (B o0 (L QE) (L MV)))) (B o29 (B o47 (B o87 (L QT) (L Ny)) (B O2 (L N3) (L o0))) (B o0 (B o1 (L QM) (L Nh)) (B o1 (L NO) (L o0))))) (B o14 (B (o24 P) (B o43 (B o0 (L QU) (L o1)) (B Q6 (L QI) (L M6))) (B o65 (B o0 (L o1) (L Nl)) (B o0 (L NS) (L MR)))) (B o33 (B (o55 P) (B o92 (L Ow) (L o0)) (B OY (L NY) (L Qn))) (B o1 (B Pc (L Od) (L o0)) (B OM (L NK) (L o1)))))) (B o3 (B o0 (B o22 (B o40 (B o81 (L o0) (L Qz)) (B o0 (L o0) (L M8))) (B o62 (B o0 (L QO) (L o1)) (B Q2 (L o1) (L MT)))) (B (o31 P) (B o50 (B o1 (L Oy) (L Nw)) (B O0 (L N1) (L o0))) (B o71 (B Pe (L o1) (L o0)) (B OO (L NM) (L Qj))))) (B (o17 P) (B o26 (B (o45 P) (B o0 (L (OC P)) (L NA)) (B o1 (L o1) (L M4))) (B o0 (B Ra (L Oi) (L Nj)) (B Q0 (L o1) (L o0)))) (B o36 (B o57 (B o94 (L o0) (L o0)) (B o0 (L NX) (L o1))) (B o76 (B Pa (L QK) (L Qr)) (B OK (L o0) N))))))))
def t_0 (P:Params):BT:=(((cut 15 (full P) 1 0).ins 3 (boot_o_3 P)).ins 12 (o1))
def t_1 (P:Params):BT:=((((cut 88 (full P) 1 0).ins 3 (o4 P)).ins 12 (o5)).ins 24 (o12))
def t_2 (P:Params):BT:=(((cut 290 (full P) 1 0).ins 3 (o52 P)).ins 12 (o53))
def t_3 (P:Params):BT:=(cut 510 (full P) 1 0)
def ha (P:Params):Heap:=⟨⟨[boot_o_0 P,boot_o_1 P,boot_o_2 P,boot_o_3 P,boot_o_4 P,boot_o_5 P,boot_o_6 P,boot_o_7 P,boot_o_8 P,boot_o_9 P,boot_o_10 P,o0,o1,o2,o3]⟩,↥1⟩
def hf (P:Params):Heap:=absHeap (full P) 510 ↥1
def K (P:Params):Frag:=(nat_lit 2,boot_o_2 P)::(nat_lit 3,Oq P)::(nat_lit 15,o6)::(nat_lit 22,o0)::(nat_lit 23,o11 P)::(nat_lit 24,o54)::(nat_lit 25,o13)::(nat_lit 28,o16)::(nat_lit 35,o0)::(nat_lit 36,o20 P)::(nat_lit 37,o21)::(nat_lit 40,o16)::(nat_lit 47,o0)::(nat_lit 48,o27 P)::(nat_lit 49,o28)::(nat_lit 52,o16)::(nat_lit 59,o0)::(nat_lit 60,o34 P)::(nat_lit 61,o35)::(nat_lit 64,o16)::(nat_lit 71,o0)::(nat_lit 72,o41 P)::(nat_lit 73,o42)::(nat_lit 76,o16)::(nat_lit 83,o0)::(nat_lit 84,o48 P)::(nat_lit 85,o49)::(nat_lit 88,o16)::(nat_lit 95,o0)::(nat_lit 96,o58 P)::(nat_lit 97,o59)::(nat_lit 100,o0)::(nat_lit 102,o62)::(nat_lit 103,o0)::(nat_lit 105,o64)::(nat_lit 106,o65)::(nat_lit 107,o0)::(nat_lit 109,o66)::(nat_lit 110,o0)::(nat_lit 112,o68)::(nat_lit 113,o69)::(nat_lit 114,o0)::(nat_lit 116,o70)::(nat_lit 117,o0)::(nat_lit 119,o72)::(nat_lit 120,o73)::(nat_lit 121,o0)::(nat_lit 123,o74)::(nat_lit 124,o0)::(nat_lit 126,o76)::(nat_lit 127,o77)::(nat_lit 128,o0)::(nat_lit 130,o78)::(nat_lit 131,o0)::(nat_lit 133,o80)::(nat_lit 134,o81)::(nat_lit 135,o0)::(nat_lit 137,o82)::(nat_lit 138,o0)::(nat_lit 140,o84)::(nat_lit 141,o85)::(nat_lit 142,o0)::(nat_lit 144,o86)::(nat_lit 145,o0)::(nat_lit 147,o88)::(nat_lit 148,o89)::(nat_lit 149,o0)::(nat_lit 151,o90)::(nat_lit 152,o0)::(nat_lit 154,o92)::(nat_lit 155,o93)::(nat_lit 156,o0)::(nat_lit 158,o94)::(nat_lit 159,o0)::(nat_lit 161,o96)::(nat_lit 162,o97)::(nat_lit 163,o0)::(nat_lit 165,o98)::(nat_lit 166,o0)::(nat_lit 168,Pm)::(nat_lit 169,Pk)::(nat_lit 170,o0)::(nat_lit 172,Pj)::(nat_lit 173,o0)::(nat_lit 175,Ph)::(nat_lit 176,Pg)::(nat_lit 177,o0)::(nat_lit 179,Pf)::(nat_lit 180,o0)::(nat_lit 182,Pe)::(nat_lit 183,Pd)::(nat_lit 184,o0)::(nat_lit 186,Pc)::(nat_lit 187,o0)::(nat_lit 189,Pb)::(nat_lit 190,Pa)::(nat_lit 191,o0)::(nat_lit 193,O9)::(nat_lit 194,o0)::(nat_lit 196,O8)::(nat_lit 197,O7)::(nat_lit 198,o0)::(nat_lit 200,O6)::(nat_lit 201,o0)::(nat_lit 203,O5)::(nat_lit 204,O4)::(nat_lit 205,o0)::(nat_lit 207,O3)::(nat_lit 208,o0)::(nat_lit 210,O2)::(nat_lit 211,O1)::(nat_lit 212,o0)::(nat_lit 214,O0)::(nat_lit 215,o0)::(nat_lit 217,OZ)::(nat_lit 218,OY)::(nat_lit 219,o0)::(nat_lit 221,OX)::(nat_lit 222,o0)::(nat_lit 224,OW)::(nat_lit 225,OV)::(nat_lit 226,o0)::(nat_lit 228,OU)::(nat_lit 229,o0)::(nat_lit 231,OT)::(nat_lit 232,OS)::(nat_lit 233,OR)::(nat_lit 241,o0)::(nat_lit 243,OP)::(nat_lit 244,o0)::(nat_lit 246,OO)::(nat_lit 247,ON)::(nat_lit 248,o0)::(nat_lit 250,OM)::(nat_lit 251,o0)::(nat_lit 253,OL)::(nat_lit 254,OK)::(nat_lit 255,o0)::(nat_lit 257,OJ)::(nat_lit 258,o0)::(nat_lit 260,OI)::(nat_lit 261,OH)::(nat_lit 262,o0)::(nat_lit 264,OG)::(nat_lit 265,o0)::(nat_lit 267,OF)::(nat_lit 268,OE)::(nat_lit 269,OD)::(nat_lit 270,OC P)::(nat_lit 271,OB)::(nat_lit 272,OA)::(nat_lit 273,Oz)::(nat_lit 276,o0)::(nat_lit 278,Oy)::(nat_lit 279,o0)::(nat_lit 281,Ox)::(nat_lit 282,Ow)::(nat_lit 283,o0)::(nat_lit 285,Ov)::(nat_lit 286,o0)::(nat_lit 288,Ou)::(nat_lit 289,Ot)::(nat_lit 290,o0)::(nat_lit 292,Oo)::(nat_lit 293,o0)::(nat_lit 295,Om)::(nat_lit 296,Ol)::(nat_lit 297,o0)::(nat_lit 299,Oj)::(nat_lit 300,o0)::(nat_lit 302,Oi)::(nat_lit 303,Oh)::(nat_lit 304,o0)::(nat_lit 307,Og)::(nat_lit 308,Of)::(nat_lit 309,o0)::(nat_lit 311,Oe)::(nat_lit 312,o0)::(nat_lit 314,Od)::(nat_lit 315,Oc)::(nat_lit 316,o0)::(nat_lit 319,Ob)::(nat_lit 320,Oa)::(nat_lit 321,o0)::(nat_lit 324,N9)::(nat_lit 325,N8)::(nat_lit 326,o0)::(nat_lit 328,N7)::(nat_lit 329,o0)::(nat_lit 331,N6)::(nat_lit 332,N5)::(nat_lit 333,o0)::(nat_lit 335,N4)::(nat_lit 336,o0)::(nat_lit 338,N3)::(nat_lit 339,N2)::(nat_lit 340,o0)::(nat_lit 342,N1)::(nat_lit 343,o0)::(nat_lit 345,NZ)::(nat_lit 346,NY)::(nat_lit 347,o0)::(nat_lit 350,NX)::(nat_lit 351,NW)::(nat_lit 352,o0)::(nat_lit 355,NV)::(nat_lit 356,NU)::(nat_lit 357,o0)::(nat_lit 359,NT)::(nat_lit 360,o0)::(nat_lit 362,NS)::(nat_lit 363,NR)::(nat_lit 364,NQ)::(nat_lit 365,o0)::(nat_lit 367,NP)::(nat_lit 368,o0)::(nat_lit 370,NO)::(nat_lit 371,NN)::(nat_lit 372,o0)::(nat_lit 374,NM)::(nat_lit 375,o0)::(nat_lit 377,NL)::(nat_lit 378,NK)::(nat_lit 379,o0)::(nat_lit 381,NJ)::(nat_lit 382,o0)::(nat_lit 384,NI)::(nat_lit 385,NH)::(nat_lit 386,o0)::(nat_lit 388,NG)::(nat_lit 389,o0)::(nat_lit 391,NF)::(nat_lit 392,ND)::(nat_lit 393,o0)::(nat_lit 395,NC)::(nat_lit 396,o0)::(nat_lit 398,NA)::(nat_lit 399,Nz)::(nat_lit 400,o0)::(nat_lit 402,Ny)::(nat_lit 403,o0)::(nat_lit 405,Nx)::(nat_lit 406,Nw)::(nat_lit 407,o0)::(nat_lit 409,Nv)::(nat_lit 410,o0)::(nat_lit 412,Nu)::(nat_lit 413,Nt)::(nat_lit 414,o0)::(nat_lit 416,Nq)::(nat_lit 417,o0)::(nat_lit 419,Np)::(nat_lit 420,Nn)::(nat_lit 421,o0)::(nat_lit 423,Nm)::(nat_lit 424,o0)::(nat_lit 426,Nl)::(nat_lit 427,Nk)::(nat_lit 428,o0)::(nat_lit 430,Nj)::(nat_lit 431,o0)::(nat_lit 433,Ni)::(nat_lit 434,Nh)::(nat_lit 435,o0)::(nat_lit 437,Ng)::(nat_lit 438,o0)::(nat_lit 440,Nf)::(nat_lit 441,Nd)::(nat_lit 442,o0)::(nat_lit 444,Nc)::(nat_lit 445,o0)::(nat_lit 447,Nb)::(nat_lit 448,Na)::(nat_lit 449,o0)::(nat_lit 451,M9)::(nat_lit 452,o0)::(nat_lit 454,M8)::(nat_lit 455,M7)::(nat_lit 456,o0)::(nat_lit 458,M6)::(nat_lit 459,o0)::(nat_lit 461,M5)::(nat_lit 462,M4)::(nat_lit 463,o0)::(nat_lit 465,M3)::(nat_lit 466,o0)::(nat_lit 468,M1)::(nat_lit 469,M0)::(nat_lit 470,o0)::(nat_lit 472,MZ)::(nat_lit 473,o0)::(nat_lit 475,MY)::(nat_lit 476,MX)::(nat_lit 477,o0)::(nat_lit 479,MW)::(nat_lit 480,o0)::(nat_lit 482,MV)::(nat_lit 483,MU)::(nat_lit 484,o0)::(nat_lit 486,MT)::(nat_lit 487,o0)::(nat_lit 489,MS)::(nat_lit 490,MR)::(nat_lit 491,o0)::(nat_lit 493,MQ)::(nat_lit 494,o0)::(nat_lit 496,MP)::(nat_lit 497,MO)::(nat_lit 498,o0)::(nat_lit 500,MN)::(nat_lit 501,o0)::(nat_lit 503,MM)::(nat_lit 504,ML)::(nat_lit 505,o0)::(nat_lit 508,MK)::(nat_lit 509,MJ)::[]
def as:List Addr:=[2,3,15,22,23,24,25,28,35,36,37,40,47,48,49,52,59,60,61,64,71,72,73,76,83,84,85,88,95,96,97,100,102,103,105,106,107,109,110,112,113,114,116,117,119,120,121,123,124,126,127,128,130,131,133,134,135,137,138,140,141,142,144,145,147,148,149,151,152,154,155,156,158,159,161,162,163,165,166,168,169,170,172,173,175,176,177,179,180,182,183,184,186,187,189,190,191,193,194,196,197,198,200,201,203,204,205,207,208,210,211,212,214,215,217,218,219,221,222,224,225,226,228,229,231,232,233,241,243,244,246,247,248,250,251,253,254,255,257,258,260,261,262,264,265,267,268,269,270,271,272,273,276,278,279,281,282,283,285,286,288,289,290,292,293,295,296,297,299,300,302,303,304,307,308,309,311,312,314,315,316,319,320,321,324,325,326,328,329,331,332,333,335,336,338,339,340,342,343,345,346,347,350,351,352,355,356,357,359,360,362,363,364,365,367,368,370,371,372,374,375,377,378,379,381,382,384,385,386,388,389,391,392,393,395,396,398,399,400,402,403,405,406,407,409,410,412,413,414,416,417,419,420,421,423,424,426,427,428,430,431,433,434,435,437,438,440,441,442,444,445,447,448,449,451,452,454,455,456,458,459,461,462,463,465,466,468,469,470,472,473,475,476,477,479,480,482,483,484,486,487,489,490,491,493,494,496,497,498,500,501,503,504,505,508,509]
def env:Env:={ scope:=PySem.Challenge.pw_roundmill_k45_whole_kept_turn.main.scope,locals:=mainNs,globals:=mainNs,cells:=[],code:=(.ref 13),frame:=some 14 }
def Et:List Stmt:=[T.top 0,T.top 1,T.top 2,T.top 3,T.top 4,T.top 5,T.top 6]
def Es:List Stmt:=[T.top 7,T.top 8,T.top 9,T.top 10,T.top 11,T.top 12,T.top 13,T.top 14,T.top 15,T.top 16,T.top 17,T.top 18,T.top 19,T.top 20,T.top 21,T.top 22,T.top 23,T.top 24,T.top 25,T.top 26,T.top 27,T.top 28,T.top 29,T.top 30,T.top 31,T.top 32,T.top 33,T.top 34,T.top 35,T.top 36,T.top 37,T.top 38,T.top 39]
def Er:List Stmt:=[T.top 40,T.top 41,T.top 42,T.top 43,T.top 44,T.top 45,T.top 46,T.top 47,T.top 48,T.top 49,T.top 50,T.top 51,T.top 52,T.top 53,T.top 54,T.top 55,T.top 56,T.top 57,T.top 58,T.top 59,T.top 60,T.top 61,T.top 62,T.top 63,T.top 64,T.top 65,T.top 66,T.top 67,T.top 68,T.top 69,T.top 70,T.top 71,T.top 72,T.top 73,T.top 74,T.top 75,T.top 76,T.top 77,T.top 78,T.top 79]
def q:Program:=PySem.W.view PySem.Challenge.pw_roundmill_k45_whole_kept_turn [1,2,3,4,5,6,7,9,10,11,12,13,14,15,17,18,19,20,21,22,23,24,25,26,28,29,30,31,32,33,35,36,37,39,40,41,43,44,45,47,48,49,50,51,52,54,56,57,58,59,60,61,62,64,65,67,68,69,70,71,72,73,74,75,76,77,78,79]
end
end H
namespace H
open PySem PySem.W PySem.Calls PySem.Spec PyProof.Rows L2 EV ES
noncomputable section
def cB:Code:=Code.body (behindTheImports PySem.Challenge.pw_roundmill_k45_whole_kept_turn) env
def row:RowW:=OpenRow.toRowW (OpenLaw.row PySem.Challenge.rw_roundmill_k45_whole_kept_turn)
def Xt (s:Shared):Bool:=xlAt q [] s&&recOk (RowW.records row) s
end
theorem Pt:(fun (_:Program) (_:Program) (_:Env) (_:Code) (_:Shared->Bool)=>true) PySem.Challenge.pw_roundmill_k45_whole_kept_turn q env cB Xt=true:=by k_qdec
set_option maxHeartbeats 0 in
theorem Le:∀ w:World,(fun os:OsState=>topGo treeTable PySem.Challenge.pw_roundmill_k45_whole_kept_turn w 11 (some (.ref 6)) 12 (Shared.mk (boot_heap w.params) (Array.mk []) boot_drawn boot_toks os) (topStub PySem.Challenge.pw_roundmill_k45_whole_kept_turn))=fun os:OsState=>some ((Shared.mk (ha w.params) ⟨[]⟩ (Drawn.mk 0 0 0 0) 187 os),Thread.mk (denote treeTable cB) cB (Pos.mk 0 0 0 0) [topFrame (Pos.mk 0 0 0 0)]):=by
 rewrite [PySem.W.Fast.te15667345088766844465,PySem.W.Fast.te14364793385576792824,PySem.W.Fast.te962126262887447024,PySem.W.Fast.te11892475500146522536,PySem.W.Fast.te2060423359788512156]
 intro w
 kernel_rfl
set_option maxHeartbeats 0 in
theorem El:∀ w:World,(fun os:OsState=>segRun treeTable PySem.Challenge.pw_roundmill_k45_whole_kept_turn w 11 (some (.ref 6)) 1 1 (Shared.mk (ha w.params) ⟨[]⟩ (Drawn.mk 0 0 0 0) 187 os) (blockOf (behindTheImports PySem.Challenge.pw_roundmill_k45_whole_kept_turn) env cB (Pos.mk 0 0 0 0) [topFrame (Pos.mk 0 0 0 0)]))=fun os:OsState=>some (Flow.next,(SharedT.abs (SharedT.mk (t_0 w.params) 15 ↥1 ⟨[]⟩ (Drawn.mk 0 0 0 0) 187 os)),cB,(Pos.mk 0 0 0 0)):=by
 rewrite [PySem.W.Fast.te14374325043358763698,PySem.W.Fast.te14364793385576792824,PySem.W.Fast.te962126262887447024,PySem.W.Fast.te2060423359788512156]
 intro w
 kernel_rfl
set_option maxHeartbeats 0 in
theorem PK:∀ w:World,(fun os:OsState=>segRunT treeTable PySem.Challenge.pw_roundmill_k45_whole_kept_turn w 11 (some (.ref 6)) 1 1261 (SharedT.mk (t_0 w.params) 15 ↥1 ⟨[]⟩ (Drawn.mk 0 0 0 0) 187 os) (piecesOf Et env cB (Pos.mk 0 0 0 0) [topFrame (Pos.mk 0 0 0 0)]))=fun os:OsState=>some (Flow.next,(SharedT.mk (t_1 w.params) 88 ↥1 ⟨[]⟩ (Drawn.mk 0 0 0 0) 287 os),cB,(Pos.mk 12 0 13 8)):=by
 rewrite [PySem.W.Fast.te10110043849684766642,PySem.W.Fast.te14364793385576792824,PySem.W.Fast.te962126262887447024,PySem.W.Fast.te2060423359788512156]
 intro w
 kernel_rfl
set_option maxHeartbeats 0 in
theorem PJ:∀ w:World,(fun os:OsState=>segRunT treeTable PySem.Challenge.pw_roundmill_k45_whole_kept_turn w 11 (some (.ref 6)) 1 1279 (SharedT.mk (t_1 w.params) 88 ↥1 ⟨[]⟩ (Drawn.mk 0 0 0 0) 287 os) (piecesOf Es env cB (Pos.mk 12 0 13 8) [topFrame (Pos.mk 0 0 0 0)]))=fun os:OsState=>some (Flow.next,(SharedT.mk (t_2 w.params) 290 ↥1 ⟨[]⟩ (Drawn.mk 0 0 0 0) 569 os),cB,(Pos.mk 129 0 139 69)):=by
 rewrite [PySem.W.Fast.te10110043849684766642,PySem.W.Fast.te14364793385576792824,PySem.W.Fast.te962126262887447024,PySem.W.Fast.te2060423359788512156]
 intro w
 kernel_rfl
set_option maxHeartbeats 0 in
theorem PH:∀ w:World,(fun os:OsState=>segRunT treeTable PySem.Challenge.pw_roundmill_k45_whole_kept_turn w 11 (some (.ref 6)) 1 1091 (SharedT.mk (t_2 w.params) 290 ↥1 ⟨[]⟩ (Drawn.mk 0 0 0 0) 569 os) (piecesOf Er env cB (Pos.mk 129 0 139 69) [topFrame (Pos.mk 0 0 0 0)]))=fun os:OsState=>some (Flow.next,(SharedT.mk (t_3 w.params) 510 ↥1 ⟨[]⟩ (Drawn.mk 0 0 0 0) 894 os),cB,(Pos.mk 359 0 387 34)):=by
 rewrite [PySem.W.Fast.te10110043849684766642,PySem.W.Fast.te14364793385576792824,PySem.W.Fast.te962126262887447024,PySem.W.Fast.te2060423359788512156]
 intro w
 kernel_rfl
set_option maxHeartbeats 0 in
theorem Lf:∀ w:World,(fun os:OsState=>topRun treeTable PySem.Challenge.pw_roundmill_k45_whole_kept_turn w 11 (some (.ref 6)) 2 (SharedT.abs (SharedT.mk (t_3 w.params) 510 ↥1 ⟨[]⟩ (Drawn.mk 0 0 0 0) 894 os)) (Thread.mk (doneF Flow.next) cB (Pos.mk 359 0 387 34) [topFrame (Pos.mk 0 0 0 0)]))=fun os:OsState=>some ↥9:=by
 rewrite [PySem.W.Fast.te14082659384304107361,PySem.W.Fast.te14364793385576792824,PySem.W.Fast.te962126262887447024,PySem.W.Fast.te2060423359788512156]
 intro w
 kernel_rfl
set_option maxHeartbeats 0 in
theorem HU:∀ w:World,((boot_heap w.params).isNs mainGlobals&&(Array.mk []:Array GenState).size == 0,(boot_heap w.params).objs.size,(boot_heap w.params).nsMap mainGlobals "__annotations__")=(true,11,(some (.ref 6))):=by
 rewrite [PySem.W.Fast.te8920871248978507458]
 intro w
 kernel_rfl
set_option maxHeartbeats 0 in
theorem l_1:∀ w:World,(fun os:OsState=>staticsOk ↥8 (boot_heap w.params) (hf w.params)&&namesBound PySem.Challenge.pw_roundmill_k45_whole_kept_turn (hf w.params)&&gensDone ↥9&&laidKept (boot_heap w.params) (hf w.params))=fun os:OsState=>true:=by
 rewrite [PySem.W.Fast.te5923862056798008813,PySem.W.Fast.te962126262887447024]
 intro w
 kernel_rfl
set_option maxHeartbeats 0 in
theorem Rr:∀ w:World,(fun os:OsState=>(openSeen q [] ↥8 Xt true ↥9).1)=fun os:OsState=>(openGood q []).1:=by
 unfold openSeen openGood
 dsimp only
 rewrite [PySem.W.Fast.te5160383126252970620,PySem.W.R.mapR_eq,PySem.W.Fast.te3399658132070893891,PySem.W.Fast.te5991557255702980513]
 intro w
 kernel_rfl
set_option maxHeartbeats 0 in
theorem Rq:∀ w:World,(fun os:OsState=>(openSeen q [] ↥8 Xt true ↥9).2.1)=fun os:OsState=>(openGood q []).2.1:=by
 unfold openSeen openGood
 dsimp only
 intro w
 kernel_rfl
set_option maxHeartbeats 0 in
theorem Rp:∀ w:World,(fun os:OsState=>(openSeen q [] ↥8 Xt true ↥9).2.2.1)=fun os:OsState=>(openGood q []).2.2.1:=by
 unfold openSeen openGood
 dsimp only
 rewrite [PySem.W.Fast.te10880121769531294198,PySem.W.Fast.te821141287760084731,PySem.W.R.mapR_eq,PySem.W.Fast.te3399658132070893891,PySem.W.Fast.te7409074990110511671,PySem.W.Fast.te13664370479719496447,PySem.W.Fast.te14722251495701143533,PySem.W.Fast.te5923862056798008813,PySem.W.Fast.te962126262887447024,PySem.W.Fast.te10994771534591457954,PySem.W.Fast.te18408535023408442824]
 intro w
 kernel_rfl
set_option maxHeartbeats 0 in
theorem Ro:∀ w:World,(fun os:OsState=>(openSeen q [] ↥8 Xt true ↥9).2.2.2.1)=fun os:OsState=>(openGood q []).2.2.2.1:=by
 unfold openSeen openGood
 dsimp only
 rewrite [PySem.W.Fast.te479339242167458305]
 intro w
 kernel_rfl
set_option maxHeartbeats 0 in
theorem Rn:∀ w:World,(fun os:OsState=>(openSeen q [] ↥8 Xt true ↥9).2.2.2.2.1)=fun os:OsState=>(openGood q []).2.2.2.2.1:=by
 unfold openSeen openGood
 dsimp only
 rewrite [PySem.W.Fast.te16090120013241838585,PySem.W.Fast.te3247288618530077131]
 intro w
 kernel_rfl
set_option maxHeartbeats 0 in
theorem Rm:∀ w:World,(fun os:OsState=>(openSeen q [] ↥8 Xt true ↥9).2.2.2.2.2.1)=fun os:OsState=>(openGood q []).2.2.2.2.2.1:=by
 unfold openSeen openGood
 dsimp only
 rewrite [PySem.W.Fast.te2386780881361962483,PySem.W.Fast.te821141287760084731]
 intro w
 kernel_rfl
set_option maxHeartbeats 0 in
theorem Rl:∀ w:World,(fun os:OsState=>(openSeen q [] ↥8 Xt true ↥9).2.2.2.2.2.2.1)=fun os:OsState=>(openGood q []).2.2.2.2.2.2.1:=by
 unfold openSeen openGood
 dsimp only
 rewrite [PySem.W.Fast.te11698064438423848299]
 intro w
 kernel_rfl
set_option maxHeartbeats 0 in
theorem Rk:∀ w:World,(fun os:OsState=>(openSeen q [] ↥8 Xt true ↥9).2.2.2.2.2.2.2.1)=fun os:OsState=>(openGood q []).2.2.2.2.2.2.2.1:=by
 unfold openSeen openGood
 dsimp only
 rewrite [PySem.W.Fast.te7317090234206586261]
 intro w
 kernel_rfl
set_option maxHeartbeats 0 in
theorem Rj:∀ w:World,(fun os:OsState=>(openSeen q [] ↥8 Xt true ↥9).2.2.2.2.2.2.2.2)=fun os:OsState=>(openGood q []).2.2.2.2.2.2.2.2:=by
 unfold openSeen openGood
 dsimp only
 rewrite [PySem.W.Fast.te7369524293546568484]
 intro w
 kernel_rfl
set_option maxHeartbeats 0 in
theorem l_k:∀ w:World,(fun os:OsState=>as.map (Shared.heap ↥9).get?)=fun os:OsState=>(K w.params).map fun x=>some x.2:=by
 rewrite [PySem.W.R.mapR_eq]
 intro w
 kernel_rfl
theorem h_b:behindTheImports PySem.Challenge.pw_roundmill_k45_whole_kept_turn=Et++(Es++(Er++[])):=by kernel_rfl
theorem Lv (w:World) (os:OsState):topRun treeTable PySem.Challenge.pw_roundmill_k45_whole_kept_turn w 11 (some (.ref 6)) (1261+(1279+(1091+(2)))) (SharedT.abs (SharedT.mk (t_0 w.params) 15 ↥1 ⟨[]⟩ (Drawn.mk 0 0 0 0) 187 os)) (restOf (Et++(Es++(Er++[]))) env cB (Pos.mk 0 0 0 0) [topFrame (Pos.mk 0 0 0 0)])=some ↥9 :=
 piece_app (segRun_of (congrFun (PK w) os)) (piece_app (segRun_of (congrFun (PJ w) os)) (piece_app (segRun_of (congrFun (PH w) os)) (piece_nil (congrFun (Lf w) os))))
theorem run (w:World) (os:OsState):topRun treeTable PySem.Challenge.pw_roundmill_k45_whole_kept_turn w 11 (some (.ref 6)) (12+(1+(1261+(1279+(1091+(2)))))) (Shared.mk (boot_heap w.params) (Array.mk []) boot_drawn boot_toks os) (topStub PySem.Challenge.pw_roundmill_k45_whole_kept_turn)=some ↥9 :=
 go_top (congrFun (Le w) os) (piece_block (congrFun (El w) os) ((congrArg (fun b=>topRun treeTable PySem.Challenge.pw_roundmill_k45_whole_kept_turn w 11 (some (.ref 6)) (1261+(1279+(1091+(2)))) (SharedT.abs (SharedT.mk (t_0 w.params) 15 ↥1 ⟨[]⟩ (Drawn.mk 0 0 0 0) 187 os)) (restOf b env cB (Pos.mk 0 0 0 0) [topFrame (Pos.mk 0 0 0 0)])) h_b).trans (Lv w os)))
theorem opened:∀ w:World,(fencedOpening treeTable PySem.Challenge.pw_roundmill_k45_whole_kept_turn w 7382).map (fun s=>(s.heap,s.gens,s.drawn,s.toks))=some (boot_heap w.params,Array.mk [],boot_drawn,boot_toks):=boot_open (by kernel_rfl) ↥2 (fun s=>by kernel_rfl)
theorem he:∀ P,as=(K P).map (·.1):=fun _=>by kernel_rfl
theorem left:LeftO PySem.Challenge.pw_roundmill_k45_whole_kept_turn q [] Xt (kHook K as he).obs (kHook K as he).val 7382 :=
 LeftO.of_pieces opened HU run ↥2 fun w=>funext fun os=>Prod.ext (congrFun (l_1 w) os) (Prod.ext (Prod.ext (congrFun (Rr w) os) (Prod.ext (congrFun (Rq w) os) (Prod.ext (congrFun (Rp w) os) (Prod.ext (congrFun (Ro w) os) (Prod.ext (congrFun (Rn w) os) (Prod.ext (congrFun (Rm w) os) (Prod.ext (congrFun (Rl w) os) (Prod.ext (congrFun (Rk w) os) (congrFun (Rj w) os))))))))) (congrFun (l_k w) os))
end H
namespace EV
open PySem (Str)
theorem ah (k:Int):0<pw k:=Int.pow_pos ↥2
theorem bC (ha:0<=a) (hb:0<=b):pw (a+b)=pw a*pw b:=by
 unfold pw
 rw [Int.toNat_add ha hb,Int.pow_add]
theorem i9 (ha:0<=a):pw (a+1)=2*pw a:=by
 rw [bC ha ↥2,Int.mul_comm]
 rfl
theorem gS (h:a<=b):pw a<=pw b:=by
 unfold pw
 have e1:((2^a.toNat:Nat):Int)=(2:Int)^a.toNat:=by simp
 have e2:((2^b.toNat:Nat):Int)=(2:Int)^b.toNat:=by simp
 rw [<- e1,<-e2]
 exact Int.ofNat_le.mpr (Nat.pow_le_pow_right ↥2 ⋯)
theorem mJ:nb i<=k↔i.natAbs<2^k:=by
 unfold nb
 by_cases h:i=0
 ·subst h
  simp
  exact Nat.two_pow_pos k
 ·rw [if_neg h]
  have h0:i.natAbs≠0:=⋯
  rw [<- Nat.log2_lt h0]
  omega
theorem mY (i:Int):i.natAbs<2^nb i:=mJ.mp ↥23
theorem jc (h:i.natAbs<=j.natAbs):nb i<=nb j:=mJ.mpr (Nat.lt_of_le_of_lt h (mY j))
theorem ud (hi:nb i<=a) (hj:nb j<=b):nb (i+j)<=max a b+1:=by
 rw [mJ] at hi hj ⊢
 have h1:2^a<=2^max a b:=Nat.pow_le_pow_right ↥2 (Nat.le_max_left a b)
 have h2:2^b<=2^max a b:=Nat.pow_le_pow_right ↥2 (Nat.le_max_right a b)
 rw [Nat.pow_succ]
 omega
theorem uc (i:Int):nb (-i)=nb i:=Nat.le_antisymm (jc ⋯) (jc ⋯)
theorem Jv (hi:nb i<=a) (hj:nb j<=b):nb (i - j)<=max a b+1:=by
 rw [Int.sub_eq_add_neg]
 exact ud hi (by rw [uc];exact hj)
theorem iv (hi:nb i<=a) (hj:nb j<=b):nb (i*j)<=a+b:=by
 rw [mJ] at hi hj ⊢
 rw [Int.natAbs_mul,Nat.pow_add]
 rcases Nat.eq_zero_or_pos i.natAbs with h0 | h0
 ·rw [h0,Nat.zero_mul];exact Nat.mul_pos (Nat.two_pow_pos a) (Nat.two_pow_pos b)
 ·exact Nat.lt_of_lt_of_le (Nat.mul_lt_mul_of_pos_left hj h0) (Nat.mul_le_mul_right _ (Nat.le_of_lt hi))
theorem CV (h:0<j) (hj:nb j<=b):nb (i%j)<=b:=by
 refine Nat.le_trans (jc ?_) hj
 have h1:=Int.emod_nonneg i (by omega:j≠0)
 have h2:=Int.emod_lt_of_pos i h
 omega
theorem vB {i j:Int} (h:0<j):(i / j).natAbs<=i.natAbs:=by
 have h3:i=j*(i / j)+i%j:=(Int.mul_ediv_add_emod i j).symm
 have h1:=Int.emod_nonneg i (by omega:j≠0)
 have h2:=Int.emod_lt_of_pos i h
 by_cases hi:0<=i
 ·have:=Int.ediv_nonneg hi (by omega:(0:Int)<=j)
  have:=Int.ediv_le_self j hi
  omega
 ·have h4:i / j<0:=Int.ediv_neg_of_neg_of_pos ⋯ h
  have h5:(j - 1)*(i / j)<=(j - 1)*(-1):=Int.mul_le_mul_of_nonneg_left ⋯ ⋯
  rw [Int.sub_mul,Int.one_mul] at h5
  generalize j*(i / j)=z at *
  omega
theorem lh {i j:Int} {a:Nat} (h:0<j) (hi:nb i<=a):nb (i / j)<=a:=Nat.le_trans (jc (vB h)) hi
theorem gC {k:Int} {c:Nat} (hk:k<=c):nb (pw k)<=c+1:=by
 rw [mJ]
 unfold pw
 rw [Int.natAbs_pow]
 exact Nat.pow_lt_pow_right (a:=2) ↥2 ⋯
theorem mX (h0:0<=i):i<pw (nb i):=by
 have:=mY i
 unfold pw
 have e:((2^((nb i:Int)).toNat:Nat):Int)=(2:Int)^((nb i:Int)).toNat:=by simp
 rw [<- e,show ((nb i:Int)).toNat=nb i by omega]
 omega
theorem MulOk.of (hi:nb i<=a) (hj:nb j<=b) (h:a+b<=134217728):MulOk i j:=by
 unfold MulOk
 omega
theorem jZ.small (h:0<j) (hj:nb j<=9000):jZ i j:=⟨h,.inl hj⟩
theorem FR:nb i<=nb i:=Nat.le_refl _
theorem BA (h:nb i<=a) (h2:a<=b):nb i<=b:=Nat.le_trans h h2
theorem cz (h:MulOk i j):oJ (.int i) (.int j)=.ok (.int (i*j)):=by unfold oJ;simp only;rw [if_pos h]
theorem kW (h:jZ i j):oDiv (.int i) (.int j)=.ok (.int (i / j)):=by unfold oDiv;simp only;rw [if_pos h]
theorem Fv {i j:Int} (h:0<j):oMod (.int i) (.int j)=.ok (.int (i%j)):=by unfold oMod;simp only;rw [if_pos h]
theorem Bu {i j:Int} (h:0<j) (h2:j<18446744073709551616):oDiv (.int i) (.int j)=.ok (.int (i / j)):=kW (jZ.small h (by
 have:nb j<=64:=mJ.mpr ⋯
 omega))
theorem bO (h:0<=j) (h2:(nb i:Int)+j<=134217728):d5 (.int i) (.int j)=.ok (.int (i*pw j)):=by unfold d5;simp only;rw [if_pos ⟨h,h2⟩]
theorem xF {i j:Int} (h:0<=j):Be (.int i) (.int j)=.ok (.int (i / pw j)):=by unfold Be;simp only;rw [if_pos h]
section
variable {α β:Type} {d d':D} {δ:Dt} {C:String} {f:α->R β} {c:Option D}
theorem GB (a:α):(R.ok a).bind f=f a:=rfl
theorem GD:(R.ex C:R α).bind f=.ex C:=rfl
theorem B7:(R.bad:R α).bind f=.bad:=rfl
theorem B6 {p:Prop} [Decidable p] (x y:R α):(if p then x else y).bind f=if p then x.bind f else y.bind f:=by split<;>rfl
theorem Eb {s:S}:(O.nx δ).then s=s δ:=rfl
theorem Ea {s:S}:(O.rt d).then s=.rt d:=rfl
theorem Ee {s:S}:(O.ex C δ).then s=.ex C δ:=rfl
theorem Ec {s:S}:(O.mk C δ).then s=.mk C δ:=rfl
theorem Ed {s:S}:(O.hx C δ).then s=.hx C δ:=rfl
theorem Eh {s:S}:(O.bk δ).then s=.bk δ:=rfl
theorem Ef {s:S}:(O.ct δ).then s=.ct δ:=rfl
theorem AD {s:S}:(O.bad).then s=.bad:=rfl
theorem AB {p:Prop} [Decidable p] (x y:O) {s:S}:(if p then x else y).then s=if p then x.then s else y.then s:=by split<;>rfl
theorem Iu:(O.rt d).res=.ok d:=rfl
theorem Iv:(O.nx δ).res=.ok .non:=rfl
theorem IA:(O.ex C δ).res=.ex C:=rfl
theorem Iw:(O.mk C δ).res=.ex C:=rfl
theorem Iz:(O.hx C δ).res=.ex C:=rfl
theorem EJ:O.bad.res=.bad:=rfl
theorem EI {p:Prop} [Decidable p] (x y:O):(if p then x else y).res=if p then x.res else y.res:=by split<;>rfl
theorem Kl {i:Nat}:asg i δ (.ok d)=.nx (δ.set i (some d)):=rfl
theorem Km {i:Nat}:asg i δ (.ex C)=.ex C (noOwn δ):=rfl
theorem GS {i:Nat} {p:Prop} [Decidable p] (x y:R D):asg i δ (if p then x else y)=if p then asg i δ x else asg i δ y:=by split<;>rfl
theorem Ho:xpr δ (.ok d)=.nx δ:=rfl
theorem Hr:xpr δ (.ex C)=.ex C (noOwn δ):=rfl
theorem DF {p:Prop} [Decidable p] (x y:R D):xpr δ (if p then x else y)=if p then xpr δ x else xpr δ y:=by split<;>rfl
theorem Iq:rtn δ (.ok d)=.rt d:=rfl
theorem Ir:rtn δ (.ex C)=.ex C (noOwn δ):=rfl
theorem EE {p:Prop} [Decidable p] (x y:R D):rtn δ (if p then x else y)=if p then rtn δ x else rtn δ y:=by split<;>rfl
theorem JM {b:Bool} {x y:O}:ifO δ (.ok (.bl b)) x y=if b=true then x else y:=by cases b<;>rfl
theorem JL {x y:O}:ifO δ (.ex C) x y=.ex C (noOwn δ):=rfl
theorem Ge {p:Prop} [Decidable p] (u v:R D) {x y:O}:ifO δ (if p then u else v) x y=if p then ifO δ u x y else ifO δ v x y:=by split<;>rfl
theorem AA {b:Bool} {x y:R β}:truth (.bl b) x y=if b=true then x else y:=by cases b<;>rfl
theorem JF {p:Prop} [Decidable p] {a b:Bool}:(if p then R.ok (D.bl a) else R.ok (D.bl b))=R.ok (D.bl (if p then a else b)):=by split<;>rfl
theorem ite_int {p:Prop} [Decidable p] {a b:Int}:(if p then R.ok (D.int a) else R.ok (D.int b))=R.ok (D.int (if p then a else b)):=by split<;>rfl
theorem JI {p:Prop} [Decidable p] {b:Bool}:((if p then b else false)=true)=(p/\b=true):=by by_cases h:p<;>simp [h]
theorem JH {p:Prop} [Decidable p] {b:Bool}:((if p then true else b)=true)=(p\/b=true):=by by_cases h:p<;>simp [h]
theorem JG {p:Prop} [Decidable p]:((if p then false else true)=true)=¬ p:=by by_cases h:p<;>simp [h]
theorem Hu:var 0 (none::δ)=.bad:=rfl
theorem DN {i:Int}:var 0 (some (.int i)::δ)=.ok (.int i):=rfl
theorem Ht {b:Bool}:var 0 (some (.bl b)::δ)=.ok (.bl b):=rfl
theorem DJ {x:PySem.Str}:var 0 (some (.str x)::δ)=.ok (.str x):=rfl
theorem DL:var 0 (some .non::δ)=.ok .non:=rfl
theorem DI {ds:List D}:var 0 (some (.tup ds)::δ)=.ok (.tup ds):=rfl
theorem DM {ds:List D}:var 0 (some (.lst ds)::δ)=.ok (.lst ds):=rfl
theorem DK {ds:List D}:var 0 (some (.own ds)::δ)=.bad:=rfl
theorem DP:var 0 (some (.exc C)::δ)=.ok (.exc C):=rfl
theorem DQ:var 0 (some (.cls C)::δ)=.ok (.cls C):=rfl
theorem DO {fs:List (String×D)}:var 0 (some (.ins C fs)::δ)=.ok (.ins C fs):=rfl
theorem Ao {n:Nat}:var (n+1) (c::δ)=var n δ:=rfl
theorem Gq:evs [] δ=.ok []:=rfl
theorem BY {e:E} {es:List E}:evs (e::es) δ=(e δ).bind fun d=>(evs es δ).bind fun ds=>.ok (d::ds):=rfl
theorem Bv {i j:Int}:cA (.int i) (.int j)=.ok (.int (i+j)):=rfl
theorem Bd {i j:Int}:eA (.int i) (.int j)=.ok (.int (i - j)):=rfl
theorem Bg {i:Int}:zP (.int i)=.ok (.int (-i)):=rfl
theorem Fw {i j:Int}:oLt (.int i) (.int j)=.ok (.bl (decide (i<j))):=rfl
theorem Fx {i j:Int}:oLe (.int i) (.int j)=.ok (.bl (decide (i<=j))):=rfl
theorem Fy {i j:Int}:oGt (.int i) (.int j)=.ok (.bl (decide (j<i))):=rfl
theorem Fz {i j:Int}:oGe (.int i) (.int j)=.ok (.bl (decide (j<=i))):=rfl
theorem FC {i j:Int}:oEq (.int i) (.int j)=.ok (.bl (decide (i=j))):=by simp [oEq,D.cmp,D.sc,D.beq,Bool.beq_eq_decide_eq]
theorem Fu {i j:Int}:oNe (.int i) (.int j)=.ok (.bl (decide (i≠j))):=by simp [oNe,D.cmp,D.sc,D.beq,Bool.beq_eq_decide_eq]
theorem FA {i j:PySem.Str}:oEq (.str i) (.str j)=.ok (.bl (decide (i=j))):=by simp [oEq,D.cmp,D.sc,D.beq,Bool.beq_eq_decide_eq]
theorem Ft {i j:PySem.Str}:oNe (.str i) (.str j)=.ok (.bl (decide (i≠j))):=by simp [oNe,D.cmp,D.sc,D.beq,Bool.beq_eq_decide_eq]
theorem Jo {i j:Bool}:oEq (.bl i) (.bl j)=.ok (.bl (decide (i=j))):=by simp [oEq,D.cmp,D.sc,D.beq,Bool.beq_eq_decide_eq]
theorem Bn:rV .non=.ok ↥32:=rfl
theorem xI:mE .non=.ok ↥28:=rfl
theorem Bq:rV (.exc C)=.ok ↥28:=rfl
theorem xM:mE (.exc C)=.ok ↥32:=rfl
theorem Bp {i:Int}:rV (.int i)=.ok ↥28:=rfl
theorem xK {i:Int}:mE (.int i)=.ok ↥32:=rfl
theorem Cg {i j:Int}:Ci [.int i,.int j]=.ok (.int (max i j)):=by
 unfold Ci;simp only;congr 2;omega
theorem Cf {i j:Int}:De [.int i,.int j]=.ok (.int (min i j)):=by
 unfold De;simp only;congr 2;omega
theorem Cn {i:Int}:Ha [.int i]=.ok (.int (if i<0 then -i else i)):=rfl
theorem Ck {ds:List D}:qZ [.lst ds]=.ok (.int ds.length):=rfl
theorem Cj {ds:List D}:qZ [.tup ds]=.ok (.int ds.length):=rfl
theorem Cm {i:Int}:Pw [.int i]=.ok (.int i):=rfl
theorem GO {k:Bool}:Pw [.bl k]=.ok (.int (if k then 1 else 0)):=rfl
theorem sX {i:Int}:ji [.int i]=.ok (.int (nb i)):=rfl
theorem zp {ds:List D}:iJ [.lst ds]=.ok (.lst ds):=rfl
theorem zo {ds:List D}:iJ [.tup ds]=.ok (.lst ds):=rfl
theorem sj {i:Int}:jX [.int i,.ty "int"]=.ok ↥32:=rfl
theorem qm {i:Int}:jX [.int i,.ty "bool"]=.ok ↥28:=rfl
theorem r9 {ds:List D}:jX [.tup ds,.ty "tuple"]=.ok ↥32:=rfl
theorem si {ds:List D}:jX [.lst ds,.ty "list"]=.ok ↥32:=rfl
theorem vH:jX [.exc C,.ty "ValueError"]=if aj.contains C then .ok ↥32 else .bad:=by
 show (if (aj.contains C&&("ValueError" == "ValueError"))=true then _ else _)=_
 rw [show ("ValueError" == "ValueError")=true from rfl,Bool.and_true]
theorem sk {B:String}:jX [.exc C,.cls B]=if aj.contains C&&aj.contains B then .ok (.bl (C == B||B == "MillError")) else .bad:=rfl
theorem sf {B:String}:jX [.non,.cls B]=if aj.contains B then .ok ↥28 else .bad:=rfl
theorem tG {k:S}:trn (.nx δ) k=k δ:=rfl
theorem HQ {k:S}:trn (.ct δ) k=k δ:=rfl
theorem HR {k:S}:trn (.bk δ) k=.nx δ:=rfl
theorem HM {k:S}:trn (.rt d) k=.rt d:=rfl
theorem Cz {k:S}:trn (.ex C δ) k=.ex C δ:=rfl
theorem HN {k:S}:trn (.mk C δ) k=.mk C δ:=rfl
theorem HP {k:S}:trn (.hx C δ) k=.hx C δ:=rfl
theorem D0 {p:Prop} [Decidable p] (x y:O) {k:S}:trn (if p then x else y) k=if p then trn x k else trn y k:=by split<;>rfl
theorem ur:forL i b [] δ=.nx δ:=rfl
theorem aP:forL i b (d::ds) δ=trn (b (δ.set i (some d))) (forL i b ds):=rfl
theorem IY {ds:List D} {k:List D->O}:ovL δ (.ok (.lst ds)) k=k ds:=rfl
theorem IW {ds:List D} {k:List D->O}:ovT δ (.ok (.tup ds)) k=k ds:=rfl
theorem DY {B:String} {i:Nat} {s:S}:Cy (.nx δ) B i s=.nx δ:=rfl
theorem DZ {B:String} {i:Nat} {s:S}:Cy (.ex C δ) B i s=if pj C B then forget i (s ((noOwn δ).set i (some (.exc C)))) else .bad:=rfl
theorem Az {p:Prop} [Decidable p] (x y:O) {B:String} {i:Nat} {s:S}:Cy (if p then x else y) B i s=if p then Cy x B i s else Cy y B i s:=by split<;>rfl
theorem yH {i:Nat}:forget i (.nx δ)=.nx (δ.set i none):=rfl
theorem xW:noOwn []=[]:=rfl
theorem vA:noOwn (none::δ)=none::noOwn δ:=rfl
theorem xY {i:Int}:noOwn (some (.int i)::δ)=some (.int i)::noOwn δ:=rfl
theorem By {i:Bool}:noOwn (some (.bl i)::δ)=some (.bl i)::noOwn δ:=rfl
theorem xT {i:PySem.Str}:noOwn (some (.str i)::δ)=some (.str i)::noOwn δ:=rfl
theorem xV:noOwn (some .non::δ)=some .non::noOwn δ:=rfl
theorem xR {ds:List D}:noOwn (some (.tup ds)::δ)=some (.tup ds)::noOwn δ:=rfl
theorem xX {ds:List D}:noOwn (some (.lst ds)::δ)=some (.lst ds)::noOwn δ:=rfl
theorem ya:noOwn (some (.exc C)::δ)=some (.exc C)::noOwn δ:=rfl
theorem vM {C:String}:pj C "MillError"=aj.contains C:=by simp [pj]
end
theorem jr {ds:List D} {k:Nat} {d:D} (h:ds[k]? = some d):oIx (.tup ds) (.int k)=.ok d:=by
 obtain ⟨hk,he⟩:=List.getElem?_eq_some_iff.mp h
 unfold oIx ixN
 simp [he,hk]
theorem js {k:Nat} (h:ds[k]? = some d):oIx (.lst ds) (.int k)=.ok d:=by
 obtain ⟨hk,he⟩:=List.getElem?_eq_some_iff.mp h
 unfold oIx ixN
 simp [he,hk]
section
variable {a b c d e:D} {r:List D}
theorem ix0:oIx (.tup (a::r)) (.int 0)=.ok a:=jr (k:=0) rfl
theorem ix1:oIx (.tup (a::b::r)) (.int 1)=.ok b:=jr (k:=1) rfl
theorem ix2:oIx (.tup (a::b::c::r)) (.int 2)=.ok c:=jr (k:=2) rfl
theorem ix3:oIx (.tup (a::b::c::d::r)) (.int 3)=.ok d:=jr (k:=3) rfl
theorem KG:oIx (.lst (a::r)) (.int 0)=.ok a:=js (k:=0) rfl
theorem Rw:oIx (.lst (a::b::r)) (.int 1)=.ok b:=js (k:=1) rfl
theorem Rv:oIx (.lst (a::b::c::r)) (.int 2)=.ok c:=js (k:=2) rfl
end
theorem RR {m:Nat} {gg:S}:fn 0 m gg []=(gg (List.replicate m none)).res:=rfl
theorem RP {m:Nat} {gg:S} {a:D}:fn 1 m gg [a]=(gg (some a::List.replicate (m - 1) none)).res:=rfl
theorem RO {m:Nat} {gg:S} {a b:D}:fn 2 m gg [a,b]=(gg (some a::some b::List.replicate (m - 2) none)).res:=rfl
theorem RN {m:Nat} {gg:S} {a b c:D}:fn 3 m gg [a,b,c]=(gg (some a::some b::some c::List.replicate (m - 3) none)).res:=rfl
theorem RM {m:Nat} {gg:S} {a b c d:D}:fn 4 m gg [a,b,c,d]=(gg (some a::some b::some c::some d::List.replicate (m - 4) none)).res:=rfl
theorem RK {m:Nat} {gg:S} {a b c d e:D}:fn 5 m gg [a,b,c,d,e]=(gg (some a::some b::some c::some d::some e::List.replicate (m - 5) none)).res:=rfl
theorem RJ {m:Nat} {gg:S} {a b c d e f:D}:fn 6 m gg [a,b,c,d,e,f]=(gg (some a::some b::some c::some d::some e::some f::List.replicate (m - 6) none)).res:=rfl
theorem RH {m:Nat} {gg:S} {a b c d e f g:D}:fn 7 m gg [a,b,c,d,e,f,g]=(gg (some a::some b::some c::some d::some e::some f::some g::List.replicate (m - 7) none)).res:=rfl
theorem RG {m:Nat} {gg:S} {a b c d e f g h:D}:fn 8 m gg [a,b,c,d,e,f,g,h]=(gg (some a::some b::some c::some d::some e::some f::some g::some h::List.replicate (m - 8) none)).res:=rfl
section
variable {α β:Type} {a:α} {l:List α} {n:Nat} {p:Prop} {x y:α}
theorem u3:(a::l).length=l.length+1:=rfl
theorem wc:([]:List α).length=0:=rfl
theorem wd {f:α->β}:(l.map f).length=l.length:=List.length_map f
theorem uZ {f:α->β}:(a::l).map f=f a::l.map f:=rfl
theorem wb {f:α->β}:([]:List α).map f=[]:=rfl
theorem Dn:(a::l).set 0 x=x::l:=rfl
theorem Dm:(a::l).set (n+1) x=a::l.set n x:=rfl
theorem Dq:List.replicate 0 a=[]:=rfl
theorem Dp:List.replicate (n+1) a=a::List.replicate n a:=rfl
theorem Hj:0+n=n:=Nat.zero_add n
theorem Hg:(if True then x else y)=x:=if_pos trivial
theorem Hh:(if False then x else y)=y:=if_neg id
theorem PC:(false=true)=False:=by simp
theorem Py:(true=true)=True:=by simp
theorem Dr:(!true)=false:=rfl
theorem Ds:(!false)=true:=rfl
theorem KN [Decidable p]:(decide p=true)=p:=decide_eq_true_eq
theorem Dv [Decidable True]:decide True=true:=by simp
theorem Dw [Decidable False]:decide False=false:=by simp
theorem Dx:(p/\True)=p:=by simp
theorem Dl:(True/\p)=p:=by simp
theorem Dy:(p/\False)=False:=by simp
theorem Du:(False/\p)=False:=by simp
theorem He:(p\/True)=True:=by simp
theorem Hd:(True\/p)=True:=by simp
theorem Hf:(p\/False)=p:=by simp
theorem Hi:(False\/p)=p:=by simp
theorem Pz:(¬ True)=False:=by simp
theorem PB:(¬ False)=True:=by simp
end
section
variable {a b c:E} {s t:S} {δ:Dt} {i:Nat} {f h:D->D->R D} {k:D->R D} {es:List E} {F:List D->R D} {d:D} {C:String}
theorem KS:seq s t δ=(s δ).then t:=rfl
theorem Ay:assign i a δ=asg i δ (a δ):=rfl
theorem KU:ret a δ=rtn δ (a δ):=rfl
theorem Hy:P9 a δ=rtn δ (a (view δ)):=rfl
theorem K5:ifs a s t δ=ifO δ (a δ) (s δ) (t δ):=rfl
theorem HI:expr a δ=xpr δ (a δ):=rfl
theorem DS:raise C δ=.mk C δ:=rfl
theorem HB:aA δ=.nx δ:=rfl
theorem Hz:Qa δ=.rt .non:=rfl
theorem La:brk δ=.bk δ:=rfl
theorem HJ:cont δ=.ct δ:=rfl
theorem K7:con d δ=.ok d:=rfl
theorem Lb:bin f a b δ=(a δ).bind fun x=>(b δ).bind fun y=>f x y:=rfl
theorem PD:un k a δ=(a δ).bind k:=rfl
theorem Lc:td a b δ=(a δ).bind fun d=>truth d (b δ) (.ok ↥28):=rfl
theorem PF:or_ a b δ=(a δ).bind fun d=>truth d (.ok ↥32) (b δ):=rfl
theorem KW:qX a δ=(a δ).bind fun d=>truth d (.ok ↥28) (.ok ↥32):=rfl
theorem K6:ife c a b δ=(c δ).bind fun d=>truth d (a δ) (b δ):=rfl
theorem DW:chain f h a b c δ=(a δ).bind fun x=>(b δ).bind fun y=>(f x y).bind fun d=>truth d ((c δ).bind fun z=>h y z) (.ok ↥28):=rfl
theorem KP:f9 es δ=(evs es δ).bind fun ds=>.ok (.tup ds):=rfl
theorem KZ:qY es δ=(evs es δ).bind fun ds=>.ok (.lst ds):=rfl
theorem HL:call F es δ=(evs es δ).bind F:=rfl
theorem KQ:Kw s C i t δ=Cy (s δ) C i t:=rfl
theorem DU:Ml i a s δ=ovL δ (a δ) fun ds=>forL i s ds δ:=rfl
theorem DT:Mj i a s δ=ovT δ (a δ) fun ds=>forL i s ds δ:=rfl
theorem DV:Mm i a s δ=ovR δ (a δ) fun ds=>forL i s ds δ:=rfl
end
theorem pJ:aj.contains "MillError"=true:=by decide
theorem wj:aj.contains "NoSize"=true:=by decide
theorem wx:aj.contains "NoBits"=true:=by decide
theorem u5:aj.contains "NoParts"=true:=by decide
theorem wm:aj.contains "NoRank"=true:=by decide
theorem pI:aj.contains "NotFinite"=true:=by decide
theorem zU:aj.contains "NoWay"=true:=by decide
theorem u7:aj.contains "NoFlags"=true:=by decide
theorem nO:aj.contains "NoFraction"=true:=by decide
theorem we:aj.contains "Unlike"=true:=by decide
theorem zW:aj.contains "Empty"=true:=by decide
theorem wu:aj.contains "NoLeft"=true:=by decide
theorem wg:aj.contains "NoText"=true:=by decide
theorem zV:aj.contains "NoRow"=true:=by decide
theorem wq:aj.contains "NoName"=true:=by decide
theorem u4:aj.contains "Stopped"=true:=by decide
section
variable {α:Type} {b:Bool} {ds es:List D} {i:Nat} {it:IT} {g h:E} {s:S} {δ:Dt} {C:String} {ks:List Nat} {k:List D->O} {x:D} {fs:List (String×D)} {F:List D->R D} {gs:List E} {cn m f:String}
theorem DC:(b&&true)=b:=by simp
theorem Dz:(true&&b)=b:=by simp
theorem DB:(false&&b)=false:=by simp
theorem DD:(b&&false)=false:=by simp
theorem Hm:(b||false)=b:=by simp
theorem Hn:(false||b)=b:=by simp
theorem Hk:(true||b)=true:=by simp
theorem Hl:(b||true)=true:=by simp
theorem HH:uu i it s δ=ovI δ (it δ) fun ds=>forL i s ds δ:=rfl
theorem IZ:ovI δ (.ok ds) k=k ds:=rfl
theorem Ja:ovI δ (.ex C) k=.ex C (noOwn δ):=rfl
theorem K3:itL g δ=(g δ).bind asL:=rfl
theorem K2:itT g δ=(g δ).bind asT:=rfl
theorem HF:Rz g δ=(g δ).bind KL:=rfl
theorem HE:Me g h δ=(evs [g,h] δ).bind Kn:=rfl
theorem GX:asL (.lst ds)=.ok ds:=rfl
theorem GW:asT (.tup ds)=.ok ds:=rfl
theorem Ct {n:Int} (h0 : -4611686018427387904<=n) (h1:n<4611686018427387904):KL (.int n)=.ok (p6 0 n):=by unfold KL;simp only;rw [if_pos ⟨h0,h1⟩]
theorem uK {n m:Int} (h0 : -4611686018427387904<=n) (h1:n<4611686018427387904) (h2 : -4611686018427387904<=m) (h3:m<4611686018427387904):Kn [.int n,.int m]=.ok (p6 n m):=by unfold Kn;simp only;rw [if_pos ⟨h0,h1,h2,h3⟩]
theorem HK:comp it ks g δ=(it δ).bind fun ds=>if ds.length<=100000 then (runC (stC (con ↥32) g ks δ) ds).bind cD else .bad:=rfl
theorem Ax:fN it ks g h δ=(it δ).bind fun ds=>if ds.length<=100000 then (runC (stC g h ks δ) ds).bind cD else .bad:=rfl
theorem HC:G7 cn m F g gs δ=(g δ).bind fun d=>if d8 cn m d then (evs gs δ).bind fun ds=>F (d::ds) else .bad:=rfl
theorem KY:mk1 cn f [x]=.ok (.ins cn [(f,x)]):=rfl
theorem RS:v5 cn f (.ins cn ((f,x)::fs))=.ok x:=by simp [v5]
theorem im1:d8 cn m (.ins cn [(f,x)])=(m != f):=by
 have:d8 cn m (.ins cn [(f,x)])=((cn == cn)&&(List.lookup m [(f,x)]).isNone):=rfl
 rw [this,List.lookup_cons]
 cases e:(m == f)<;>simp [e,bne]
theorem xZ:noOwn (some (.ins C fs)::δ)=some (.ins C fs)::noOwn δ:=rfl
theorem zr {d:D}:MD [d,.tup ds]=m5 d ds:=rfl
theorem vJ {d:D}:m5 d []=.ok ↥28:=rfl
theorem sq {d c:D}:m5 d (c::ds)=(jX [d,c]).bind fun x=>truth x (.ok ↥32) (m5 d ds):=rfl
theorem vG {n:String}:jX [.non,.ty n]=if ["int","bool","str","tuple","list","ValueError"].contains n then .ok ↥28 else .bad:=rfl
theorem Bl:rV (.tup ds)=.ok ↥28:=rfl
theorem xG:mE (.tup ds)=.ok ↥32:=rfl
theorem Bo:rV (.lst ds)=.ok ↥28:=rfl
theorem xJ:mE (.lst ds)=.ok ↥32:=rfl
theorem Bm {z:PySem.Str}:rV (.str z)=.ok ↥28:=rfl
theorem xH {z:PySem.Str}:mE (.str z)=.ok ↥32:=rfl
end
theorem kT {x y:String} (h:(PySem.Str.ofString x)=PySem.Str.ofString y):x=y:=by
 rw [PySem.Str.ofString_eq_toList,PySem.Str.ofString_eq_toList] at h
 have h1:(x.toList.map Char.toNat).toArray=(y.toList.map Char.toNat).toArray:=congrArg PySem.Str.cps h
 have h2:x.toList.map Char.toNat=y.toList.map Char.toNat:=by simpa using h1
 have h3:∀ (l m:List Char),l.map Char.toNat=m.map Char.toNat->l=m:=by
  intro l
  induction l with
  | nil=>intro m e;cases m with | nil=>rfl | cons _ _=>cases e
  | cons c r ih =>
   intro m e
   cases m with
   | nil=>cases e
   | cons c' r' =>
    rw [List.map_cons,List.map_cons,List.cons.injEq] at e
    rw [Char.ext (UInt32.toNat_inj.mp e.1),ih r' e.2]
 exact String.toList_inj.mp (h3 _ _ h2)
theorem Bc {x y:String}:((PySem.Str.ofString x)=PySem.Str.ofString y)=(x=y):=propext ⟨kT,fun e=>by rw [e]⟩
theorem tY {a b c d:Int}:oEq (.tup [.int a,.int b]) (.tup [.int c,.int d])=.ok (.bl (decide (a=c/\b=d))):=by
 simp [oEq,D.cmp,D.sc,D.pl,D.beq,D.beqs,Bool.beq_eq_decide_eq]
theorem Bj {a b c d:Int}:oNe (.tup [.int a,.int b]) (.tup [.int c,.int d])=.ok (.bl (!decide (a=c/\b=d))):=by
 simp [oNe,D.cmp,D.sc,D.pl,D.beq,D.beqs,Bool.beq_eq_decide_eq]
theorem Bs {a b c d e f:Int}:oEq (.tup [.int a,.int b,.int e]) (.tup [.int c,.int d,.int f])=.ok (.bl (decide (a=c/\b=d/\e=f))):=by
 simp [oEq,D.cmp,D.sc,D.pl,D.beq,D.beqs,Bool.beq_eq_decide_eq]
theorem Bi {a b c d e f:Int}:oNe (.tup [.int a,.int b,.int e]) (.tup [.int c,.int d,.int f])=.ok (.bl (!decide (a=c/\b=d/\e=f))):=by
 simp [oNe,D.cmp,D.sc,D.pl,D.beq,D.beqs,Bool.beq_eq_decide_eq]
theorem FN {p:Prop} [Decidable p]:((!decide p)=true)=¬ p:=by simp
theorem K4 {g:E} {δ:Dt}:itA g δ=(g δ).bind asA:=rfl
theorem GZ {ds:List D}:asA (.lst ds)=.ok ds:=rfl
theorem GY {ds:List D}:asA (.tup ds)=.ok ds:=rfl
theorem KR {a:E} {lo hi:Option E} {δ:Dt}:slc a lo hi δ=(a δ).bind fun d=>(part lo δ).bind fun l=>(part hi δ).bind fun h=>oSl d l h:=rfl
theorem xx {δ:Dt}:part none δ=.ok none:=rfl
theorem A6 {i:Int} {δ:Dt}:part (some (con (.int i))) δ=.ok (some i):=rfl
theorem Fs {ds:List D} {lo hi:Option Int}:oSl (.lst ds) lo hi=.ok (.lst (cut ds lo hi)):=rfl
theorem se {x:PySem.Str}:jX [.str x,.ty "str"]=.ok ↥32:=rfl
theorem Bh {a b c x y z:Int}:oNe (.tup [.int a,.int b,.int c]) (.tup [.int x,.int y,.int z])=.ok (.bl (decide (¬ (a=x/\b=y/\c=z)))):=by
 unfold oNe
 rw [if_pos (show D.cmp _ _=true from rfl)]
 congr 2
 simp only [D.beq,D.beqs]
 by_cases h1:a=x<;>by_cases h2:b=y<;>by_cases h3:c=z<;>simp [h1,h2,h3]
theorem Br {a b c x y z:Int}:oEq (.tup [.int a,.int b,.int c]) (.tup [.int x,.int y,.int z])=.ok (.bl (decide (a=x/\b=y/\c=z))):=by
 unfold oEq
 rw [if_pos (show D.cmp _ _=true from rfl)]
 congr 2
 simp only [D.beq,D.beqs]
 by_cases h1:a=x<;>by_cases h2:b=y<;>by_cases h3:c=z<;>simp [h1,h2,h3]
theorem Fq {a b:String}:(PySem.Str.ofString a=PySem.Str.ofString b)=(a=b):=by
 apply propext
 constructor
 ·intro h
  rw [PySem.Str.ofString_eq_toList,PySem.Str.ofString_eq_toList] at h
  have h1:a.toList.map Char.toNat=b.toList.map Char.toNat:=by
   have:=congrArg (fun z:PySem.Str=>z.cps.toList) h
   simpa using this
  have h2:a.toList=b.toList:=by
   refine List.map_inj_right (f:=Char.toNat) (fun x y e => ?_) |>.mp h1
   exact Char.toNat_inj.mp e
  exact String.toList_inj.mp h2
 ·intro h;rw [h]
theorem Jn {cn f:String} {d:D}:v5 cn f (.ins cn [(f,d)])=.ok d:=by simp [v5,List.lookup]
theorem BK {cn m f:String} {d:D}:d8 cn m (.ins cn [(f,d)]) = !(m == f):=by
 unfold d8
 cases h:m == f<;>simp [List.lookup,h]
theorem Jy {cn f:String} {d:D}:mk1 cn f [d]=.ok (.ins cn [(f,d)]):=rfl
theorem BJ:(!false)=true:=rfl
theorem HD {g h k:E}:Ry g h k δ=(evs [g,h,k] δ).bind KJ:=rfl
theorem Cr {n m c:Int} (h : -1099511627776<=n/\n<1099511627776 /\ -1099511627776<=m/\m<1099511627776) (h0:0<c) (h1:c<1048576):KJ [.int n,.int m,.int c]=.ok (MH n m c):=by unfold KJ;simp only;rw [if_pos ⟨h,h0,h1⟩]
theorem Au {i:Nat}:mW i δ=.nx (δ.set i (some (.own []))):=rfl
theorem Aw {i:Nat} {g:E}:fb i g δ=gB i δ fun ds=>Dg i δ ds (g (view δ)):=rfl
theorem As {i:Nat}:IV i δ=gB i δ fun ds=>.nx (δ.set i (some (.own ds.reverse))):=rfl
theorem Fj {ds:List D} {l:Dt} {f:List D->O}:gB 0 (some (.own ds)::l) f=f ds:=rfl
theorem Fi {i:Nat} {c:Option D} {l:Dt} {f:List D->O}:gB (i+1) (c::l) f=gB i l f:=rfl
theorem eZ {i:Nat} {ds:List D} {d:D} (h:D.flat d=true) (h2:ds.length<100000):Dg i δ ds (.ok d)=.nx (δ.set i (some (.own (ds++[d])))):=by unfold Dg;simp only;rw [if_pos ⟨h,h2⟩]
theorem G0 {i:Nat} {ds:List D}:Dg i δ ds (.ex C)=.ex C (noOwn δ):=rfl
theorem HA {i:Nat} {s:S}:CK i s δ=s (pub i δ):=rfl
theorem LC {ds:List D} {l:Dt}:pub 0 (some (.own ds)::l)=some (.lst ds)::l:=rfl
theorem LB {i:Nat} {c:Option D} {l:Dt}:pub (i+1) (c::l)=c::pub i l:=by
 unfold pub
 rw [List.getElem?_cons_succ]
 split<;>rename_i q
 ·rw [q];rfl
 ·rfl
theorem xU {ds:List D}:noOwn (some (.own ds)::δ)=none::noOwn δ:=rfl
theorem Aj:view []=[]:=rfl
theorem wF:view (none::δ)=none::view δ:=rfl
theorem Ah {ds:List D}:view (some (.own ds)::δ)=some (.lst ds)::view δ:=rfl
theorem Al {i:Int}:view (some (.int i)::δ)=some (.int i)::view δ:=rfl
theorem DH {i:Bool}:view (some (.bl i)::δ)=some (.bl i)::view δ:=rfl
theorem Ag {i:PySem.Str}:view (some (.str i)::δ)=some (.str i)::view δ:=rfl
theorem Ai  : view (some (.non)::δ)=some (.non)::view δ:=rfl
theorem Af {ds:List D}:view (some (.tup ds)::δ)=some (.tup ds)::view δ:=rfl
theorem Ak {ds:List D}:view (some (.lst ds)::δ)=some (.lst ds)::view δ:=rfl
theorem An  : view (some (.exc C)::δ)=some (.exc C)::view δ:=rfl
theorem Am {fs:List (String×D)}:view (some (.ins C fs)::δ)=some (.ins C fs)::view δ:=rfl
theorem wI {i:Nat} {g:E}:fP i g δ=GV i δ (g (view δ)):=rfl
theorem Cq {i:Nat} {n:Int}:GV i δ (.ok (.int n))=.nx (δ.set i (some (.int n))):=rfl
theorem HG {c:E} {a b:S}:C0 c a b δ=ifO δ (c (view δ)) (a δ) (b δ):=rfl
theorem wH {i:Nat} {g:E}:fH i g δ=AF i δ (g (view δ)):=rfl
theorem AE {i:Nat} {rs:List D}:AF i δ (.ok (.lst rs))=.nx (δ.set i (some (.own rs))):=rfl
theorem Ar {i:Nat} {a b:E}:IU i a b δ=gB i δ fun ds=>Kx i δ ds (b (view δ)) (a (view δ)):=rfl
theorem EA {i:Nat} {ds:List D} {d:D} {k:Int} (h:D.flat d=true) (h0:0<=k) (h1:k<ds.length):Kx i δ ds (.ok d) (.ok (.int k))=.nx (δ.set i (some (.own (ds.set k.toNat d)))):=by unfold Kx;simp only;rw [if_pos ⟨h,h0,h1⟩]
theorem wG {i:Nat} {g:E}:fG i g δ=AF i δ (g δ):=rfl
theorem aI {a b:Prop} (x:a) (y:b):a/\b:=⟨x,y⟩
def EvS:=aI @Fv<|aI @Bu<|aI @xF<|aI @GB<|aI @GD<|aI @B7<|aI @B6<|aI @Eb<|aI @Ea<|aI @Ee<|aI @Ec<|aI @Ed<|aI @Eh<|aI @Ef<|aI @AD<|aI @AB<|aI @Iu<|aI @Iv<|aI @IA<|aI @Iw<|aI @Iz<|aI @EJ<|aI @EI<|aI @Kl<|aI @Km<|aI @GS<|aI @Ho<|aI @Hr<|aI @DF<|aI @Iq<|aI @Ir<|aI @EE<|aI @JM<|aI @JL<|aI @Ge<|aI @AA<|aI @JF<|aI @ite_int<|aI @JI<|aI @JH<|aI @JG<|aI @Hu<|aI @DN<|aI @Ht<|aI @DJ<|aI @DL<|aI @DI<|aI @DM<|aI @DK<|aI @DP<|aI @DQ<|aI @DO<|aI @Ao<|aI @Gq<|aI @BY<|aI @Bv<|aI @Bd<|aI @Bg<|aI @Fw<|aI @Fx<|aI @Fy<|aI @Fz<|aI @FC<|aI @Fu<|aI @FA<|aI @Ft<|aI @Jo<|aI @Bn<|aI @xI<|aI @Bq<|aI @xM<|aI @Bp<|aI @xK<|aI @Cg<|aI @Cf<|aI @Cn<|aI @Ck<|aI @Cj<|aI @Cm<|aI @GO<|aI @sX<|aI @zp<|aI @zo<|aI @sj<|aI @qm<|aI @r9<|aI @si<|aI @vH<|aI @sk<|aI @sf<|aI @tG<|aI @HQ<|aI @HR<|aI @HM<|aI @Cz<|aI @HN<|aI @HP<|aI @D0<|aI @IY<|aI @IW<|aI @DY<|aI @DZ<|aI @Az<|aI @yH<|aI @xW<|aI @vA<|aI @xY<|aI @By<|aI @xT<|aI @xV<|aI @xR<|aI @xX<|aI @ya<|aI @vM<|aI @ix0<|aI @ix1<|aI @ix2<|aI @ix3<|aI @KG<|aI @Rw<|aI @Rv<|aI @RR<|aI @RP<|aI @RO<|aI @RN<|aI @RM<|aI @RK<|aI @RJ<|aI @RH<|aI @RG<|aI @u3<|aI @wc<|aI @wd<|aI @uZ<|aI @wb<|aI @Dn<|aI @Dm<|aI @Dq<|aI @Dp<|aI @Hj<|aI @Hg<|aI @Hh<|aI @PC<|aI @Py<|aI @Dr<|aI @Ds<|aI @KN<|aI @Dv<|aI @Dw<|aI @Dx<|aI @Dl<|aI @Dy<|aI @Du<|aI @He<|aI @Hd<|aI @Hf<|aI @Hi<|aI @Pz<|aI @PB<|aI @KS<|aI @Ay<|aI @KU<|aI @Hy<|aI @K5<|aI @HI<|aI @DS<|aI @HB<|aI @Hz<|aI @La<|aI @HJ<|aI @K7<|aI @Lb<|aI @PD<|aI @Lc<|aI @PF<|aI @KW<|aI @K6<|aI @DW<|aI @KP<|aI @KZ<|aI @HL<|aI @KQ<|aI @DU<|aI @DT<|aI @DV<|aI @pJ<|aI @wj<|aI @wx<|aI @u5<|aI @wm<|aI @pI<|aI @zU<|aI @u7<|aI @nO<|aI @we<|aI @zW<|aI @wu<|aI @wg<|aI @zV<|aI @wq<|aI @u4<|aI @DC<|aI @Dz<|aI @DB<|aI @DD<|aI @Hm<|aI @Hn<|aI @Hk<|aI @Hl<|aI @HH<|aI @IZ<|aI @Ja<|aI @K3<|aI @K2<|aI @HF<|aI @HE<|aI @GX<|aI @GW<|aI @Ct<|aI @uK<|aI @HK<|aI @Ax<|aI @HC<|aI @KY<|aI @RS<|aI @im1<|aI @xZ<|aI @zr<|aI @vJ<|aI @sq<|aI @vG<|aI @Bl<|aI @xG<|aI @Bo<|aI @xJ<|aI @Bm<|aI @xH<|aI @Bc<|aI @tY<|aI @Bj<|aI @Bs<|aI @Bi<|aI @FN<|aI @K4<|aI @GZ<|aI @GY<|aI @KR<|aI @xx<|aI @A6<|aI @Fs<|aI @se<|aI @Bh<|aI @Br<|aI @Fq<|aI @Jn<|aI @BK<|aI @Jy<|aI @BJ<|aI @HD<|aI @Cr<|aI @Au<|aI @Aw<|aI @As<|aI @Fj<|aI @Fi<|aI @eZ<|aI @G0<|aI @HA<|aI @LC<|aI @LB<|aI @xU<|aI @Aj<|aI @wF<|aI @Ah<|aI @Al<|aI @DH<|aI @Ag<|aI @Ai<|aI @Af<|aI @Ak<|aI @An<|aI @Am<|aI @wI<|aI @Cq<|aI @HG<|aI @wH<|aI @AE<|aI @Ar<|aI @EA <| @wG
theorem tM:∀ {ds:List D},(∀ d∈ds,st d=.ok (some (f d)))->runC st ds=.ok (ds.map f)
 | [],_=>rfl
 | d::ds,h=>by
  unfold runC
  rw [h d (.head _),tM fun d hd=>h d (.tail _ hd)]
  rfl
theorem oK (h:xs.length+ys.length<=100000):cA (.lst xs) (.lst ys)=.ok (.lst (xs++ys)):=by unfold cA;simp only;rw [if_pos h]
end EV
local macro_rules | `(tactic| walk_at "pos")=>`(tactic| first | (with_reducible assumption) | decide +kernel | (with_reducible exact EV.ah _) | omega)
local macro_rules | `(tactic| walk_at "nb")=>`(tactic| first
 | (with_reducible assumption)
 | ((with_reducible apply EV.ud)<;>walk_at "nb")
 | ((with_reducible apply EV.Jv)<;>walk_at "nb")
 | ((with_reducible apply EV.iv)<;>walk_at "nb")
 | ((with_reducible apply EV.nb_neg_le)<;>walk_at "nb")
 | ((with_reducible apply EV.CV);(walk_at "pos");(walk_at "nb"))
 | ((with_reducible apply EV.lh);(walk_at "pos");(walk_at "nb"))
 | ((with_reducible apply EV.nb_max)<;>walk_at "nb")
 | ((with_reducible apply EV.nb_min)<;>walk_at "nb")
 | ((with_reducible apply EV.nb_ite)<;>walk_at "nb")
 | exact EV.FR)
/- nb e<=a number -/
local macro_rules | `(tactic| walk_at "nbk")=>`(tactic| exact EV.BA (by walk_at "nb") (by decide +kernel))
local macro_rules | `(tactic| walk_at "mul")=>`(tactic| exact EV.MulOk.of (by walk_at "nb") (by walk_at "nb") (by decide +kernel))
local macro_rules | `(tactic| simp_arith [$ls,*])=>`(tactic| simp only [EV.EvS,reduceIte,Nat.reduceAdd,Nat.reduceSub,Int.reduceAdd,Int.reduceSub,Int.reduceMul,Int.reduceNeg,Int.reducePow,Int.reduceLT,Int.reduceLE,Int.reduceGT,Int.reduceGE,Int.reduceEq,Int.reduceNe,Int.reduceDiv,Int.reduceMod,Int.reduceToNat,String.reduceEq,String.reduceBEq,Nat.reduceLeDiff,Int.cast_ofNat_Int,Int.natCast_one,Int.natCast_zero,List.cons_append,List.nil_append,ne_eq,$ls,*])
namespace EV
open PySem (Str)
def Sz (E F:Int):Prop:=2<=E/\E<=15/\1<=F/\F<=112
def szE (c:Int):Int:=if c%8<4 then [5,8,11,15].getD (c%8).toNat 0 else if c%8<6 then 2+c / 8%14 else 2+c / 8%4
def szF (c:Int):Int:=if c%8<4 then [10,23,52,112].getD (c%8).toNat 0 else if c%8<6 then 1+c / 8 / 14%112 else 1+c / 8 / 4%5
theorem four {r:Int} (h0:0<=r) (h1:r<4):r=0\/r=1\/r=2\/r=3:=⋯
theorem Ln (c:Int):Sz (szE c) (szF c):=by
 unfold Sz szE szF
 by_cases h:c%8<4
 ·rw [if_pos h,if_pos h]
  rcases four (Int.emod_nonneg c ↥2) h with e | e | e | e<;>rw [e]<;>decide
 ·rw [if_neg h,if_neg h]
  by_cases h2:c%8<6
  ·rw [if_pos h2,if_pos h2];omega
  ·rw [if_neg h2,if_neg h2];omega
theorem tR {F:Int} (h:1<=F):2<=pw F:=gS (a:=1) h
theorem xj {E:Int} (h:2<=E):4<=pw E:=gS (a:=2) h
theorem ja {F:Int} (h:1<=F):pw F=2*pw (F - 1):=by
 have:=i9 (a:=F - 1) ⋯
 rw [show F - 1+1=F by omega] at this
 exact this
theorem part0 {P Q b:Int} (hP:0<P) (hQ:0<Q):b / (P*Q)=b / P / Q:=(Int.ediv_ediv_of_nonneg (Int.le_of_lt hP)).symm
theorem part1 {P Q b:Int} (hP:0<P) (hQ:0<Q):b%(P*Q) / Q=b / Q%P:=by
 have e1:=Int.emod_def b (P*Q)
 have e2:b - P*Q*(b / (P*Q))=b+Q*(-(P*(b / (P*Q)))):=by
  rw [Int.mul_neg,<-Int.sub_eq_add_neg,<-Int.mul_assoc,Int.mul_comm Q P]
 rw [e1,e2,Int.add_mul_ediv_left _ _ ⋯,Int.emod_def]
 have e3:b / (P*Q)=b / Q / P:=by rw [Int.mul_comm,Int.ediv_ediv_of_nonneg (Int.le_of_lt hQ)]
 rw [e3]
 omega
theorem part2 {P Q b:Int}:b%(P*Q)%Q=b%Q:=Int.emod_emod_of_dvd b (Int.dvd_mul_left P Q)
theorem A5 {P Q b:Int} (hP:0<P) (hQ:0<Q) (h0:0<=b) (h1:b<2*(P*Q)) :
  (0<=b / P / Q/\b / P / Q<=1)/\(0<=b / Q%P/\b / Q%P<P)/\(0<=b%Q/\b%Q<Q):=by
 refine ⟨⟨?_,?_⟩,⟨Int.emod_nonneg _ ⋯,Int.emod_lt_of_pos _ hP⟩,⟨Int.emod_nonneg _ ⋯,Int.emod_lt_of_pos _ hQ⟩⟩
 ·exact Int.ediv_nonneg (Int.ediv_nonneg h0 (Int.le_of_lt hP)) (Int.le_of_lt hQ)
 ·rw [<- part0 hP hQ]
  have:b / (P*Q)<2:=Int.ediv_lt_of_lt_mul (Int.mul_pos hP hQ) h1
  omega
theorem BQ {ns:List Int} {j:Int} (h0:0<=j) (h:¬ j<(ns.length:Int)):ns.getD j.toNat 0=0:=by
 rw [List.getD_eq_getElem?_getD,List.getElem?_eq_none ⋯]
 rfl
theorem Pr:oIx (.lst (a::b::c::d::r)) (.int 3)=.ok d:=js (k:=3) rfl
theorem Ru:oIx (.lst (a::b::c::d::e::r)) (.int 4)=.ok e:=js (k:=4) rfl
def sgn (E F b:Int):Int:=b / pw E / pw F
def fld (E F b:Int):Int:=b / pw F%pw E
def fig (F b:Int):Int:=b%pw F
def In (E F b:Int):Prop:=0<=b/\b<pw (E+F+1)
theorem In.parts {E F b:Int} (h:Sz E F) (hb:In E F b):(0<=sgn E F b/\sgn E F b<=1)/\(0<=fld E F b/\fld E F b<pw E)/\(0<=fig F b/\fig F b<pw F):=by
 obtain ⟨h1,h2,h3,h4⟩:=h
 have eW:pw (E+F+1)=2*(pw E*pw F):=by rw [i9 ⋯,bC ⋯ ⋯]
 exact A5 (P:=pw E) (Q:=pw F) (b:=b) (ah _) (ah _) hb.1 (by rw [<- eW];exact hb.2)
def kindS (E f g:Int):Str:=if f=0 then (if g=0 then "nought" else "faint") else if f=pw E - 1 then (if g=0 then "endless" else "none") else "plain"
def wh (F f g:Int):Int:=if f=0 then g else pw F+g
def lo (E F:Int):Int:=2 - pw (E - 1) - F
def po (E F f:Int):Int:=if f=0 then lo E F else lo E F+f - 1
def frT (w p:Int):Int:=if 0<=p then w*pw p else w
def frB (p:Int):Int:=if 0<=p then 1 else pw (-p)
theorem mU {E F:Int} (h:Sz E F):pw E<=32768:=gS h.2.1
theorem xk {E F:Int} (h:Sz E F):pw F<=5192296858534827628530496329220096:=gS h.2.2.2
theorem oF {E F:Int} (h:Sz E F):pw (E - 1)<=16384:=gS (b:=14) (by have:=h.2.1;omega)
theorem mI {i:Int} {k:Nat} (h0:0<=i) (h:i<2^k):nb i<=k:=mJ.mpr (by
 have:((i.natAbs:Nat):Int)<((2^k:Nat):Int):=by rw [Int.natAbs_of_nonneg h0];simpa using h
 exact Int.ofNat_lt.mp this)
theorem iw {s t:Int} (h0:0<=s) (h1:s<=1) (ht:nb t<=100000):MulOk s t:=by
 have:nb s<=1:=mI h0 ⋯
 unfold MulOk;omega
theorem mf {k:Int} (h0:0<=k) (h1:k<=1000000):d5 (.int 1) (.int k)=.ok (.int (pw k)):=by
 have:nb (1:Int)=1:=by decide
 rw [bO h0 ⋯,Int.one_mul]
theorem Gh {ns:List Int} (hb:∀ m∈ns,nb m<=2^20) (k:Nat):nb (ns.getD k 0)<=2^20:=by
 rw [List.getD_eq_getElem?_getD]
 cases h:ns[k]? with
 | none=>exact Nat.zero_le _
 | some v=>exact hb v (List.mem_of_getElem? h)
theorem DG {E F b:Int} (h:Sz E F) (hb:In E F b):nb (wh F (fld E F b) (fig F b))<=128:=by
 obtain ⟨_,_,i3⟩:=hb.parts h
 have:=xk h
 have:=ah F
 unfold wh
 split
 ·exact mI i3.1 ⋯
 ·exact mI ⋯ ⋯
theorem LD {E F b:Int} (h:Sz E F) (hb:In E F b) : -100000<=po E F (fld E F b)/\po E F (fld E F b)<=100000:=by
 obtain ⟨_,i2,_⟩:=hb.parts h
 have:=mU h
 have:=oF h
 have:=ah (E - 1)
 obtain ⟨h1,h2,h3,h4⟩:=h
 unfold po lo
 split<;>omega
theorem yW {α:Type} {xs:List α} {lo hi:Option Int} {d:α} (h:d∈EV.cut xs lo hi):d∈xs:=List.mem_of_mem_drop (List.mem_of_mem_take h)
end EV
namespace EV
def cd (E F b:Int):Int:=b%pw ↥3
def rk (E F b:Int):Int:=if pw ↥3<=b then -(cd E F b) else cd E F b
def vl (F c:Int):Int:=if c / pw F=0 then c else (pw F+c%pw F)*pw (c / pw F - 1)
def lnn (E F b:Int):Int:=if pw ↥3<=b then -(vl F (cd E F b)) else vl F (cd E F b)
def nn (E F b:Int):Prop:=pw ↥3 - pw F<cd E F b
noncomputable instance {E F b:Int}:Decidable (nn E F b):=inferInstanceAs (Decidable (_<_))
section
variable {E F a b c c':Int}
theorem Ka:0<=cd E F b/\cd E F b<pw ↥3:=by
 have:=ah ↥3
 exact ⟨Int.emod_nonneg _ ⋯,Int.emod_lt_of_pos _ this⟩
theorem Kb (h:Sz E F):cd E F b / pw F=fld E F b:=by
 obtain ⟨h1,h2,h3,h4⟩:=h
 unfold cd fld;rw [bC ⋯ ⋯,part1 (ah _) (ah _)]
theorem J9 (h:Sz E F):cd E F b%pw F=fig F b:=by
 obtain ⟨h1,h2,h3,h4⟩:=h
 unfold cd fig;rw [bC ⋯ ⋯,part2]
theorem cC (h:Sz E F):4*pw F<=pw ↥3:=by
 obtain ⟨h1,h2,h3,h4⟩:=h
 have:=ah F
 rw [bC ⋯ ⋯];exact Int.mul_le_mul_of_nonneg_right (xj h1) ⋯
theorem wz (h:Sz E F):pw (E+F+1)=2*pw ↥3:=by
 obtain ⟨h1,h2,h3,h4⟩:=h
 exact i9 ⋯
theorem C3 (F b:Int):0<=fig F b/\fig F b<pw F:=⟨Int.emod_nonneg _ (by have:=ah F;omega),Int.emod_lt_of_pos _ (ah F)⟩
theorem Ig (h:Sz E F) (hb:In E F b):sgn E F b=if pw ↥3<=b then 1 else 0:=by
 obtain ⟨h1,h2,h3,h4⟩:=id h
 have e0:sgn E F b=b / pw ↥3:=by unfold sgn;rw [bC ⋯ ⋯,part0 (ah _) (ah _)]
 have hw:=wz h
 have hp:=ah ↥3
 obtain ⟨b0,b1⟩:=hb
 rw [e0]
 split
 ·rename_i z
  have l:1<=b / pw ↥3:=Int.le_ediv_of_mul_le hp ⋯
  have u:b / pw ↥3<2:=Int.ediv_lt_of_lt_mul hp ⋯
  omega
 ·rename_i z
  exact Int.ediv_eq_zero_of_lt b0 ⋯
theorem gO:vl F 0=0:=by unfold vl;simp
theorem nQ (h0:0<=c) (h:c<c'):vl F c<vl F c':=by
 have hQ:=ah F
 have hm:c / pw F<=c' / pw F:=Int.ediv_le_ediv hQ ⋯
 have hf0:0<=c / pw F:=Int.ediv_nonneg h0 ⋯
 have e:=Int.mul_ediv_add_emod c (pw F)
 have e':=Int.mul_ediv_add_emod c' (pw F)
 have r0:=Int.emod_nonneg c (show pw F≠0 by omega)
 have r1:=Int.emod_lt_of_pos c hQ
 have s0:=Int.emod_nonneg c' (show pw F≠0 by omega)
 have s1:=Int.emod_lt_of_pos c' hQ
 unfold vl
 generalize c / pw F=f at *
 generalize c' / pw F=f' at *
 generalize c%pw F=r at *
 generalize c'%pw F=r' at *
 by_cases z:f=0
 ·rw [if_pos z]
  subst z
  by_cases z':f'=0
  ·rw [if_pos z'];exact h
  ·rw [if_neg z']
   have p1:1<=pw (f' - 1):=ah _
   have:(pw F+r')*1<=(pw F+r')*pw (f' - 1):=Int.mul_le_mul_of_nonneg_left p1 ⋯
   rw [Int.mul_zero] at e
   omega
 ·rw [if_neg z,if_neg ⋯]
  by_cases q:f=f'
  ·subst q
   exact Int.mul_lt_mul_of_pos_right ⋯ (ah _)
  ·have e1:pw f=2*pw (f - 1):=ja ⋯
   have e2:pw f<=pw (f' - 1):=gS ⋯
   have k1:(pw F+r)*pw (f - 1)<(2*pw F)*pw (f - 1):=Int.mul_lt_mul_of_pos_right ⋯ (ah _)
   have k2:(2*pw F)*pw (f - 1)=pw F*pw f:=by rw [e1,Int.mul_comm 2,Int.mul_assoc]
   have k3:pw F*pw f<=pw F*pw (f' - 1):=Int.mul_le_mul_of_nonneg_left e2 ⋯
   have k4:pw F*pw (f' - 1)<=(pw F+r')*pw (f' - 1):=Int.mul_le_mul_of_nonneg_right ⋯ (Int.le_of_lt (ah _))
   omega
theorem Cu (h0:0<=c) (h1:0<=c'):(vl F c<vl F c'↔c<c')/\(vl F c=vl F c'↔c=c'):=by
 rcases Int.lt_trichotomy c c' with q | q | q
 ·have:=nQ (F:=F) h0 q;omega
 ·subst q;omega
 ·have:=nQ (F:=F) h1 q;omega
theorem fm (h0:0<=c):0<=vl F c/\(vl F c=0↔c=0):=by
 have:=Cu (F:=F) (Int.le_refl 0) h0
 have:=Cu (F:=F) h0 (Int.le_refl 0)
 rw [gO] at *
 omega
theorem wD (h:Sz E F) (h0:0<=c) (h1:c<pw ↥3):c / pw F<pw E/\0<=c / pw F:=by
 obtain ⟨k1,k2,k3,k4⟩:=h
 refine ⟨Int.ediv_lt_of_lt_mul (ah _) ?_,Int.ediv_nonneg h0 (Int.le_of_lt (ah _))⟩
 rw [<- bC ⋯ ⋯];exact h1
def ng (E F b:Int):Int:=if pw ↥3<=b then b - pw ↥3 else b+pw ↥3
def ab (E F b:Int):Int:=if rk E F b=pw ↥3 - pw F then b else if rk E F b<0 then pw ↥3 - (rk E F b+1) else rk E F b+1
def be (E F b:Int):Int:=if rk E F b = -(pw ↥3 - pw F) then b else if 0<rk E F b then rk E F b - 1 else pw ↥3 - (rk E F b - 1)
theorem end_is (h:Sz E F):(pw E - 1)*pw F=pw ↥3 - pw F:=by
 obtain ⟨h1,h2,h3,h4⟩:=h
 rw [bC ⋯ ⋯,Int.sub_mul,Int.one_mul]
theorem wC (h0:0<=c):vl F (c+1) - vl F c=pw (max (c / pw F - 1) 0):=by
 have hQ:=ah F
 have f0:0<=c / pw F:=Int.ediv_nonneg h0 ⋯
 have e:=Int.mul_ediv_add_emod c (pw F)
 have r0:=Int.emod_nonneg c (show pw F≠0 by omega)
 have r1:=Int.emod_lt_of_pos c hQ
 by_cases q:c%pw F+1<pw F
 ·have e1:(c+1) / pw F=c / pw F:=by
   rw [show c+1=(c%pw F+1)+pw F*(c / pw F) by omega,Int.add_mul_ediv_left _ _ ⋯,Int.ediv_eq_zero_of_lt ⋯ q];omega
  have e2:(c+1)%pw F=c%pw F+1:=by
   rw [show c+1=(c%pw F+1)+pw F*(c / pw F) by omega,Int.add_mul_emod_self_left,Int.emod_eq_of_lt ⋯ q]
  unfold vl
  rw [e1,e2]
  by_cases z:c / pw F=0
  ·rw [if_pos z,if_pos z,z]
   have:pw (max (0 - 1) 0)=1:=rfl
   omega
  ·rw [if_neg z,if_neg z,show max (c / pw F - 1) 0=c / pw F - 1 by omega,<-Int.sub_mul]
   rw [show pw F+(c%pw F+1) - (pw F+c%pw F)=1 by omega,Int.one_mul]
 ·have e1:(c+1) / pw F=c / pw F+1:=by
   rw [show c+1=0+pw F*(c / pw F+1) by rw [Int.mul_add];omega,Int.add_mul_ediv_left _ _ ⋯];simp
  have e2:(c+1)%pw F=0:=by
   rw [show c+1=0+pw F*(c / pw F+1) by rw [Int.mul_add];omega,Int.add_mul_emod_self_left];simp
  unfold vl
  rw [e1,e2,if_neg ⋯]
  by_cases z:c / pw F=0
  ·rw [if_pos z,z]
   have k1:pw (max (0 - 1) 0)=1:=rfl
   have k2:pw ((0:Int)+1 - 1)=1:=rfl
   rw [k1,k2]
   rw [z,Int.mul_zero] at e
   omega
  ·rw [if_neg z,show max (c / pw F - 1) 0=c / pw F - 1 by omega,show c / pw F+1 - 1=c / pw F by omega,ja (F:=c / pw F) ⋯]
   generalize pw (c / pw F - 1)=m
   rw [show pw F+0=pw F by omega,show pw F+c%pw F=2*pw F - 1 by omega,Int.sub_mul,Int.one_mul,<-Int.mul_assoc,Int.mul_comm (pw F) 2]
   omega
theorem iu {x a b:PySem.Str}:oIn (.str x) (.tup [.str a,.str b])=.ok (.bl (decide (a=x\/b=x))):=by
 unfold oIn isIn
 simp only [D.sc,List.all_cons,List.all_nil,Bool.and_self,Bool.and_true,if_true,List.any_cons,List.any_nil,D.beq,Bool.or_false]
 by_cases h1:a=x<;>by_cases h2:b=x<;>simp [h1,h2]
end
end EV
namespace EV
section
variable {t n p k a b c:Int}
theorem bg (h:p<=0):pw p=1:=by unfold pw;rw [Int.toNat_of_nonpos h];rfl
theorem d7 (hc:0<c):a*c<b*c↔a<b:=⟨fun h=>Int.lt_of_mul_lt_mul_right h (Int.le_of_lt hc),fun h=>Int.mul_lt_mul_of_pos_right h hc⟩
theorem oE (hk:0<=k):pw (p+k)*pw (-p)=pw k*pw p*pw (-(p+k)):=by
 by_cases h1:0<=p
 ·rw [bg (p := -p) ⋯,bg (p := -(p+k)) ⋯,bC h1 hk,Int.mul_one,Int.mul_one,Int.mul_comm]
 ·by_cases h2:0<=p+k
  ·rw [bg (p:=p) ⋯,bg (p := -(p+k)) ⋯,<-bC h2 ⋯,show p+k + -p=k by omega];omega
  ·rw [bg (p:=p) ⋯,bg (p:=p+k) ⋯,Int.one_mul,Int.mul_one,<-bC hk ⋯,show k + -(p+k) = -p by omega]
def Lt (t n p:Int):Prop:=t*pw (-p)<n*pw p
noncomputable instance:Decidable (Lt t n p):=inferInstanceAs (Decidable (_<_))
theorem oU (hk:0<=k):t*pw (-p)<pw k*(n*pw p)↔Lt t n (p+k):=by
 have z1:=ah (-(p+k))
 have z2:=ah (-p)
 unfold Lt
 rw [<- d7 z1,<-d7 (a:=t*pw (-(p+k))) z2]
 have e1:pw k*(n*pw p)*pw (-(p+k))=n*pw (p+k)*pw (-p):=by
  rw [Int.mul_assoc n,oE hk,<-Int.mul_assoc (pw k),Int.mul_comm (pw k) n]
  simp only [Int.mul_assoc]
 have e2:t*pw (-p)*pw (-(p+k))=t*pw (-(p+k))*pw (-p):=Int.mul_right_comm ..
 rw [e1,e2]
theorem Jw (h:0<t):pw ((nb t:Int) - 1)<=t:=by
 have h1:¬ nb t<=nb t - 1:=by
  have:nb t≠0:=fun z=>by
   have:=mJ.mp (Nat.le_of_eq z)
   omega
  omega
 rw [mJ] at h1
 have h2:((2^(nb t - 1):Nat):Int)<=t:=⋯
 unfold pw
 rw [show ((nb t:Int) - 1).toNat=nb t - 1 by omega]
 simpa using h2
theorem ub (h:0<t):1<=nb t:=by
 rcases Nat.eq_zero_or_pos (nb t) with z | z
 ·have:=mJ.mp (Nat.le_of_eq z)
  omega
 ·exact z
def hgt (t n:Int):Int:=if Lt t n (nb t - nb n) then (nb t - nb n:Int) else nb t - nb n+1
theorem Md (ht:0<t) (hn:0<n):Lt t n ((nb t:Int) - nb n+1):=by
 have l1:=mX (i:=t) ⋯
 have l2:=Jw hn
 have l3:=ub hn
 unfold Lt
 generalize hp:(nb t:Int) - nb n+1=p
 have e:=oE (p:=p) (k:=(nb n:Int) - 1) ⋯
 rw [show p+((nb n:Int) - 1)=nb t by omega,bg (p := -(nb t:Int)) ⋯,Int.mul_one] at e
 have k1:t*pw (-p)<pw (nb t)*pw (-p):=Int.mul_lt_mul_of_pos_right l1 (ah _)
 have k2:pw ((nb n:Int) - 1)*pw p<=n*pw p:=Int.mul_le_mul_of_nonneg_right l2 (Int.le_of_lt (ah _))
 omega
theorem FY (ht:0<t) (hn:0<n):¬ Lt t n ((nb t:Int) - nb n - 1):=by
 have l1:=Jw ht
 have l2:=mX (i:=n) ⋯
 have l3:=ub ht
 unfold Lt
 generalize hp:(nb t:Int) - nb n - 1=p
 have e:=oE (p:=p) (k:=(nb n:Int)) ⋯
 rw [show p+(nb n:Int)=(nb t:Int) - 1 by omega,bg (p := -((nb t:Int) - 1)) ⋯,Int.mul_one] at e
 have k1:pw ((nb t:Int) - 1)*pw (-p)<=t*pw (-p):=Int.mul_le_mul_of_nonneg_right l1 (Int.le_of_lt (ah _))
 have k2:n*pw p<pw (nb n)*pw p:=Int.mul_lt_mul_of_pos_right l2 (ah _)
 omega
theorem JO (ht:0<t) (hn:0<n):Lt t n (hgt t n)/\¬ Lt t n (hgt t n - 1)/\hgt t n<=nb t /\ -(nb n:Int)<=hgt t n:=by
 have l1:=ub ht
 have l2:=ub hn
 unfold hgt
 by_cases g:Lt t n (nb t - nb n)
 ·rw [if_pos g]
  exact ⟨g,FY ht hn,⋯,⋯⟩
 ·rw [if_neg g]
  refine ⟨Md ht hn,?_,⋯,⋯⟩
  rw [show (nb t:Int) - nb n+1 - 1=nb t - nb n by omega]
  exact g
theorem FW (hn:0<n) (h:Lt t n p) (hq:p<=q):Lt t n q:=by
 have:=(oU (t:=t) (n:=n) (p:=p) (k:=q - p) ⋯).mp (by
  have z:1<=pw (q - p):=ah _
  have y:0<n*pw p:=Int.mul_pos hn (ah _)
  have:=Int.mul_le_mul_of_nonneg_right z (Int.le_of_lt y)
  unfold Lt at h
  omega)
 rw [show p+(q - p)=q by omega] at this
 exact this
def nc (E F t n:Int):Int:=max (lo E F) (hgt t n - F - 1)
def kr (p t:Int):Int:=t*pw (-p)
def gI (p n:Int):Int:=n*pw p
def rst (l s:Int):Int:=if l=0 then 0 else if 2*l<s then 1 else if 2*l=s then 2 else 3
theorem kq (hn:0<n):0<gI p n:=Int.mul_pos hn (ah _)
theorem sO (ht:0<=t):0<=kr p t:=Int.mul_nonneg ht (Int.le_of_lt (ah _))
variable {E F:Int}
theorem jd (h:Sz E F) : -20000<=lo E F/\lo E F <= -1:=by
 have:=oF h
 have:2<=pw (E - 1):=tR (by have:=h.1;omega)
 obtain ⟨h1,h2,h3,h4⟩:=h
 unfold lo
 omega
theorem pq (h:Sz E F) (ht:0<t) (hn:0<n) :
  lo E F<=nc E F t n/\nc E F t n<=nb t/\kr ↥22 t<2*pw F*gI ↥22 n/\(lo E F<nc E F t n->pw F*gI ↥22 n<=kr ↥22 t):=by
 obtain ⟨g1,g2,g3,g4⟩:=JO ht hn
 have l:=jd h
 obtain ⟨h1,h2,h3,h4⟩:=h
 have e:2*pw F=pw (F+1):=(i9 ⋯).symm
 refine ⟨by unfold nc;omega,by unfold nc;omega,?_,fun q => ?_⟩
 ·rw [e]
  unfold kr gI
  rw [oU ⋯]
  exact FW hn g1 (by unfold nc;omega)
 ·have hP:nc E F t n=hgt t n - F - 1:=by unfold nc at q ⊢;omega
  have:=fun z=>g2 (by
   have:=(oU (t:=t) (n:=n) (p:=nc E F t n) (k:=F) ⋯).mp z
   rw [hP,show hgt t n - F - 1+F=hgt t n - 1 by omega] at this
   exact this)
  have:=Int.not_lt.mp this
  unfold kr gI
  omega
theorem Jx (h:Sz E F) (hA:0<=A) (hB:0<B) (hw:A<2*pw F*B):jZ A B:=by
 refine ⟨hB,.inr ?_⟩
 have n1:nb (2*pw F)<=2+113:=iv ↥2 (gC (c:=112) h.2.2.2)
 have n2:=iv n1 (Nat.le_refl (nb B))
 have n3:nb A<=nb (2*pw F*B):=jc ⋯
 omega
end
end EV
namespace EV
section
variable {E F t n P w l A B K D:Int}
theorem DR (h:Sz E F) (hP:lo E F<=P):t*pw (-(lo E F))*gI P n=kr P t*(n*pw (P - lo E F)):=by
 have l:=jd h
 have e:=oE (p := -P) (k:=P - lo E F) ⋯
 rw [show -P+(P - lo E F) = -(lo E F) by omega,Int.neg_neg,Int.neg_neg,bg (p:=lo E F) ⋯,Int.mul_one] at e
 unfold kr gI
 have e2:t*pw (-(lo E F))*(n*pw P)=t*n*(pw (-(lo E F))*pw P):=by
  rw [Int.mul_assoc,Int.mul_assoc,<-Int.mul_assoc (pw (-(lo E F))),Int.mul_comm (pw (-(lo E F))) n,Int.mul_assoc]
 have e3:t*pw (-P)*(n*pw (P - lo E F))=t*n*(pw (P - lo E F)*pw (-P)):=by
  rw [Int.mul_assoc,Int.mul_assoc,<-Int.mul_assoc (pw (-P)),Int.mul_comm (pw (-P)) n,Int.mul_assoc,Int.mul_comm (pw (-P))]
 rw [e2,e3,e]
def codeOf (E F P w:Int):Int:=(P - lo E F)*pw F+w
theorem ku (h:Sz E F) (hP:lo E F<=P) (w0:0<=w) (w1:w<2*pw F) (w2:lo E F<P->pw F<=w):0<=codeOf E F P w /\
  ((w<pw F/\P=lo E F/\codeOf E F P w=w)\/(pw F<=w/\codeOf E F P w / pw F=P - lo E F+1/\codeOf E F P w%pw F=w - pw F)):=by
 have hQ:=ah F
 have z:0<=(P - lo E F)*pw F:=Int.mul_nonneg ⋯ ⋯
 refine ⟨by unfold codeOf;omega,?_⟩
 by_cases g:w<pw F
 ·have e:P=lo E F:=by
   refine Classical.byContradiction fun q => ?_
   have:=w2 ⋯
   omega
  refine .inl ⟨g,e,?_⟩
  unfold codeOf
  rw [e,Int.sub_self,Int.zero_mul,Int.zero_add]
 ·refine .inr ⟨⋯,?_,?_⟩
  ·have e:codeOf E F P w=(w - pw F)+pw F*(P - lo E F+1):=by
    unfold codeOf;rw [Int.mul_add,Int.mul_comm (pw F) (P - lo E F)];omega
   rw [e,Int.add_mul_ediv_left _ _ ⋯,Int.ediv_eq_zero_of_lt ⋯ ⋯];omega
  ·have e:codeOf E F P w=(w - pw F)+pw F*(P - lo E F+1):=by
    unfold codeOf;rw [Int.mul_add,Int.mul_comm (pw F) (P - lo E F)];omega
   rw [e,Int.add_mul_emod_self_left,Int.emod_eq_of_lt ⋯ ⋯]
theorem sP (h:Sz E F) (hP:lo E F<=P) (w0:0<=w) (w1:w<2*pw F) (w2:lo E F<P->pw F<=w) :
  vl F (codeOf E F P w)=w*pw (P - lo E F)/\vl F (codeOf E F P w+1)=(w+1)*pw (P - lo E F):=by
 have hQ:=ah F
 obtain ⟨c0,c⟩:=ku h hP w0 w1 w2
 have s:=wC (F:=F) c0
 have e1:vl F (codeOf E F P w)=w*pw (P - lo E F):=by
  rcases c with ⟨c1,c2,c3⟩ | ⟨c1,c2,c3⟩
  ·unfold vl
   rw [c3,c2,if_pos (Int.ediv_eq_zero_of_lt w0 c1),Int.sub_self,show pw 0=1 from rfl,Int.mul_one]
  ·unfold vl
   rw [c2,c3,if_neg ⋯,show P - lo E F+1 - 1=P - lo E F by omega,show pw F+(w - pw F)=w by omega]
 refine ⟨e1,?_⟩
 have e2:max (codeOf E F P w / pw F - 1) 0=P - lo E F:=by
  rcases c with ⟨c1,c2,c3⟩ | ⟨c1,c2,c3⟩
  ·rw [c3,Int.ediv_eq_zero_of_lt w0 c1,c2];omega
  ·rw [c2];omega
 rw [e2] at s
 rw [Int.add_mul,Int.one_mul,<-e1]
 omega
theorem HZ (hB:0<B) (hK:0<K) (l0:0<=l) (l1:l<B) (e:D*B=l*K):0<=D/\D<K/\(D=0↔l=0)/\(2*D<K↔2*l<B)/\(2*D=K↔2*l=B):=by
 have k0:0<=l*K:=Int.mul_nonneg l0 (Int.le_of_lt hK)
 have d0:0<=D:=by
  refine Classical.byContradiction fun q => ?_
  have:=Int.mul_neg_of_neg_of_pos (show D<0 by omega) hB
  omega
 have d1:D<K:=by
  rw [<- d7 hB,e,Int.mul_comm K]
  exact Int.mul_lt_mul_of_pos_right l1 hK
 have e2:2*D*B=2*l*K:=by rw [Int.mul_assoc,e,Int.mul_assoc]
 refine ⟨d0,d1,⟨fun q => ?_,fun q => ?_⟩,?_,?_⟩
 ·rw [q,Int.zero_mul] at e
  rcases Int.mul_eq_zero.mp e.symm with z | z
  ·exact z
  ·omega
 ·rw [q,Int.zero_mul] at e
  rcases Int.mul_eq_zero.mp e with z | z
  ·exact z
  ·omega
 ·rw [<- d7 hB,e2,Int.mul_comm K,d7 hK]
 ·constructor
  ·intro q
   rw [q,Int.mul_comm] at e2
   exact (Int.eq_of_mul_eq_mul_right ⋯ e2).symm
  ·intro q
   rw [q,Int.mul_comm B] at e2
   exact Int.eq_of_mul_eq_mul_right ⋯ e2
theorem between (h:Sz E F) (hn:0<n) (hP:lo E F<=P) (w0:0<=w) (w1:w<2*pw F) (w2:lo E F<P->pw F<=w) (l0:0<=l) (l1:l<gI P n) (e:kr P t=w*gI P n+l) :
  vl F (codeOf E F P w)*n<=t*pw (-(lo E F))/\t*pw (-(lo E F))<vl F (codeOf E F P w+1)*n/\(t*pw (-(lo E F))=vl F (codeOf E F P w)*n↔l=0) /\
  (2*(t*pw (-(lo E F))) - vl F (codeOf E F P w)*n - vl F (codeOf E F P w+1)*n<0↔2*l<gI P n) /\
  (2*(t*pw (-(lo E F))) - vl F (codeOf E F P w)*n - vl F (codeOf E F P w+1)*n=0↔2*l=gI P n):=by
 obtain ⟨v1,v2⟩:=sP h hP w0 w1 w2
 have u:=DR (t:=t) (n:=n) h hP
 have hB:=kq (p:=P) hn
 have hK:0<n*pw (P - lo E F):=Int.mul_pos hn (ah _)
 rw [v1,v2]
 have x1:w*pw (P - lo E F)*n=w*(n*pw (P - lo E F)):=by rw [Int.mul_assoc,Int.mul_comm (pw _) n]
 have x2:(w+1)*pw (P - lo E F)*n=w*(n*pw (P - lo E F))+n*pw (P - lo E F):=by rw [Int.add_mul,Int.one_mul,Int.add_mul,x1,Int.mul_comm (pw _) n]
 rw [x1,x2]
 generalize n*pw (P - lo E F)=K at *
 generalize t*pw (-(lo E F))=T at *
 rw [e,Int.add_mul] at u
 have s:=HZ (D:=T - w*K) hB hK l0 l1 (by
  rw [Int.sub_mul,u,Int.mul_right_comm w K];omega)
 omega
end
theorem tq {E F x:Int} (h:Sz E F) (x0:0<=x) (x1:x<pw ↥3):nb (vl F x)<=40000:=by
 obtain ⟨k1,k2,k3,k4⟩:=id h
 obtain ⟨v1,v2⟩:=wD h x0 x1
 have v3:=mU h
 have v4:=xk h
 obtain ⟨r0,r1⟩:=C3 F x
 unfold fig at r0 r1
 unfold vl
 split
 ·exact Nat.le_trans (mI (k:=200) x0 (by
   have:pw ↥3<=pw 127:=gS ⋯
   have e:pw 127=170141183460469231731687303715884105728:=rfl
   omega)) ↥2
 ·have:=iv (mI (k:=128) (i:=pw F+x%pw F) ⋯ ⋯) (gC (k:=x / pw F - 1) (c:=32768) ⋯)
  omega
theorem mQ (hn:0<n) (x0:0<=x) (hxy:x<y):vl F x*n<vl F y*n:=Int.mul_lt_mul_of_pos_right (nQ x0 hxy) hn
section
variable {E F T n c:Int}
def jY (F T n c r:Int):Prop:=(r=0/\T=vl F c*n)\/(vl F c*n<T/\((r=1/\2*T - vl F c*n - vl F (c+1)*n<0)\/(r=2/\2*T - vl F c*n - vl F (c+1)*n=0)\/(r=3/\0<2*T - vl F c*n - vl F (c+1)*n)))
theorem BF (b:vl F c*n<=T/\T<vl F (c+1)*n/\(T=vl F c*n↔l=0)/\(2*T - vl F c*n - vl F (c+1)*n<0↔2*l<B)/\(2*T - vl F c*n - vl F (c+1)*n=0↔2*l=B)) (l0:0<=l):jY F T n c (rst l B):=by
 obtain ⟨b1,b2,b3,b4,b5⟩:=b
 unfold jY rst
 generalize vl F c*n=u at *
 generalize vl F (c+1)*n=v at *
 by_cases g0:l=0
 ·rw [if_pos g0];left;omega
 rw [if_neg g0]
 by_cases g1:2*l<B
 ·rw [if_pos g1];right;omega
 rw [if_neg g1]
 by_cases g2:2*l=B
 ·rw [if_pos g2];right;omega
 rw [if_neg g2];right;omega
end
section
variable {E F T n c c' r r' s t w p:Int}
theorem yX (hn:0<n) (c0:0<=c) (d0:0<=c') (h1:vl F c*n<=T) (h2:T<vl F (c+1)*n) (h3:vl F c'*n<=T) (h4:T<vl F (c'+1)*n):c=c':=by
 have up:∀ x y:Int,0<=x->x<=y->vl F x*n<=vl F y*n:=fun x y x0 q=>by
  rcases Int.lt_or_eq_of_le q with z | z
  ·exact Int.le_of_lt (mQ hn x0 z)
  ·rw [z];exact Int.le_refl _
 rcases Int.lt_trichotomy c c' with q | q | q
 ·have:=up (c+1) c' ⋯ ⋯;omega
 ·exact q
 ·have:=up (c'+1) c ⋯ ⋯;omega
theorem vF (h1:jY F T n c r) (h2:jY F T n c r'):r=r':=by
 unfold jY at h1 h2
 omega
theorem av (h:Sz E F) (hs:0<=s/\s<=1) (c0:0<=c) (c1:c<pw ↥3):In E F ↥24/\sgn E F ↥24=s/\fld E F ↥24=c / pw F/\fig F ↥24=c%pw F:=by
 obtain ⟨k1,k2,k3,k4⟩:=id h
 have e1:cd E F ↥24=c:=by
  unfold cd
  rw [Int.add_comm,Int.add_mul_emod_self_right,Int.emod_eq_of_lt c0 c1]
 have e2:pw (E+F+1)=2*pw ↥3:=i9 ⋯
 have hb:In E F ↥24:=by
  unfold In
  rw [e2]
  rcases (by omega:s=0\/s=1) with e | e<;>subst e<;>omega
 refine ⟨hb,?_,?_,?_⟩
 ·rw [Ig h hb]
  rcases (by omega:s=0\/s=1) with e | e<;>subst e
  ·rw [if_neg ⋯]
  ·rw [if_pos ⋯]
 ·have:=Kb (b:=s*pw ↥3+c) h
  rw [e1] at this
  exact this.symm
 ·have:=J9 (b:=s*pw ↥3+c) h
  rw [e1] at this
  exact this.symm
theorem Ae:wh F (c / pw F) (c%pw F)*pw (po E F (c / pw F) - lo E F)=vl F c:=by
 unfold wh po vl
 split
 ·rename_i g
  rw [Int.sub_self,show pw 0=1 from rfl,Int.mul_one]
  have e:=Int.ediv_mul_add_emod c (pw F)
  rw [g] at e
  omega
 ·rw [show lo E F+c / pw F - 1 - lo E F=c / pw F - 1 by omega]
theorem II (c0:0<=c):lo E F<=po E F (c / pw F):=by
 have:=Int.ediv_nonneg c0 (Int.le_of_lt (ah F))
 unfold po
 split<;>omega
end
end EV
namespace EV
inductive Wy where
 | even | away | nought | up | down
def Wy.s:Wy->PySem.Str
 | .even=>"even" | .away=>"away" | .nought=>"nought" | .up=>"up" | .down=>"down"
def Wy.out:Wy->Int->Bool
 | .up,s=>decide (s=0)
 | .down,s=>decide (s=1)
 | _,_=>false
def Wy.brs:Wy->Int->Bool
 | .even,_=>true
 | .away,_=>true
 | w,s=>w.out s
def Wy.grw:Wy->Int->Bool->Int->Bool
 | .even,_,odd,r=>decide (r=3)||(decide (r=2)&&odd)
 | .away,_,_,r=>decide (2<=r)
 | w,s,_,_=>w.out s
def va (w:Wy):D:=.ins "Way" [("name",.str w.s)]
def Ab:List PySem.Str:=["even","away","nought","up","down"]
def stK (w:Wy) (E F s c r:Int):Int:=if pw ↥3 - pw F<=c then (if w.brs s then pw ↥3 - pw F else pw ↥3 - pw F - 1) else if r=0 then c else if w.grw s (decide (c%2=1)) r then c+1 else c
def stF (w:Wy) (E F s c r:Int):Int:=if pw ↥3 - pw F<=c then 5 else if r=0 then 0 else if stK w E F s c r=pw ↥3 - pw F then 5 else if c<pw F then 3 else 1
theorem qi (h:0<=i):mF (.int i) (.int 1)=.ok (.int (i%2)):=by
 unfold mF
 simp only
 rw [if_pos ⟨h,by decide⟩]
 congr 2
 rw [show (1:Int).toNat=1 from rfl,Nat.and_one_is_mod]
 omega
theorem rR {x:PySem.Str} {ys:List PySem.Str}:gF (.str x) (.tup (ys.map D.str))=.ok (.bl (decide (x∉ys))):=by
 have h1:∀ ys:List PySem.Str,(ys.map D.str).all D.sc=true:=fun ys=>by induction ys with
  | nil=>rfl
  | cons a l ih=>simp only [List.map_cons,List.all_cons,ih,D.sc,Bool.and_self]
 have h2:∀ ys:List PySem.Str,((ys.map D.str).any fun y=>D.beq y (.str x))=decide (x∈ys):=fun ys=>by induction ys with
  | nil=>rfl
  | cons a l ih =>
   simp only [List.map_cons,List.any_cons,ih,D.beq]
   by_cases h:a=x
   ·subst h;simp
   ·have:¬ x=a:=fun z=>h z.symm
    simp [h,this]
 unfold gF oIn isIn
 simp only [D.sc,h1,Bool.and_self,if_true,h2,R.bind]
 by_cases h:x∈ys<;>simp [h]
theorem pQ {E F s c:Int} (h:c<pw ↥3 - pw F):stK w E F s c 0=c/\stF w E F s c 0=0:=by
 unfold stF stK
 rw [if_neg ⋯,if_pos rfl,if_neg ⋯,if_pos rfl]
 exact ⟨rfl,rfl⟩
section
variable {E F s T T' n k c c' r r':Int} {w:Wy}
theorem CD (h:Sz E F) (c0:0<=c):0<=stK w E F s c r/\stK w E F s c r<=pw ↥3 - pw F:=by
 have h5:=cC h
 have hQ:=ah F
 unfold stK
 repeat' split
 all_goals omega
theorem Co (hk:0<k) (h1:vl F c*n<=T) (h2:T<vl F (c+1)*n) (h3:jY F T n c r):vl F c*(n*k)<=T*k/\T*k<vl F (c+1)*(n*k)/\jY F (T*k) (n*k) c r:=by
 unfold jY at h3 ⊢
 rw [<- Int.mul_assoc,<-Int.mul_assoc]
 generalize vl F c*n=A at *
 generalize vl F (c+1)*n=B at *
 have e1:∀ x:Int,x<0->x*k<0:=fun x hx=>Int.mul_neg_of_neg_of_pos hx hk
 have e2:∀ x:Int,0<x->0<x*k:=fun x hx=>Int.mul_pos hx hk
 have e3:2*(T*k) - A*k - B*k=(2*T - A - B)*k:=by rw [Int.sub_mul,Int.sub_mul,Int.mul_assoc]
 have e4:∀ x y:Int,x<y->x*k<y*k:=fun x y q=>Int.mul_lt_mul_of_pos_right q hk
 refine ⟨Int.mul_le_mul_of_nonneg_right h1 (Int.le_of_lt hk),e4 _ _ h2,?_⟩
 rw [e3]
 rcases h3 with ⟨a,b⟩ | ⟨a,⟨b,d⟩ | ⟨b,d⟩ | ⟨b,d⟩⟩
 ·exact .inl ⟨a,by rw [b]⟩
 ·exact .inr ⟨e4 _ _ a,.inl ⟨b,e1 _ d⟩⟩
 ·exact .inr ⟨e4 _ _ a,.inr (.inl ⟨b,by rw [d,Int.zero_mul]⟩)⟩
 ·exact .inr ⟨e4 _ _ a,.inr (.inr ⟨b,e2 _ d⟩)⟩
theorem CC (g:c<pw ↥3 - pw F):stK w E F s c r=if r=0 then c else if w.grw s (decide (c%2=1)) r then c+1 else c:=by
 unfold stK
 rw [if_neg ⋯]
theorem CG (g:pw ↥3 - pw F<=c):stK w E F s c r=if w.brs s then pw ↥3 - pw F else pw ↥3 - pw F - 1:=by
 unfold stK
 rw [if_pos g]
end
def At (F T n c r:Int):Prop:=0<=c/\vl F c*n<=T/\T<vl F (c+1)*n/\jY F T n c r
section
variable {E F s T T' n n' k c c' r r' b W P:Int} {w:Wy}
theorem Kk (hk:0<k) (h:At F T n c r):At F (T*k) (n*k) c r:=⟨h.1,Co hk h.2.1 h.2.2.1 h.2.2.2⟩
theorem Df (hk:0<k) (h:At F (T*k) (n*k) c r):At F T n c r:=by
 obtain ⟨h0,h1,h2,h3⟩:=h
 unfold jY at h3
 have q1:vl F c*(n*k)=vl F c*n*k:=(Int.mul_assoc _ _ _).symm
 have q2:vl F (c+1)*(n*k)=vl F (c+1)*n*k:=(Int.mul_assoc _ _ _).symm
 rw [q1] at h1
 rw [q2] at h2
 rw [q1,q2] at h3
 have e4:∀ x y:Int,x*k<y*k->x<y:=fun x y q=>Int.lt_of_mul_lt_mul_right q (Int.le_of_lt hk)
 have e3:2*(T*k) - vl F c*n*k - vl F (c+1)*n*k=(2*T - vl F c*n - vl F (c+1)*n)*k:=by rw [Int.sub_mul,Int.sub_mul,Int.mul_assoc 2]
 rw [e3] at h3
 have e1:∀ x:Int,x*k<0->x<0:=fun x hx=>e4 x 0 (by rw [Int.zero_mul];exact hx)
 have e2:∀ x:Int,0<x*k->0<x:=fun x hx=>e4 0 x (by rw [Int.zero_mul];exact hx)
 have e5:∀ x y:Int,x*k=y*k->x=y:=fun x y q=>Int.eq_of_mul_eq_mul_right ⋯ q
 refine ⟨h0,Int.le_of_mul_le_mul_right h1 hk,e4 _ _ h2,?_⟩
 rcases h3 with ⟨a,b⟩ | ⟨a,⟨b,d⟩ | ⟨b,d⟩ | ⟨b,d⟩⟩
 ·exact .inl ⟨a,e5 _ _ b⟩
 ·exact .inr ⟨e4 _ _ a,.inl ⟨b,e1 _ d⟩⟩
 ·exact .inr ⟨e4 _ _ a,.inr (.inl ⟨b,e5 _ 0 (by rw [d,Int.zero_mul])⟩)⟩
 ·exact .inr ⟨e4 _ _ a,.inr (.inr ⟨b,e2 _ d⟩)⟩
theorem GR (hn:0<n) (hn':0<n') (e:T'*n=T*n') (h:At F T n c r):At F T' n' c r:=by
 have:=Kk hn' h
 rw [<- e,Int.mul_comm n n'] at this
 exact Df hn this
theorem zt (hn:0<n) (h:At F T n c r) (h':At F T n c' r'):c=c'/\r=r':=by
 have e:=yX hn h.1 h'.1 h.2.1 h.2.2.1 h'.2.1 h'.2.2.1
 subst e
 exact ⟨rfl,vF h.2.2.2 h'.2.2.2⟩
theorem Cp (hn:0<n) (c0:0<=c) (e:T=vl F c*n):At F T n c 0:=⟨c0,Int.le_of_eq e.symm,by rw [e];exact mQ hn c0 ⋯,.inl ⟨rfl,e⟩⟩
theorem nU (h:Sz E F) (hb:In E F b):∃ s c,(0<=s/\s<=1)/\0<=c/\c<pw ↥3/\b=s*pw ↥3+c:=by
 have hw:=wz h
 have hH:=ah ↥3
 obtain ⟨b0,b1⟩:=hb
 by_cases g:b<pw ↥3
 ·exact ⟨0,b,by decide,b0,g,⋯⟩
 ·exact ⟨1,b - pw ↥3,by decide,⋯,⋯,⋯⟩
theorem fo (hs:0<=s/\s<=1) (c0:0<=c) (c1:c<pw ↥3):↥24%pw ↥3=c/\↥24 / pw ↥3=s:=by
 have hH:=ah ↥3
 rw [Int.add_comm,Int.add_mul_emod_self_right,Int.emod_eq_of_lt c0 c1,Int.add_mul_ediv_right _ _ ⋯,Int.ediv_eq_zero_of_lt c0 c1]
 omega
theorem oV (h:Sz E F) (c0:0<=c) (c1:c<pw ↥3):c / pw F=pw E - 1↔pw ↥3 - pw F<=c:=by
 have hQ:=ah F
 have eM:=end_is h
 constructor
 ·intro z
  have:=Int.ediv_mul_le c (show pw F≠0 by omega)
  rw [z,eM] at this
  exact this
 ·intro z
  have a:=Int.le_ediv_of_mul_le (a:=pw E - 1) (b:=c) hQ (by rw [eM];exact z)
  have b:=(wD h c0 c1).1
  omega
theorem lA (h:Sz E F) (c0:0<=c) (c1:c<pw ↥3) :
  (pw ↥3 - pw F<c->kindS E (c / pw F) (c%pw F)=PySem.Str.ofString "none")/\(c=pw ↥3 - pw F->kindS E (c / pw F) (c%pw F)=PySem.Str.ofString "endless")/\(c=0->kindS E (c / pw F) (c%pw F)=PySem.Str.ofString "nought") /\
  (0<c->c<pw ↥3 - pw F->kindS E (c / pw F) (c%pw F)=PySem.Str.ofString "faint"\/kindS E (c / pw F) (c%pw F)=PySem.Str.ofString "plain"):=by
 have hQ:=ah F
 have h5:=cC h
 have eM:=end_is h
 have hE:=xj h.1
 have l:=oV h c0 c1
 have e:=Int.ediv_mul_add_emod c (pw F)
 have r0:=Int.emod_nonneg c (show pw F≠0 by omega)
 unfold kindS
 refine ⟨fun q => ?_,fun q => ?_,fun q => ?_,fun q q2 => ?_⟩
 ·have f:=l.mpr ⋯
  rw [f,eM] at e
  rw [f,if_neg ⋯,if_pos rfl,if_neg ⋯]
 ·have f:=l.mpr ⋯
  rw [f,eM] at e
  rw [f,if_neg ⋯,if_pos rfl,if_pos ⋯]
 ·rw [q,Int.zero_ediv,Int.zero_emod,if_pos rfl,if_pos rfl]
 ·have f:¬ c / pw F=pw E - 1:=fun z=>by have:=l.mp z;omega
  by_cases g:c / pw F=0
  ·rw [g] at e
   rw [if_pos g,if_neg ⋯]
   exact .inl rfl
  ·rw [if_neg g,if_neg f]
   exact .inr rfl
end
section
variable {E F E2 F2 c:Int}
theorem rep (h:Sz E F):∀ (p:Nat) (W:Int),0<=W->W<2*pw F->∃ c,0<=c/\vl F c=W*pw p
 | 0,W,w0,w1=>by
  have:=sP (P:=lo E F) h (Int.le_refl _) w0 w1 (fun q=>⋯)
  rw [Int.sub_self] at this
  exact ⟨_,(ku h (Int.le_refl _) w0 w1 (fun q=>⋯)).1,this.1⟩
 | p+1,W,w0,w1=>by
  by_cases g:pw F<=W
  ·have:=sP (P:=lo E F+(p+1:Nat)) h ⋯ w0 w1 (fun q=>g)
   rw [show lo E F+(p+1:Nat) - lo E F=(p+1:Nat) by omega] at this
   exact ⟨_,(ku (P:=lo E F+(p+1:Nat)) h ⋯ w0 w1 (fun q=>g)).1,this.1⟩
  ·obtain ⟨c,c0,e⟩:=rep h p (2*W) ⋯ ⋯
   refine ⟨c,c0,?_⟩
   rw [e,show ((p+1:Nat):Int)=(p:Int)+1 by omega,i9 ⋯,Int.mul_assoc,Int.mul_left_comm]
end
section
variable {E F s t n c T Z:Int} {w:Wy}
end
theorem H0 {E F s c r:Int}:0<=stF w E F s c r:=by
 unfold stF
 repeat' split
 all_goals decide
section
variable {E F P S A B G X t n r c:Int}
end
section
variable {E F s c r:Int}
theorem Ia (g:c<pw ↥3 - pw F):stF w E F s c r=if r=0 then 0 else if stK w E F s c r=pw ↥3 - pw F then 5 else if c<pw F then 3 else 1:=by
 unfold stF
 rw [if_neg ⋯]
end
end EV
namespace EV
open PySem
variable {E F s s' c c':Int}
def sx (s s':Int):Int:=if s=s' then 0 else 1
theorem Lq:0<=sx s s'/\sx s s'<=1:=by unfold sx;split<;>decide
theorem Lo (hs:0<=s/\s<=1) (hs':0<=s'/\s'<=1):rW (.int s) (.int s')=.ok (.int (sx s s')):=by
 rcases (by omega:s=0\/s=1) with e | e<;>rcases (by omega:s'=0\/s'=1) with e' | e'<;>subst e e'<;>rfl
theorem gq (h:Sz E F) (c0:0<=c) (c1:c<pw ↥3):(kindS E (c / pw F) (c%pw F)=Str.ofString "none"↔pw ↥3 - pw F<c)/\(kindS E (c / pw F) (c%pw F)=Str.ofString "endless"↔c=pw ↥3 - pw F)/\(kindS E (c / pw F) (c%pw F)=Str.ofString "nought"↔c=0):=by
 have h5:=cC h
 have hQ:=ah F
 obtain ⟨a,b,d,f⟩:=lA h c0 c1
 have n1:Str.ofString "none"≠Str.ofString "endless":=by decide
 have n2:Str.ofString "none"≠Str.ofString "nought":=by decide
 have n3:Str.ofString "endless"≠Str.ofString "nought":=by decide
 have n4:Str.ofString "faint"≠Str.ofString "none"/\Str.ofString "faint"≠Str.ofString "endless"/\Str.ofString "faint"≠Str.ofString "nought":=by decide
 have n5:Str.ofString "plain"≠Str.ofString "none"/\Str.ofString "plain"≠Str.ofString "endless"/\Str.ofString "plain"≠Str.ofString "nought":=by decide
 by_cases g1:pw ↥3 - pw F<c
 ·rw [a g1];exact ⟨⟨fun _=>g1,fun _=>rfl⟩,⟨fun z=>absurd z n1,fun z=>⋯⟩,⟨fun z=>absurd z n2,fun z=>⋯⟩⟩
 by_cases g2:c=pw ↥3 - pw F
 ·rw [b g2];exact ⟨⟨fun z=>absurd z.symm n1,fun z=>⋯⟩,⟨fun _=>g2,fun _=>rfl⟩,⟨fun z=>absurd z n3,fun z=>⋯⟩⟩
 by_cases g3:c=0
 ·rw [d g3];exact ⟨⟨fun z=>absurd z.symm n2,fun z=>⋯⟩,⟨fun z=>absurd z.symm n3,fun z=>⋯⟩,⟨fun _=>g3,fun _=>rfl⟩⟩
 ·rcases f ⋯ ⋯ with e | e<;>rw [e]
  ·exact ⟨⟨fun z=>absurd z n4.1,fun z=>⋯⟩,⟨fun z=>absurd z n4.2.1,fun z=>⋯⟩,⟨fun z=>absurd z n4.2.2,fun z=>⋯⟩⟩
  ·exact ⟨⟨fun z=>absurd z n5.1,fun z=>⋯⟩,⟨fun z=>absurd z n5.2.1,fun z=>⋯⟩,⟨fun z=>absurd z n5.2.2,fun z=>⋯⟩⟩
end EV
namespace EV
theorem de:∀ bs:List Int,D.flats (bs.map D.int)=true
 | []=>rfl
 | b::bs=>by
  rw [List.map_cons]
  unfold D.flats
  rw [de bs]
  rfl
theorem xi {st:D->R (Option D)} {f:Int->Int} {cs:List Int} (h:∀ c∈cs,st (.int c)=.ok (some (.int (f c)))):runC st (cs.map D.int)=.ok ((cs.map f).map D.int):=by
 have:=tM (st:=st) (f:=fun d=>match d with | .int c=>.int (f c) | d=>d) (ds:=cs.map D.int) fun d hd=>by
  obtain ⟨c,hc,rfl⟩:=List.mem_map.mp hd
  exact h c hc
 rw [this,List.map_map,List.map_map]
 rfl
theorem bS {bs:List Int}:cD (bs.map D.int)=.ok (.lst (bs.map D.int)):=by
 unfold cD
 rw [if_pos (de bs)]
theorem sN (f:α->β) (xs:List α) (lo hi:Option Int):EV.cut (xs.map f) lo hi=(EV.cut xs lo hi).map f:=by
 unfold EV.cut
 rw [List.length_map,List.map_take,List.map_drop]
theorem Gw (xs:List α) (lo hi:Option Int):(EV.cut xs lo hi).length<=xs.length:=by
 unfold EV.cut
 rw [List.length_take,List.length_drop]
 omega
theorem xc:∀ bs:List Int,(bs.map D.int).all D.sc=true
 | []=>rfl
 | b::bs=>by rw [List.map_cons,List.all_cons,xc bs];rfl
theorem any_ints (x:Int):∀ bs:List Int,((bs.map D.int).any fun y=>D.beq y (.int x))=decide (x∈bs)
 | []=>rfl
 | b::bs=>by
  rw [List.map_cons,List.any_cons,any_ints x bs]
  unfold D.beq
  by_cases h:b=x
  ·subst h;simp
  ·have:¬ x=b:=fun z=>h z.symm
   simp [h,this]
theorem dI {x:Int} {bs:List Int}:oIn (.int x) (.lst (bs.map D.int))=.ok (.bl (decide (x∈bs))):=by
 unfold oIn isIn
 simp only [D.sc,xc,Bool.and_self,if_true,any_ints]
theorem iH:∀ bs:List Int,D.beqs (bs.map D.int) (bs.map D.int)=true
 | []=>rfl
 | b::bs=>by
  rw [List.map_cons]
  unfold D.beqs D.beq
  rw [iH bs]
  simp
theorem kN:∀ bs:List Int,(bs.map D.int).all (D.pl n)=true
 | []=>rfl
 | b::bs=>by rw [List.map_cons,List.all_cons,kN bs];cases n<;>rfl
theorem tW {bs:List Int}:oNe (.lst (bs.map D.int)) (.lst (bs.map D.int))=.ok ↥28:=by
 have p:D.pl 8 (.lst (bs.map D.int))=true:=by
  unfold D.pl
  exact kN bs
 unfold oNe D.cmp
 rw [p]
 unfold D.beq
 rw [iH]
 rfl
theorem Bk {bs:List Int} {k:Int} (h0:0<=k) (h1:k<bs.length):oIx (.lst (bs.map D.int)) (.int k)=.ok (.int (bs.getD k.toNat 0)):=by
 obtain ⟨j,rfl⟩:=Int.eq_ofNat_of_zero_le h0
 have hj:j<bs.length:=⋯
 refine js ?_
 simp [List.getElem?_map,List.getElem?_eq_getElem hj,List.getD_eq_getElem?_getD]
theorem kL:∀ {ds:List D},(∀ d∈ds,st d=.ok (o d))->runC st ds=.ok (ds.filterMap o)
 | [],_=>rfl
 | d::ds,h=>by
  unfold runC
  rw [h d (.head _),kL fun d hd=>h d (.tail _ hd),List.filterMap_cons]
  cases o d<;>rfl
end EV
namespace EV
open PySem
abbrev Tm:=Int×Int×Int
def tD (t:Tm):D:=.tup [.int t.1,.int t.2.1,.int t.2.2]
def tv (q:Int) (t:Tm):Int:=if t.1=1 then -(t.2.1*pw (t.2.2 - q)) else t.2.1*pw (t.2.2 - q)
def dg (q:Int):List Tm->Int
 | []=>0
 | t::r=>tv q t+dg q r
def jo:List Tm->Int
 | []=>0
 | t::r=>(r.map (·.2.2)).foldl min t.2.2
def zS (t:Tm):Prop:=0<=t.2.1/\nb t.2.1<=1000 /\ -200000<=t.2.2/\t.2.2<=200000
theorem fold_min:∀ (l:List Int) (a:Int),l.foldl min a<=a/\(∀ x∈l,l.foldl min a<=x)/\(l.foldl min a=a\/l.foldl min a∈l)
 | [],a=>⟨Int.le_refl _,fun x hx=>(nomatch hx),.inl rfl⟩
 | b::l,a=>by
  obtain ⟨h1,h2,h3⟩:=fold_min l (min a b)
  rw [List.foldl_cons]
  refine ⟨⋯,fun x hx => ?_,?_⟩
  ·rcases List.mem_cons.mp hx with e | hx
   ·subst e;omega
   ·exact h2 x hx
  ·rcases h3 with e | e
   ·rw [e]
    by_cases g:a<=b
    ·exact .inl ⋯
    ·exact .inr (List.mem_cons.mpr (.inl ⋯))
   ·exact .inr (.tail _ e)
theorem oR (h:t∈ts):jo ts<=t.2.2:=by
 cases ts with
 | nil=>cases h
 | cons a r =>
  obtain ⟨h1,h2,_⟩:=fold_min (r.map (·.2.2)) a.2.2
  rcases List.mem_cons.mp h with e | h
  ·subst e;exact h1
  ·exact h2 _ (List.mem_map.mpr ⟨t,h,rfl⟩)
theorem ue (hn:ts≠[]):∃ t∈ts,jo ts=t.2.2:=by
 cases ts with
 | nil=>exact absurd rfl hn
 | cons x r =>
  obtain ⟨_,_,h3⟩:=fold_min (r.map (·.2.2)) x.2.2
  rcases h3 with e | e
  ·exact ⟨x,.head _,e⟩
  ·obtain ⟨t,ht,e'⟩:=List.mem_map.mp e
   exact ⟨t,.tail _ ht,e'.symm⟩
theorem oS (h0:a<=0/\0<=b) (h:∀ t∈ts,a<=t.2.2/\t.2.2<=b):a<=jo ts/\jo ts<=b:=by
 by_cases g:ts=[]
 ·subst g;exact h0
 ·obtain ⟨t,ht,e⟩:=ue g
  rw [e]
  exact h t ht
theorem rX (hn:ts≠[]) (h:∀ t∈ts,a<=t.2.2):a<=jo ts:=by
 obtain ⟨t,ht,e⟩:=ue hn
 rw [e]
 exact h t ht
theorem tu (hq:q<=p) (hp:p<=t.2.2):tv q t=tv p t*pw (p - q):=by
 have e:pw (t.2.2 - q)=pw (t.2.2 - p)*pw (p - q):=by rw [<- bC ⋯ ⋯];congr 1;omega
 unfold tv
 split
 ·rw [e,Int.neg_mul,Int.mul_assoc]
 ·rw [e,Int.mul_assoc]
theorem pO (hq:q<=p):∀ {ts:List Tm},(∀ t∈ts,p<=t.2.2)->dg q ts=dg p ts*pw (p - q)
 | [],_=>by unfold dg;rw [Int.zero_mul]
 | t::r,h=>by
  unfold dg
  rw [tu hq (h t (.head _)),pO hq fun t ht=>h t (.tail _ ht),Int.add_mul]
theorem rn (h:∀ t∈ts,q<=t.2.2):dg q ts=dg (jo ts) ts*pw (jo ts - q):=by
 cases ts with
 | nil=>unfold dg;rw [Int.zero_mul]
 | cons t r=>exact pO (rX (by simp) h) fun t ht=>oR ht
theorem ints_of:∀ ns:List Int,intsOf (ns.map D.int)=some ns
 | []=>rfl
 | n::r=>by
  rw [List.map_cons]
  show (intsOf (r.map D.int)).map (n::·)=_
  rw [ints_of r]
  rfl
theorem yi:pG 0 [.lst ((ts.map (·.2.2)).map D.int)]=.ok (.int (jo ts)):=by
 unfold pG
 simp only [ints_of]
 cases ts with
 | nil=>rfl
 | cons t r=>rfl
theorem oz {st:D->R (Option D)} {f:Tm->Int} {ts:List Tm} (h:∀ t∈ts,st (tD t)=.ok (some (.int (f t)))):runC st (ts.map tD)=.ok ((ts.map f).map D.int):=by
 induction ts with
 | nil=>rfl
 | cons t r ih =>
  rw [List.map_cons]
  unfold runC
  rw [h t (.head _),ih fun t ht=>h t (.tail _ ht)]
  rfl
theorem uq (hq:q<=0) (hp:q<=p):frT w p*pw (-q)=w*pw (p - q)*frB p:=by
 unfold frT frB
 split
 ·rw [Int.mul_one,Int.mul_assoc,<-bC ⋯ ⋯]
  congr 2
 ·rw [Int.mul_assoc,<-bC ⋯ ⋯]
  congr 2
  omega
theorem Bz [Decidable P]:nb (if P then -x else x)=nb x:=by
 split
 ·exact uc x
 ·rfl
theorem wO:∀ {ts:List Tm},(∀ t∈ts,zS t/\p<=t.2.2/\t.2.2 - p<=450000)->nb (dg p ts)<=451001+ts.length
 | [],_=>by unfold dg;decide
 | t::r,h=>by
  obtain ⟨⟨a1,a2,a3,a4⟩,a5,a6⟩:=h t (.head _)
  have ih:=wO (p:=p) (ts:=r) fun t ht=>h t (.tail _ ht)
  have b1:nb (t.2.1*pw (t.2.2 - p))<=451001:=by
   have:=iv a2 (gC (k:=t.2.2 - p) (c:=450000) ⋯)
   omega
  have b2:nb (tv p t)<=451001:=by
   unfold tv
   split
   ·rw [uc];exact b1
   ·exact b1
  unfold dg
  rw [List.length_cons]
  exact Nat.le_trans (ud b2 ih) ⋯
def wt (E F s c:Int):Tm:=(s,wh F (c / pw F) (c%pw F),po E F (c / pw F))
theorem pK {E F s c:Int} (h:Sz E F) (c0:0<=c) (c1:c<pw ↥3 - pw F):zS (wt E F s c)/\lo E F<=(wt E F s c).2.2/\(wt E F s c).2.2<=20000:=by
 have hQ:=ah F
 obtain ⟨b1,b2,b3,b4⟩:=av (s:=0) (c:=c) h ↥2 c0 ⋯
 have n:=DG h b1
 have i:=LD h b1
 rw [b3] at n i
 rw [b4] at n
 have g:=II (E:=E) (F:=F) c0
 have r0:=Int.emod_nonneg c (show pw F≠0 by omega)
 have d1:=(wD h c0 ⋯).1
 have hE:=mU h
 have l:=jd h
 obtain ⟨k1,k2,k3,k4⟩:=id h
 have hp1:=ah (E - 1)
 have x1 : -200000<=po E F (c / pw F):=⋯
 have x2:po E F (c / pw F)<=200000:=⋯
 refine ⟨⟨?_,Nat.le_trans n ↥2,x1,x2⟩,g,?_⟩
 ·show 0<=wh F (c / pw F) (c%pw F)
  unfold wh
  split<;>omega
 ·show po E F (c / pw F)<=20000
  have:=(wD h c0 (show c<pw ↥3 by omega)).2
  unfold po lo
  have hE1:=ja (F:=E) (by have:=h.1;omega)
  have hE2:=oF h
  split<;>omega
theorem zZ {E F s c:Int} (c0:0<=c):tv (lo E F) (wt E F s c)=if s=1 then -(vl F c) else vl F c:=by
 unfold tv wt
 simp only
 rw [Ae]
def xD:Tm ⊕ Int->D
 | .inl t=>tD t
 | .inr s=>.tup [.int s,.non,.int 0]
def m7 (xs:List (Tm ⊕ Int)):List Int:=xs.filterMap fun x=>match x with | .inl _=>none | .inr s=>some s
def nI (E F:Int) (x:Int×Int):Int:=x.1*pw ↥3+x.2
def rg (E F:Int) (x:Int×Int):Prop:=(0<=x.1/\x.1<=1)/\0<=x.2/\x.2<pw ↥3
def xt (E F:Int) (x:Int×Int):Tm ⊕ Int:=if x.2=pw ↥3 - pw F then .inr x.1 else .inl (wt E F x.1 x.2)
theorem tj {xs:List (Tm ⊕ Int)}:D.flats (xs.map xD)=true:=by
 induction xs with
 | nil=>rfl
 | cons x r ih =>
  rw [List.map_cons]
  show (D.flat (xD x)&&D.flats (r.map xD))=true
  rw [ih]
  cases x<;>rfl
def pm (E F:Int) (x y:Int×Int):Tm:=(sx x.1 y.1,wh F (x.2 / pw F) (x.2%pw F)*wh F (y.2 / pw F) (y.2%pw F),po E F (x.2 / pw F)+po E F (y.2 / pw F))
def pt (E F:Int) (x y:Int×Int):Tm ⊕ Int:=if x.2=pw ↥3 - pw F\/y.2=pw ↥3 - pw F then .inr (sx x.1 y.1) else .inl (pm E F x y)
theorem LF {E F:Int} (h:Sz E F) (c0:0<=x.2) (c1:x.2<pw ↥3 - pw F) (d0:0<=y.2) (d1:y.2<pw ↥3 - pw F):zS (pm E F x y)/\2*lo E F<=(pm E F x y).2.2/\(pm E F x y).2.2<=40000:=by
 obtain ⟨⟨a1,a2,a3,a4⟩,a5,a6⟩:=pK (s:=0) h c0 c1
 obtain ⟨⟨b1,b2,b3,b4⟩,b5,b6⟩:=pK (s:=0) h d0 d1
 have hQ:=ah F
 obtain ⟨x1,x2,x3,x4⟩:=av (s:=0) (c:=x.2) h ↥2 c0 ⋯
 have n:=DG h x1
 rw [x3,x4] at n
 obtain ⟨y1,y2,y3,y4⟩:=av (s:=0) (c:=y.2) h ↥2 d0 ⋯
 have n':=DG h y1
 rw [y3,y4] at n'
 have l:=jd h
 unfold wt at *
 simp only at *
 unfold pm
 refine ⟨⟨Int.mul_nonneg a1 b1,Nat.le_trans (iv n n') ↥2,?_,?_⟩,?_,?_⟩<;>simp only<;>omega
def pD (E F:Int) (p:↥12×↥12):D:=.tup [.int (nI E F p.1),.int (nI E F p.2)]
def Hb (w:Wy) (E F X U sg x y:Int):Prop:=(X=0->x=sg*pw ↥3/\y=0)/\(X≠0->∃ k r,x=↥38*pw ↥3+stK w E F ↥38 k r/\y=stF w E F ↥38 k r/\At F (if X<0 then -X else X) U k r)
theorem lg {X V:Int} (hV:0<V):(X*V<0↔X<0):=by
 constructor
 ·intro g
  refine Classical.byContradiction fun g' => ?_
  have:=Int.mul_nonneg (show 0<=X by omega) (Int.le_of_lt hV)
  omega
 ·exact fun g=>Int.mul_neg_of_neg_of_pos g hV
def fl (ps:List (↥12×↥12)):List ↥12:=ps.flatMap fun p=>[p.1,p.2]
theorem uw:z∈fl ps↔∃ p∈ps,z=p.1\/z=p.2:=by
 unfold fl
 rw [List.mem_flatMap]
 constructor
 ·rintro ⟨p,m,hz⟩
  refine ⟨p,m,?_⟩
  simpa using hz
 ·rintro ⟨p,m,hz⟩
  exact ⟨p,m,by simpa using hz⟩
theorem yL:∀ ps:List (↥12×↥12),(fl ps).length=2*ps.length
 | []=>rfl
 | p::r=>by
  show ([p.1,p.2]++fl r).length=_
  rw [List.length_append,yL r,List.length_cons]
  simp
  omega
def ptp (E F:Int) (p:↥12×↥12):Tm ⊕ Int:=pt E F p.1 p.2
def fts (E F:Int) (ps:List (↥12×↥12)) (xs:List ↥12):List Tm:=ps.map (fun p=>pm E F p.1 p.2)++xs.map (fun x=>wt E F x.1 x.2)
section
variable {E F:Int} {ps:List (↥12×↥12)} {xs:List ↥12}
theorem KI (m:p∈ps):p.1∈xs++fl ps:=List.mem_append.mpr (.inr (uw.mpr ⟨p,m,.inl rfl⟩))
theorem KH (m:p∈ps):p.2∈xs++fl ps:=List.mem_append.mpr (.inr (uw.mpr ⟨p,m,.inr rfl⟩))
theorem JQ (h:Sz E F) (hx:∀ x∈xs++fl ps,rg E F x) (hf:∀ x∈xs++fl ps,x.2<pw ↥3 - pw F):∀ t∈fts E F ps xs,zS t/\2*lo E F<=t.2.2:=fun t ht=>by
 have l:=jd h
 rcases List.mem_append.mp ht with m | m
 ·obtain ⟨p,m',rfl⟩:=List.mem_map.mp m
  clear m
  rename p∈ps=>m
  obtain ⟨a,b,c⟩:=LF (x:=p.1) (y:=p.2) h (hx _ (KI m)).2.1 (hf _ (KI m)) (hx _ (KH m)).2.1 (hf _ (KH m))
  exact ⟨a,b⟩
 ·obtain ⟨x,m',rfl⟩:=List.mem_map.mp m
  clear m
  rename x∈xs=>m
  have mm:x∈xs++fl ps:=List.mem_append.mpr (.inl m)
  obtain ⟨a,b,c⟩:=pK (s:=x.1) h (hx _ mm).2.1 (hf _ mm)
  exact ⟨a,⋯⟩
theorem JP (hf:∀ x∈xs++fl ps,x.2<pw ↥3 - pw F):(ps.map (ptp E F)++xs.map (xt E F)).map xD=(fts E F ps xs).map tD:=by
 unfold fts
 rw [List.map_append,List.map_append,List.map_map,List.map_map,List.map_map,List.map_map]
 congr 1
 ·refine List.map_congr_left fun p m => ?_
  have a:=hf _ (KI m)
  have b:=hf _ (KH m)
  show xD (ptp E F p)=tD (pm E F p.1 p.2)
  unfold ptp pt
  rw [if_neg ⋯]
  rfl
 ·refine List.map_congr_left fun x m => ?_
  have a:=hf _ (List.mem_append.mpr (.inl m))
  show xD (xt E F x)=tD (wt E F x.1 x.2)
  unfold xt
  rw [if_neg ⋯]
  rfl
theorem yG:(fts E F ps xs).length=ps.length+xs.length:=by
 unfold fts
 rw [List.length_append,List.length_map,List.length_map]
theorem wy (h:Sz E F) (c0:0<=c):tv (2*lo E F) (wt E F s c)=(if s=1 then -(vl F c) else vl F c)*pw (-(lo E F)):=by
 have l:=jd h
 have g:lo E F<=(wt E F s c).2.2:=II (E:=E) (F:=F) c0
 rw [tu (p:=lo E F) (q:=2*lo E F) ⋯ g,zZ c0]
 congr 2
 omega
theorem CJ (h:Sz E F):pw (-(2*lo E F))=pw (-(lo E F))*pw (-(lo E F)):=by
 have l:=jd h
 rw [<- bC ⋯ ⋯]
 congr 1
 omega
end
def nsg (w:Wy) (bs:List Int):Int:=if 0∈bs/\1∈bs then (if w.s=PySem.Str.ofString "down" then 1 else 0) else if 1∈bs then 1 else 0
theorem CT (w:Wy) (bs:List Int):0<=nsg w bs/\nsg w bs<=1:=by
 unfold nsg
 split
 ·split<;>decide
 ·split<;>decide
theorem FG (hs:0<=s/\s<=1) (hs':0<=s'/\s'<=1):nsg w [s,s']=if s'=s then s else if w.s=PySem.Str.ofString "down" then 1 else 0:=by
 unfold nsg
 rcases (by omega:s=0\/s=1) with g | g<;>rcases (by omega:s'=0\/s'=1) with g' | g'<;>subst g g'<;>simp
def Kv (w:Wy) (E F s c s' c' x y:Int):Prop :=
 if pw ↥3 - pw F<c\/pw ↥3 - pw F<c' then x=pw ↥3 - pw F+pw (F - 1)/\y=0
 else if c=pw ↥3 - pw F then (if c'=pw ↥3 - pw F/\¬ s=s' then x=pw ↥3 - pw F+pw (F - 1)/\y=16 else x=s*pw ↥3+(pw ↥3 - pw F)/\y=0)
 else if c'=pw ↥3 - pw F then x=s'*pw ↥3+(pw ↥3 - pw F)/\y=0
 else Hb w E F ((if s=1 then -(vl F c) else vl F c)+(if s'=1 then -(vl F c') else vl F c')) 1 (if s'=s then s else if w.s=PySem.Str.ofString "down" then 1 else 0) x y
end EV
namespace EV
open PySem
end EV
namespace EV
open PySem
section
variable {w:Wy} {E F Eg Fg Em Fm s c:Int}
theorem kz {F a b:Int} (a0:0<=a) (b0:0<=b):(vl F a<=vl F b↔a<=b)/\(vl F a=vl F b↔a=b):=by
 rcases (by omega:a<b\/a=b\/b<a) with q | q | q
 ·have:=nQ (F:=F) a0 q
  omega
 ·subst q;omega
 ·have:=nQ (F:=F) b0 q
  omega
end
end EV
namespace EV
open PySem
def Wy.m:Wy->Wy
 | .up=>.down
 | .down=>.up
 | w=>w
noncomputable instance wyDec:DecidableEq Wy:=fun a b=>by cases a<;>cases b<;>first | exact isTrue rfl | exact isFalse (by intro h;cases h)
section
variable {w:Wy} {E F s c r:Int}
end
section
variable {w:Wy} {E F X U sg sg' x y x' y':Int} {u:Prop}
end
theorem Ey {s v:Int} (hs:0<=s/\s<=1):(if 1 - s=1 then -v else v) = -(if s=1 then -v else v):=by
 rcases (by omega:s=0\/s=1) with e | e<;>subst e
 ·rfl
 ·simp
end EV
namespace EV
open PySem
def exq (F c:Int):Int:=max (c / pw F - 1) 0
theorem C4 {F c:Int}:0<=exq F c:=by unfold exq;omega
theorem BX {F c c':Int} (h:c<=c'):exq F c<=exq F c':=by
 have:=Int.ediv_le_ediv (ah F) h
 unfold exq
 omega
theorem rj {F c:Int} (c0:0<=c):∃ w,0<=w/\w<2*pw F/\vl F c=w*pw (exq F c):=by
 have hQ:=ah F
 have r0:=Int.emod_nonneg c (show pw F≠0 by omega)
 have r1:=Int.emod_lt_of_pos c hQ
 have q0:=Int.ediv_nonneg c0 (Int.le_of_lt hQ)
 have em:=Int.mul_ediv_add_emod c (pw F)
 unfold vl exq
 by_cases g:c / pw F=0
 ·rw [if_pos g,g,show max ((0:Int) - 1) 0=0 by omega]
  rw [g,Int.mul_zero,Int.zero_add] at em
  exact ⟨c,c0,⋯,by rw [show pw 0=1 from rfl,Int.mul_one]⟩
 ·rw [if_neg g,show max (c / pw F - 1) 0=c / pw F - 1 by omega]
  exact ⟨pw F+c%pw F,⋯,⋯,rfl⟩
def Nr (k r K:Int):Prop:=(r=0\/r=1\/r=2\/r=3)/\(r=0->K=k)/\(r=1->K=k)/\(r=3->K=k+1)/\(K=k\/K=k+1)
theorem uf {E F T c c' k r K:Int} (h:Sz E F) (c0:0<=c) (cc:c<=c') (hT:T=vl F c'+vl F c\/T=vl F c' - vl F c) (a:At F T 1 k r) (n:Nr k r K) :
  ∃ d,0<=d/\d<=c/\vl F d=if T<vl F K then vl F K - T else T - vl F K:=by
 obtain ⟨n0,n1,n2,n3,n4⟩:=n
 obtain ⟨a0,a1,a2,a3⟩:=a
 rw [Int.mul_one] at a1 a2
 have k0:=a0
 have su:=wC (F:=F) k0
 have vc:=fm (F:=F) c0
 by_cases r0:r=0
 ·have e:T=vl F k:=by
   rcases a3 with ⟨_,e⟩ | ⟨_,e⟩
   ·rw [Int.mul_one] at e;exact e
   ·rcases e with e | e | e<;>omega
  rw [n1 r0,<-e]
  refine ⟨0,by decide,c0,?_⟩
  rw [gO,if_neg ⋯]
  omega
 have lt:vl F k<T:=by
  rcases a3 with ⟨z,_⟩ | ⟨e,_⟩
  ·exact absurd z r0
  ·rw [Int.mul_one] at e;exact e
 have near:(if T<vl F K then vl F K - T else T - vl F K)<=T - vl F k/\(if T<vl F K then vl F K - T else T - vl F K)<=vl F (k+1) - T:=by
  rcases a3 with ⟨z,_⟩ | ⟨_,e⟩
  ·exact absurd z r0
  ·simp only [Int.mul_one] at e
   rcases e with ⟨e1,e2⟩ | ⟨e1,e2⟩ | ⟨e1,e2⟩
   ·rw [n2 e1,if_neg ⋯];omega
   ·rcases n4 with q | q<;>rw [q]
    ·rw [if_neg ⋯];omega
    ·rw [if_pos ⋯];omega
   ·rw [n3 e1,if_pos ⋯];omega
 have nn:0<=(if T<vl F K then vl F K - T else T - vl F K):=by split<;>omega
 have isK:∃ j:Int,(if T<vl F K then vl F K - T else T - vl F K)=T - vl F k\/(if T<vl F K then vl F K - T else T - vl F K)=vl F (k+1) - T:=by
  refine ⟨0,?_⟩
  rcases n4 with q | q<;>rw [q]
  ·rw [if_neg ⋯];exact .inl rfl
  ·rw [if_pos ⋯];exact .inr rfl
 obtain ⟨_,isK⟩:=isK
 generalize (if T<vl F K then vl F K - T else T - vl F K)=Y at *
 have Yc:Y<=vl F c:=by
  by_cases q:c'<=k
  ·have:=(kz (F:=F) (a:=c') (b:=k) ⋯ k0).1.mpr q
   omega
  ·have:=(kz (F:=F) (a:=k+1) (b:=c') ⋯ ⋯).1.mpr ⋯
   omega
 obtain ⟨w,w0,w1,ew⟩:=rj (F:=F) c0
 obtain ⟨w',w0',w1',ew'⟩:=rj (F:=F) (c:=c') ⋯
 obtain ⟨wk,wk0,wk1,ewk⟩:=rj (F:=F) k0
 have ec:exq F c<=exq F c':=BX cc
 have en:0<=exq F c:=C4
 have ekn:0<=exq F k:=C4
 have pu:=ah (exq F c)
 have eU:pw (max (k / pw F - 1) 0)=pw (exq F k):=rfl
 rw [eU] at su
 have e2:vl F c'=w'*pw (exq F c' - exq F c)*pw (exq F c):=by
  rw [ew',Int.mul_assoc,<-bC ⋯ ⋯]
  congr 2
  omega
 obtain ⟨t,et⟩:∃ t,T=t*pw (exq F c):=by
  rcases hT with q | q
  ·exact ⟨w'*pw (exq F c' - exq F c)+w,by rw [q,e2,ew,Int.add_mul]⟩
  ·exact ⟨w'*pw (exq F c' - exq F c) - w,by rw [q,e2,ew,Int.sub_mul]⟩
 by_cases q:exq F k<=exq F c
 ·exfalso
  have e3:pw (exq F c)=pw (exq F c - exq F k)*pw (exq F k):=by
   rw [<- bC ⋯ ⋯]
   congr 1
   omega
  have pk:=ah (exq F k)
  rw [e3,<-Int.mul_assoc] at et
  generalize t*pw (exq F c - exq F k)=t' at *
  have l1:wk*pw (exq F k)<t'*pw (exq F k):=⋯
  have l2:t'*pw (exq F k)<(wk+1)*pw (exq F k):=by rw [Int.add_mul,Int.one_mul];omega
  have:=Int.lt_of_mul_lt_mul_right l1 (Int.le_of_lt pk)
  have:=Int.lt_of_mul_lt_mul_right l2 (Int.le_of_lt pk)
  omega
 ·have e3:pw (exq F k)=pw (exq F k - exq F c)*pw (exq F c):=by
   rw [<- bC ⋯ ⋯]
   congr 1
   omega
  obtain ⟨m,em⟩:∃ m,Y=m*pw (exq F c):=by
   rcases isK with z | z
   ·refine ⟨t - wk*pw (exq F k - exq F c),?_⟩
    rw [z,et,ewk,e3,Int.sub_mul,Int.mul_assoc]
   ·refine ⟨wk*pw (exq F k - exq F c)+pw (exq F k - exq F c) - t,?_⟩
    have:vl F (k+1)=vl F k+pw (exq F k):=⋯
    rw [z,this,et,ewk,e3,Int.sub_mul,Int.add_mul,Int.mul_assoc]
  have m0:0<=m:=by
   refine Classical.byContradiction fun z => ?_
   have:=Int.mul_neg_of_neg_of_pos (show m<0 by omega) pu
   omega
  have m1:m<=w:=by
   rw [em,ew] at Yc
   exact Int.le_of_mul_le_mul_right Yc pu
  obtain ⟨d,d0,ed⟩:=rep h (exq F c).toNat m m0 ⋯
  have ed:vl F d=Y:=by
   rw [ed,em]
   congr 2
   omega
  exact ⟨d,d0,(kz (F:=F) d0 c0).1.mp ⋯,ed⟩
theorem yd {E F g k r:Int} (h:Sz E F) (hr:r=0\/r=1\/r=2\/r=3) (hk:k<pw ↥3 - pw F):Nr k r (stK .even E F g k r):=by
 have e:=CC (w:=.even) (s:=g) (r:=r) hk
 refine ⟨hr,fun z => ?_,fun z => ?_,fun z => ?_,?_⟩
 ·rw [e,if_pos z]
 ·rw [e,if_neg ⋯]
  subst z
  rfl
 ·rw [e,if_neg ⋯]
  subst z
  rfl
 ·rw [e]
  split
  ·exact .inl rfl
  ·split
   ·exact .inr rfl
   ·exact .inl rfl
theorem F3 {F T n c r:Int} (a:jY F T n c r):r=0\/r=1\/r=2\/r=3:=by
 rcases a with ⟨e,_⟩ | ⟨_,e⟩
 ·exact .inl e
 ·rcases e with e | e | e
  ·exact .inr (.inl e.1)
  ·exact .inr (.inr (.inl e.1))
  ·exact .inr (.inr (.inr e.1))
theorem uy {E F g T k r:Int} (h:Sz E F) (a:At F T 1 k r):(vl F (pw ↥3 - pw F - 1)+vl F (pw ↥3 - pw F)<=2*T↔stK .even E F g k r=pw ↥3 - pw F):=by
 have hh:=cC h
 have hQ:=tR h.2.2.1
 have eM:=end_is h
 have a0:=a.1
 obtain ⟨_,a1,a2,a3⟩:=a
 rw [Int.mul_one] at a1 a2
 by_cases q:pw ↥3 - pw F<=k
 ·have e:stK .even E F g k r=pw ↥3 - pw F:=by rw [CG q];rfl
  have m1:=(kz (F:=F) (a:=pw ↥3 - pw F) (b:=k) ⋯ a0).1.mpr q
  have m2:=nQ (F:=F) (c:=pw ↥3 - pw F - 1) (c':=pw ↥3 - pw F) ⋯ ⋯
  rw [e]
  constructor
  ·intro _;rfl
  ·intro _;omega
 ·have e:=CC (w:=.even) (s:=g) (r:=r) (show k<pw ↥3 - pw F by omega)
  by_cases q2:k=pw ↥3 - pw F - 1
  ·have odd:k%2=1:=by
    have:pw ↥3 - pw F=2*((pw E - 1)*pw (F - 1)):=by
     rw [<- eM,ja h.2.2.1]
     have:(pw E - 1)*(2*pw (F - 1))=2*((pw E - 1)*pw (F - 1)):=by ac_rfl
     exact this
    omega
   have e1:k+1=pw ↥3 - pw F:=⋯
   rw [<- q2,<-e1,e]
   rcases a3 with ⟨r0,z⟩ | ⟨_,z⟩
   ·rw [Int.mul_one] at z
    have:=nQ (F:=F) (c:=k) (c':=k+1) a0 ⋯
    rw [if_pos r0]
    omega
   ·simp only [Int.mul_one] at z
    rcases z with ⟨z1,z2⟩ | ⟨z1,z2⟩ | ⟨z1,z2⟩
    ·rw [if_neg ⋯]
     subst z1
     simp only [Wy.grw]
     simp
     omega
    ·rw [if_neg ⋯]
     subst z1
     simp only [Wy.grw,odd]
     simp
     omega
    ·rw [if_neg ⋯]
     subst z1
     simp only [Wy.grw]
     simp
     omega
  ·have lt:vl F (k+1)<=vl F (pw ↥3 - pw F - 1):=(kz (F:=F) (a:=k+1) (b:=pw ↥3 - pw F - 1) ⋯ ⋯).1.mpr ⋯
   have m2:=nQ (F:=F) (c:=pw ↥3 - pw F - 1) (c':=pw ↥3 - pw F) ⋯ ⋯
   constructor
   ·intro z;omega
   ·intro z
    rw [e] at z
    exfalso
    split at z
    ·omega
    ·split at z<;>omega
theorem lq {E F s c:Int} (hs:0<=s/\s<=1) (c0:0<=c) (c1:c<pw ↥3):lnn E F ↥24=if s=1 then -(vl F c) else vl F c:=by
 have q:=(fo (E:=E) (F:=F) hs c0 c1).1
 unfold lnn cd
 rw [q]
 rcases (by omega:s=0\/s=1) with e | e<;>subst e
 ·rw [Int.zero_mul,if_neg ⋯,if_neg ↥2]
 ·rw [Int.one_mul,if_pos ⋯,if_pos rfl]
end EV
namespace EV
open PySem
def FnOk (E F:Int) (x:Int×Int):Prop:=(0<=x.1/\x.1<=1)/\0<=x.2/\x.2<pw ↥3 - pw F
theorem yx {ns:List Int}:D.flats (ns.map .int)=true:=by
 induction ns with
 | nil=>rfl
 | cons a r ih=>rw [List.map_cons];show (D.flat (.int a)&&D.flats _)=true;rw [ih];rfl
theorem turned {E F:Int} {x:Int×Int} (h:Sz E F) (hx:FnOk E F x):(nI E F x+pw ↥3)%(2*pw ↥3)=nI E F (1 - x.1,x.2)/\FnOk E F (1 - x.1,x.2):=by
 obtain ⟨a,b,c⟩:=hx
 have hQ:=ah F
 refine ⟨?_,⟨by show 0<=1 - x.1/\1 - x.1<=1;omega,b,c⟩⟩
 unfold nI
 simp only
 rcases (by omega:x.1=0\/x.1=1) with e | e<;>rw [e]
 ·rw [Int.emod_eq_of_lt ⋯ ⋯];omega
 ·have:1*pw ↥3+x.2+pw ↥3=x.2+2*pw ↥3:=⋯
  rw [this,Int.add_emod_right,Int.emod_eq_of_lt ⋯ ⋯];omega
theorem Gk {E F:Int} {x:Int×Int} (hx:FnOk E F x):rg E F x:=⟨hx.1,hx.2.1,by have:=hx.2.2;have:=ah F;omega⟩
theorem BV {w:Wy} {E F X U sg x y x' y':Int} (hU:0<U) (a:Hb w E F X U sg x y) (b:Hb w E F X U sg x' y'):x=x'/\y=y':=by
 by_cases z:X=0
 ·obtain ⟨a1,a2⟩:=a.1 z
  obtain ⟨b1,b2⟩:=b.1 z
  exact ⟨by rw [a1,b1],by rw [a2,b2]⟩
 ·obtain ⟨k,r,a1,a2,a3⟩:=a.2 z
  obtain ⟨k',r',b1,b2,b3⟩:=b.2 z
  obtain ⟨rfl,rfl⟩:=zt hU a3 b3
  exact ⟨by rw [a1,b1],by rw [a2,b2]⟩
end EV
namespace T
open EV
theorem Ex (c:Int):b9 [.int c]=.ok (.tup [.int (szE c),.int (szF c)]):=by
 unfold b9 cW
 by_cases h:c%8<4
 ·rcases four (Int.emod_nonneg c ↥2) h with e | e | e | e<;>(simp_arith [e,Pr];unfold szE szF;rw [e];rfl)
 ·by_cases h2:c%8<6
  ·simp_arith [h,h2]
   unfold szE szF
   rw [if_neg h,if_pos h2,if_neg h,if_pos h2]
  ·simp_arith [h,h2]
   unfold szE szF
   rw [if_neg h,if_neg h2,if_neg h,if_neg h2]
theorem wA (c:Int):∃ w:Wy,cK [.int c]=.ok (.str w.s):=by
 unfold cK dM
 rcases (by omega:c%5=0\/c%5=1\/c%5=2\/c%5=3\/c%5=4) with e | e | e | e | e
 ·exact ⟨.even,by simp_arith [e];rfl⟩
 ·exact ⟨.away,by simp_arith [e];rfl⟩
 ·exact ⟨.nought,by simp_arith [e];rfl⟩
 ·exact ⟨.up,by simp_arith [e,Pr];rfl⟩
 ·exact ⟨.down,by simp_arith [e,Ru];rfl⟩
theorem qr {E F c:Int} (h:Sz E F) (hc:nb c<=2^20):∃ s u,aM [.tup [.int E,.int F],.int c]=.ok (.int (s*pw ↥3+u))/\(0<=s/\s<=1)/\0<=u/\u<pw ↥3 - pw F:=by
 obtain ⟨k1,k2,k3,k4⟩:=id h
 have hh:=cC h
 have hQ:=tR k3
 have hH:=ah ↥3
 have hE1:2<=pw (E - 1):=tR ⋯
 have eE:=ja (F:=E) ⋯
 have eM:=end_is h
 have hE:=mU h
 have s1:=mf (k:=E+F) ⋯ ⋯
 have s2:=mf (k:=F) ⋯ ⋯
 have s3:=mf (k:=E - 1) ⋯ ⋯
 have s4:=mf (k:=E) ⋯ ⋯
 have n1:nb (pw ↥3)<=128:=gC (c:=127) ⋯
 have c6:nb (c / 6)<=2^20:=lh ↥2 hc
 have c12:nb (c / 6 / 2)<=2^20:=lh ↥2 c6
 have c96:nb (c / 6 / 2 / 8)<=2^20:=lh ↥2 c12
 have L6:6<=pw ↥3 - pw F:=⋯
 have nL:nb (pw ↥3 - pw F)<=128:=Nat.le_trans (jc (j:=pw ↥3) ⋯) n1
 have m2:=cz (MulOk.of (i:=2) (j:=pw ↥3 - pw F) (a:=2) ↥2 nL ↥2)
 have sd:0<=c / 6%2/\c / 6%2<=1:=⋯
 have ms:=cz (iw (t:=pw ↥3) sd.1 sd.2 (Nat.le_trans n1 ↥2))
 unfold aM cm
 by_cases g1:c%6<2
 ·have mm:=cz (MulOk.of (i:=c / 6) (j:=73846150927364518273645509182736455091829) (a:=2^20) (b:=200) c6 ↥2 ↥2)
  have p2:0<2*(pw ↥3 - pw F):=⋯
  have r0:=Int.emod_nonneg (c / 6*73846150927364518273645509182736455091829) (show 2*(pw ↥3 - pw F)≠0 by omega)
  have r1:=Int.emod_lt_of_pos (c / 6*73846150927364518273645509182736455091829) p2
  have dv:=kW (i:=c / 6*73846150927364518273645509182736455091829%(2*(pw ↥3 - pw F))) (jZ.small (j:=pw ↥3 - pw F) ⋯ ⋯)
  have lp:0<pw ↥3 - pw F:=⋯
  generalize hv:c / 6*73846150927364518273645509182736455091829%(2*(pw ↥3 - pw F))=v at *
  have q0:=Int.ediv_nonneg r0 (Int.le_of_lt lp)
  have q1:v / (pw ↥3 - pw F)<2:=Int.ediv_lt_of_lt_mul lp r1
  have t0:=Int.emod_nonneg v (show pw ↥3 - pw F≠0 by omega)
  have t1:=Int.emod_lt_of_pos v lp
  have mq:=cz (iw (s:=v / (pw ↥3 - pw F)) (t:=pw ↥3) q0 ⋯ (Nat.le_trans n1 ↥2))
  exact ⟨v / (pw ↥3 - pw F),v%(pw ↥3 - pw F),by simp_arith [s1,s2,g1,mm,m2,p2,hv,dv,lp,mq],⟨q0,⋯⟩,t0,t1⟩
 by_cases g2:c%6=2
 ·exact ⟨c / 6%2,c / 6 / 2%6,by simp_arith [s1,s2,g1,ms,eq_true g2],sd,⋯,⋯⟩
 by_cases g3:c%6=3
 ·refine ⟨c / 6%2,pw ↥3 - pw F - 1 - c / 6 / 2%4,?_,sd,⋯,⋯⟩
  simp_arith [s1,s2,g1,ms,g2,eq_true g3]
  congr 2
  omega
 have hp:pw (E - 1) - 1+1=pw (E - 1):=⋯
 have nm:nb (pw (E - 1) - 1)<=15:=mI ⋯ (by have:=oF h;omega)
 have sm:=bO (i:=pw (E - 1) - 1) (j:=F) ⋯ ⋯
 have eL:pw ↥3 - pw F=(pw E - 1)*pw F:=eM.symm
 by_cases g4:c%6=4
 ·have b1:pw F<=(pw (E - 1) - 1)*pw F:=by
   have:=Int.mul_le_mul_of_nonneg_right (show 1<=pw (E - 1) - 1 by omega) (show 0<=pw F by omega)
   omega
  have b2:(pw (E - 1) - 1)*pw F+2*pw F<=pw ↥3 - pw F:=by
   rw [eL,<-Int.add_mul]
   exact Int.mul_le_mul_of_nonneg_right ⋯ ⋯
  refine ⟨c / 6%2,(pw (E - 1) - 1)*pw F - 2+c / 6 / 2%5,?_,sd,⋯,⋯⟩
  simp_arith [s1,s2,s3,g1,ms,g2,g3,eq_true g4,sm]
  congr 2
  omega
 ·have mm:=cz (MulOk.of (i:=c / 6 / 2 / 8) (j:=73846150927364518273645509182736455091829) (a:=2^20) (b:=200) c96 ↥2 ↥2)
  have fp:0<pw F:=⋯
  have r0:=Int.emod_nonneg (c / 6 / 2 / 8*73846150927364518273645509182736455091829) (show pw F≠0 by omega)
  have r1:=Int.emod_lt_of_pos (c / 6 / 2 / 8*73846150927364518273645509182736455091829) fp
  generalize hv:c / 6 / 2 / 8*73846150927364518273645509182736455091829%pw F=v at *
  generalize hy:max 0 (min (pw E - 2) (pw (E - 1) - 1 - 3+c / 6 / 2%8))=y
  have y0:0<=y/\y<=pw E - 2:=⋯
  have ny:nb y<=16:=mI y0.1 ⋯
  have sy:=bO (i:=y) (j:=F) ⋯ ⋯
  have f1:0<=y*pw F:=Int.mul_nonneg y0.1 ⋯
  have f2:y*pw F+pw F<=pw ↥3 - pw F:=by
   have:y*pw F+pw F=(y+1)*pw F:=by rw [Int.add_mul,Int.one_mul]
   rw [this,eL]
   exact Int.mul_le_mul_of_nonneg_right ⋯ ⋯
  refine ⟨c / 6%2,y*pw F+v,?_,sd,⋯,⋯⟩
  simp_arith [s1,s2,s3,s4,g1,ms,g2,g3,g4,mm,fp,hv,hy,sy]
  congr 2
  omega
theorem df (w:Wy):bx [.str w.s]=.ok (va w):=by
 have h:gF (.str w.s) (.tup [.str "even",.str "away",.str "nought",.str "up",.str "down"])=.ok ↥28:=by
  show gF (.str w.s) (.tup (Ab.map D.str))=_
  rw [rR]
  cases w<;>rfl
 unfold bx kg
 simp_arith [h]
 rfl
theorem kE {E F:Int} (h:Sz E F):bP [.tup [.int E,.int F]]=.ok (.int (pw ↥3)):=by
 obtain ⟨h1,h2,h3,h4⟩:=h
 unfold bP gw
 simp_arith [mf (k:=E+F) ⋯ ⋯]
theorem Aa {E F:Int}:kP [.tup [.int E,.int F]]=.ok (.int (E+F+1)):=by
 unfold kP oZ
 simp_arith []
theorem iq {E F b:Int} (h:Sz E F) (hb:In E F b):bA [.tup [.int E,.int F],.int b]=.ok (.tup [.int (sgn E F b),.int (fld E F b),.int (fig F b)]):=by
 obtain ⟨h1,h2,h3,h4⟩:=id h
 obtain ⟨hb0,hb1⟩:=hb
 have d1:jZ b (pw ↥3):=⟨ah _,.inl (Nat.le_trans (gC (c:=127) ⋯) ↥2)⟩
 have d2:jZ (b%pw ↥3) (pw F):=⟨ah _,.inl (Nat.le_trans (gC (c:=127) ⋯) ↥2)⟩
 have e0:b / pw ↥3=sgn E F b:=by unfold sgn;rw [bC ⋯ ⋯,part0 (ah _) (ah _)]
 have e1:b%pw ↥3 / pw F=fld E F b:=by unfold fld;rw [bC ⋯ ⋯,part1 (ah _) (ah _)]
 have e2:b%pw ↥3%pw F=fig F b:=by unfold fig;rw [bC ⋯ ⋯,part2]
 unfold bA km
 simp_arith [Aa,kE h,mf (k:=E+F+1) ⋯ ⋯,mf (k:=F) ⋯ ⋯,show ¬ b<0 by omega,show ¬ pw (E+F+1)<=b by omega,kW d1,kW d2,ah,e0,e1,e2]
theorem eQ {E F:Int} (h:Sz E F):aN [.tup [.int E,.int F]]=.ok (.int (pw E - 1)):=by
 obtain ⟨h1,h2,h3,h4⟩:=h
 unfold aN dP
 simp_arith [mf (k:=E) ⋯ ⋯]
theorem oW {E F b:Int} (h:Sz E F) (hb:In E F b):bD [.tup [.int E,.int F],.int b]=.ok (.str (kindS E (fld E F b) (fig F b))):=by
 unfold bD uk
 simp_arith [iq h hb,eQ h]
 unfold kindS
 (repeat' split)<;>first | rfl | contradiction
theorem zy {E F:Int} {bs:List Int} {f:Int->PySem.Str} (hl:bs.length<=1000) (hf:∀ b∈bs,bD [.tup [.int E,.int F],.int b]=.ok (.str (f b))) :
  d4 [.tup [.int E,.int F],.lst (bs.map .int)]=.ok (.bl (decide (PySem.Str.ofString "none"∈bs.map f))):=by
 have st:∀ b∈bs,stC (con ↥32) (call bD [var 1,var 0]) [0] [some ↥6,some (.lst (bs.map .int)),none] (.int b)=.ok (some (.str (f b))):=fun b hb=>by
  unfold stC inC
  simp_arith [List.getD_cons_zero,hf b hb]
  unfold oP
  simp_arith []
 have rc:∀ (l:List Int),(∀ b∈l,b∈bs)->runC (stC (con ↥32) (call bD [var 1,var 0]) [0] [some ↥6,some (.lst (bs.map .int)),none]) (l.map .int)=.ok ((l.map f).map D.str):=fun l=>by
  induction l with
  | nil=>exact fun _=>rfl
  | cons b r ih =>
   intro h
   rw [List.map_cons]
   unfold runC
   rw [st b (h b (.head _)),ih fun x hx=>h x (.tail _ hx)]
   rfl
 have fr:∀ l:List PySem.Str,D.flats (l.map D.str)=true:=fun l=>by
  induction l with
  | nil=>rfl
  | cons a r ih =>
   rw [List.map_cons]
   show (D.flat (.str a)&&D.flats (r.map D.str))=true
   rw [ih]
   rfl
 have fr':cD ((bs.map f).map D.str)=.ok (.lst ((bs.map f).map D.str)):=by unfold cD;rw [if_pos (fr _)]
 have i1:oIn (.str (PySem.Str.ofString "none")) (.lst ((bs.map f).map D.str))=.ok (.bl (decide (PySem.Str.ofString "none"∈bs.map f))):=by
  have sc:∀ l:List PySem.Str,(l.map D.str).all D.sc=true:=fun l=>by
   induction l with
   | nil=>rfl
   | cons a r ih=>rw [List.map_cons,List.all_cons,ih];rfl
  have an:∀ l:List PySem.Str,((l.map D.str).any fun y=>D.beq y (.str (PySem.Str.ofString "none")))=decide (PySem.Str.ofString "none"∈l):=fun l=>by
   induction l with
   | nil=>rfl
   | cons a r ih =>
    rw [List.map_cons,List.any_cons,ih]
    show (decide (a=PySem.Str.ofString "none")||_)=_
    by_cases g:a=PySem.Str.ofString "none"
    ·rw [g];simp
    ·by_cases g':PySem.Str.ofString "none"∈r
     ·simp [g,g']
     ·simp [g,g',Ne.symm g,eq_comm]
  unfold oIn isIn
  simp only [D.sc,sc,Bool.and_self,if_true,an]
 have pb:∀ (a c:Option D) (ds:List D),pub 2 [a,c,some (.own ds)]=[a,c,some (.lst ds)]:=fun _ _ _=>rfl
 unfold d4 gA
 simp_arith [List.length_map,show bs.length<=100000 by omega,rc bs (fun _ h=>h),fr',i1,fH,AF,CK,pb,view]
theorem cw {s w p:Int} (hw:nb w<=1000000) (hp : -1000000<=p/\p<=1000000):aK [.tup [.int s,.int w,.int p]]=.ok (.tup [.int s,.int (frT w p),.int (frB p)]):=by
 unfold aK bJ
 by_cases g:0<=p
 ·simp_arith [g,bO (i:=w) (j:=p) g ⋯,frT,frB]
 ·simp_arith [g,mf (k := -p) ⋯ ⋯,frT,frB]
theorem uC {t n:Int} (ht:0<=t) (hn:0<n):aX [.int t,.int n]=.ok .non:=by
 unfold aX bL
 simp_arith [show ¬ t<0 by omega,show ¬ n<1 by omega]
theorem kG {t n p:Int} (h1:nb t<=10000000) (h2:nb n<=10000000) (h3 : -10000000<=p) (h4:p<=10000000):eK [.int t,.int n,.int p]=.ok (.tup [.int (kr p t),.int (gI p n)]):=by
 unfold eK kj kr gI
 by_cases g:0<=p
 ·simp_arith [g,bO (i:=n) (j:=p) g ⋯,bg (p := -p) ⋯,Int.mul_one]
 ·simp_arith [g,bO (i:=t) (j := -p) ⋯ ⋯,bg (p:=p) ⋯,Int.mul_one]
theorem GH {E F:Int} (h:Sz E F):qb [.tup [.int E,.int F]]=.ok (.int (pw (E - 1) - 1)):=by
 obtain ⟨h1,h2,h3,h4⟩:=h
 unfold qb um
 simp_arith [mf (k:=E - 1) ⋯ ⋯]
theorem jq {E F:Int} (h:Sz E F):kR [.tup [.int E,.int F]]=.ok (.int (lo E F)):=by
 have e:1 - (pw (E - 1) - 1) - F=lo E F:=by unfold lo;omega
 unfold kR BS
 simp_arith [GH h,e]
theorem rK {o a m:Int}:aW [.int o,.int a,.int m]=.ok (.int (if o=0 then 0 else if a<m then 1 else if a=m then 2 else 3)):=by
 unfold aW bK
 simp_arith []
theorem rest_of_ok {o s:Int} (h:nb o<=100000000):fB [.int o,.int s]=.ok (.int (rst o s)):=by
 have m:MulOk 2 o:=by walk_at "mul"
 unfold fB iB
 simp_arith [cz m,rK]
 rfl
theorem yD {t n:Int} (h1:nb t<=1000000) (h2:nb n<=1000000):ir [.int t,.int n]=.ok (.int (hgt t n)):=by
 have e:(kr ((nb t:Int) - nb n) t<gI ((nb t:Int) - nb n) n)=Lt t n ((nb t:Int) - nb n):=rfl
 unfold ir ko hgt
 by_cases g:Lt t n ((nb t:Int) - nb n)
 ·simp_arith [kG (t:=t) (n:=n) (p:=(nb t:Int) - nb n) ⋯ ⋯ ⋯ ⋯,e,g]
 ·simp_arith [kG (t:=t) (n:=n) (p:=(nb t:Int) - nb n) ⋯ ⋯ ⋯ ⋯,e,g]
theorem B3 {E F n:Int} (h:Sz E F) (hn:0<n):rP [.tup [.int E,.int F],.int 0,.int n]=.ok (.tup [.int 0,.int (lo E F),.int 0]):=by
 unfold rP yF
 simp_arith [uC (Int.le_refl 0) hn,jq h]
theorem J5 {E F t n:Int} (h:Sz E F) (ht:0<t) (hn:0<n) (h1:nb t<=1000000) (h2:nb n<=1000000) :
  rP [.tup [.int E,.int F],.int t,.int n]=.ok (.tup [.int (kr ↥22 t / gI ↥22 n),.int ↥22,.int (rst (kr ↥22 t%gI ↥22 n) (gI ↥22 n))]):=by
 obtain ⟨s1,s2,s3,s4⟩:=pq h ht hn
 have l:=jd h
 have hB:=kq (p:=nc E F t n) hn
 have hA:=sO (p:=nc E F t n) (Int.le_of_lt ht)
 have d:=Jx h hA hB s3
 have eP:max (lo E F) (hgt t n - F - 1)=nc E F t n:=rfl
 have nB:nb (gI ↥22 n)<=3000000:=by
  have:=iv h2 (gC (k:=nc E F t n) (c:=1000000) ⋯)
  unfold gI;omega
 have nr:nb (kr ↥22 t%gI ↥22 n)<=3000000:=CV hB nB
 unfold rP yF
 simp_arith [uC (Int.le_of_lt ht) hn,show ¬ t=0 by omega,jq h,yD h1 h2,eP,kG (t:=t) (n:=n) (p:=nc E F t n) ⋯ ⋯ ⋯ ⋯,kW d,hB,rest_of_ok (o:=kr ↥22 t%gI ↥22 n) (s:=gI ↥22 n) ⋯]
theorem bT {E F:Int} (h:Sz E F):bo [.tup [.int E,.int F]]=.ok (.int ((pw E - 1)*pw F)):=by
 obtain ⟨h1,h2,h3,h4⟩:=id h
 have hb:nb (pw E)<=16:=gC (c:=15) ⋯
 have hb2:nb (pw E - 1)<=17:=by walk_at "nbk"
 unfold bo iE
 simp_arith [eQ h,bO (i:=pw E - 1) (j:=F) ⋯ ⋯]
theorem dh {E F s c:Int} (h:Sz E F) (hs:0<=s/\s<=1):bZ [.tup [.int E,.int F],.int s,.int c]=.ok (.int ↥24):=by
 have n1:nb (pw ↥3)<=128:=gC (c:=127) (by have:=h.2.1;have:=h.2.2.2;omega)
 unfold bZ ki
 simp_arith [kE h,cz (iw hs.1 hs.2 (Nat.le_trans n1 ↥2))]
theorem ym {E F c k:Int} (h:Sz E F):cJ [.tup [.int E,.int F],.int c,.int k]=.ok (.int (if k=pw ↥3 - pw F then 5 else if c<pw F then 3 else 1)):=by
 obtain ⟨h1,h2,h3,h4⟩:=id h
 unfold cJ dJ
 simp_arith [bT h,end_is h,mf (k:=F) ⋯ ⋯]
theorem uv (w:Wy) (s:Int):aJ [va w,.int s]=.ok (.bl (w.out s)):=by
 unfold aJ aO va
 cases w<;>simp_arith [Wy.s,Wy.out]
theorem uj (w:Wy) (s r:Int) (o:Bool) (h:¬ r=0):eO [va w,.int s,.bl o,.int r]=.ok (.bl (w.grw s o r)):=by
 have f:=uv w s
 have hm:d8 "Way" "flees_nought" (va w)=true:=rfl
 unfold eO dm
 have nm:("flees_nought" != "name")=true:=by decide
 have e1:v5 "Way" "name" (va w)=.ok (.str w.s):=rfl
 unfold va at *
 cases w
 ·by_cases g:r=3
  ·simp_arith [h,Wy.s,eq_true g]
   simp [Wy.grw,g]
  ·by_cases g2:r=2
   ·simp_arith [h,Wy.s,g,eq_true g2]
    simp [Wy.grw,g2]
   ·simp_arith [h,Wy.s,g,g2]
    simp [Wy.grw,g,g2]
 ·simp_arith [h,Wy.s]
  rfl
 ·simp only [Wy.s] at f
  simp_arith [h,Wy.s,nm,f]
  rfl
 ·simp only [Wy.s] at f
  simp_arith [h,Wy.s,nm,f]
  rfl
 ·simp only [Wy.s] at f
  simp_arith [h,Wy.s,nm,f]
  rfl
theorem qx (w:Wy) (s:Int):dH [va w,.int s]=.ok (.bl (w.brs s)):=by
 have f:=uv w s
 have nm:("flees_nought" != "name")=true:=by decide
 have e2:∀ x:PySem.Str,oIn (.str x) (.tup [.str "even",.str "away"])=.ok (.bl (decide ((PySem.Str.ofString "even")=x\/(PySem.Str.ofString "away")=x))):=fun x=>iu
 unfold dH cN
 unfold va at *
 cases w
 ·simp_arith [Wy.s,e2]
  rfl
 ·simp_arith [Wy.s,e2]
  rfl
 ·simp only [Wy.s] at f
  simp_arith [Wy.s,e2,nm,f]
  rfl
 ·simp only [Wy.s] at f
  simp_arith [Wy.s,e2,nm,f]
  rfl
 ·simp only [Wy.s] at f
  simp_arith [Wy.s,e2,nm,f]
  rfl
theorem mS {E F s x P r:Int} (w:Wy) (h:Sz E F) (hs:0<=s/\s<=1) (hP:lo E F<=P) (hP2:P<=10000000) (hx:0<=x) :
  fA [.tup [.int E,.int F],.str w.s,.int s,.int x,.int P,.int r]=.ok (.tup [.int (s*pw ↥3+stK w E F s (codeOf E F P x) r),.int (stF w E F s (codeOf E F P x) r)]):=by
 obtain ⟨h1,h2,h3,h4⟩:=id h
 have l:=jd h
 have n1:nb (P - lo E F)<=64:=mI ⋯ ⋯
 have c0:0<=codeOf E F P x:=by
  have:=Int.mul_nonneg (show 0<=P - lo E F by omega) (Int.le_of_lt (ah F))
  unfold codeOf;omega
 have ec:(P - lo E F)*pw F+x=codeOf E F P x:=rfl
 have mb:d8 "Way" "bursts" (va w)=true:=rfl
 have mg:d8 "Way" "grows" (va w)=true:=rfl
 have vw:∀ (a b c d e f:Option D) (l:Dt),var 6 (a::b::c::d::e::f::some (va w)::l)=.ok (va w):=fun _ _ _ _ _ _ _=>rfl
 unfold fA iA stF stK
 by_cases g:pw ↥3 - pw F<=codeOf E F P x
 ·cases gb:w.brs s
  ·simp_arith [df w,jq h,bO (i:=P - lo E F) (j:=F) ⋯ ⋯,ec,bT h,end_is h,g,vw,mb,qx w s,gb,dh h hs]
  ·simp_arith [df w,jq h,bO (i:=P - lo E F) (j:=F) ⋯ ⋯,ec,bT h,end_is h,g,vw,mb,qx w s,gb,dh h hs]
 ·by_cases gr:r=0
  ·simp_arith [df w,jq h,bO (i:=P - lo E F) (j:=F) ⋯ ⋯,ec,bT h,end_is h,g,eq_true gr,dh h hs]
  ·cases gg:w.grw s (decide (codeOf E F P x%2=1)) r
   ·simp_arith [df w,jq h,bO (i:=P - lo E F) (j:=F) ⋯ ⋯,ec,bT h,end_is h,g,gr,vw,mg,qi c0,uj w s r _ gr,gg,dh h hs,ym h]
   ·simp_arith [df w,jq h,bO (i:=P - lo E F) (j:=F) ⋯ ⋯,ec,bT h,end_is h,g,gr,vw,mg,qi c0,uj w s r _ gr,gg,dh h hs,ym h]
theorem vp {E F s t n:Int} (w:Wy) (h:Sz E F) (hs:0<=s/\s<=1) (ht:0<t) (hn:0<n) (h1:nb t<=1000000) (h2:nb n<=1000000) :
  bh [.tup [.int E,.int F],.str w.s,.int s,.int t,.int n]=.ok (.tup [.int (s*pw ↥3+stK w E F s (codeOf E F ↥22 (kr ↥22 t / gI ↥22 n)) (rst (kr ↥22 t%gI ↥22 n) (gI ↥22 n))),.int (stF w E F s (codeOf E F ↥22 (kr ↥22 t / gI ↥22 n)) (rst (kr ↥22 t%gI ↥22 n) (gI ↥22 n)))]):=by
 obtain ⟨s1,s2,s3,s4⟩:=pq h ht hn
 unfold bh fL
 simp_arith [df w,J5 h ht hn h1 h2,mS w h hs s1 ⋯ (Int.ediv_nonneg (sO (p:=nc E F t n) (Int.le_of_lt ht)) (Int.le_of_lt (kq (p:=nc E F t n) hn)))]
theorem pY {E F s n:Int} (w:Wy) (h:Sz E F) (hs:0<=s/\s<=1) (hn:0<n):bh [.tup [.int E,.int F],.str w.s,.int s,.int 0,.int n]=.ok (.tup [.int (s*pw ↥3),.int 0]):=by
 have l:=jd h
 have h5:=cC h
 have hQ:=ah F
 have e0:codeOf E F (lo E F) 0=0:=by unfold codeOf;rw [Int.sub_self,Int.zero_mul];rfl
 have e:=mS (s:=s) (x:=0) (P:=lo E F) (r:=0) w h hs (Int.le_refl _) ⋯ (Int.le_refl 0)
 rw [e0,show stK w E F s 0 0=0 by unfold stK;rw [if_neg ⋯,if_pos rfl],show stF w E F s 0 0=0 by unfold stF;rw [if_neg ⋯,if_pos rfl],Int.add_zero] at e
 unfold bh fL
 simp_arith [df w,B3 h hn,e]
theorem vq {E F t n:Int} (h:Sz E F) (ht:0<=t) (hn:0<n) (n1:nb t<=1000000) (n2:nb n<=1000000) :
  ∃ c r,(∀ (w:Wy) (s:Int),0<=s/\s<=1->bh [.tup [.int E,.int F],.str w.s,.int s,.int t,.int n]=.ok (.tup [.int (s*pw ↥3+stK w E F s c r),.int (stF w E F s c r)]))/\0<=c/\vl F c*n<=t*pw (-(lo E F))/\t*pw (-(lo E F))<vl F (c+1)*n/\jY F (t*pw (-(lo E F))) n c r:=by
 have l:=jd h
 have h5:=cC h
 have hQ:=ah F
 by_cases g:t=0
 ·subst g
  refine ⟨0,0,fun w s hs => ?_,Int.le_refl 0,?_,?_,.inl ⟨rfl,?_⟩⟩
  ·rw [pY w h hs hn,show stK w E F s 0 0=0 by unfold stK;rw [if_neg ⋯,if_pos rfl],show stF w E F s 0 0=0 by unfold stF;rw [if_neg ⋯,if_pos rfl],Int.add_zero]
  ·rw [gO,Int.zero_mul,Int.zero_mul];exact Int.le_refl 0
  ·rw [Int.zero_mul]
   have:=nQ (F:=F) (c:=0) (c':=0+1) (Int.le_refl 0) ↥2
   rw [gO] at this
   exact Int.mul_pos this hn
  ·rw [gO,Int.zero_mul,Int.zero_mul]
 have ht':0<t:=⋯
 obtain ⟨s1,s2,s3,s4⟩:=pq h ht' hn
 have hB:=kq (p:=nc E F t n) hn
 have hA:=sO (p:=nc E F t n) ht
 have w0:0<=kr ↥22 t / gI ↥22 n:=Int.ediv_nonneg hA (Int.le_of_lt hB)
 have w1:kr ↥22 t / gI ↥22 n<2*pw F:=Int.ediv_lt_of_lt_mul hB s3
 have w2:lo E F<nc E F t n->pw F<=kr ↥22 t / gI ↥22 n:=fun q=>Int.le_ediv_of_mul_le hB (s4 q)
 have l0:=Int.emod_nonneg (kr ↥22 t) (show gI ↥22 n≠0 by omega)
 have l1:=Int.emod_lt_of_pos (kr ↥22 t) hB
 have b:=between h hn s1 w0 w1 w2 l0 l1 (Int.ediv_mul_add_emod _ _).symm
 have c0:=(ku h s1 w0 w1 w2).1
 exact ⟨_,_,fun w s hs=>vp w h hs ht' hn n1 n2,c0,b.1,b.2.1,BF b l0⟩
theorem pZ {E F t n:Int} (h:Sz E F) (ht:0<=t) (hn:0<n) (n1:nb t<=1000000) (n2:nb n<=1000000) :
  ∃ c r,(∀ (w:Wy) (s:Int),0<=s/\s<=1->bh [.tup [.int E,.int F],.str w.s,.int s,.int t,.int n]=.ok (.tup [.int (s*pw ↥3+stK w E F s c r),.int (stF w E F s c r)]))/\At F (t*pw (-(lo E F))) n c r:=by
 obtain ⟨c,r,e,x⟩:=vq h ht hn n1 n2
 exact ⟨c,r,e,x⟩
theorem iX {l:List D} {p:Int}:∀ {ts:List Tm} {acc:Int} {z3 z4:Option D},(∀ t∈ts,zS t/\p<=t.2.2/\t.2.2 - p<=450000) ->
  ∃ z3' z4',forL 3 (seq (assign 4 (bin d5 (bin oIx (var 3) ⇑1) (bin eA (bin oIx (var 3) ⇑2) (var 1)))) (assign 2 (ife (bin oEq (bin oIx (var 3) ⇑0) ⇑1) (bin eA (var 2) (var 4)) (bin cA (var 2) (var 4))))) (ts.map tD) [some (.lst l),some (.int p),some (.int acc),z3,z4]=.nx [some (.lst l),some (.int p),some (.int (acc+dg p ts)),z3',z4']
 | [],acc,z3,z4,_=>⟨z3,z4,by rw [List.map_nil,ur,show dg p []=0 from rfl,Int.add_zero]⟩
 | t::r,acc,z3,z4,h=>by
  obtain ⟨⟨a1,a2,a3,a4⟩,a5,a6⟩:=h t (.head _)
  have sh:=bO (i:=t.2.1) (j:=t.2.2 - p) ⋯ ⋯
  by_cases g:t.1=1
  ·obtain ⟨z3',z4',ih⟩:=iX (l:=l) (p:=p) (ts:=r) (acc:=acc - t.2.1*pw (t.2.2 - p)) (z3:=some (tD t)) (z4:=some (.int (t.2.1*pw (t.2.2 - p)))) fun t ht=>h t (.tail _ ht)
   refine ⟨z3',z4',?_⟩
   have e:dg p (t::r) = -(t.2.1*pw (t.2.2 - p))+dg p r:=by
    show tv p t+_=_
    unfold tv
    rw [if_pos g]
   rw [e,List.map_cons,aP]
   unfold tD at ih ⊢
   simp_arith [sh,eq_true g,ih]
   rw [Int.sub_eq_add_neg,Int.add_assoc]
  ·obtain ⟨z3',z4',ih⟩:=iX (l:=l) (p:=p) (ts:=r) (acc:=acc+t.2.1*pw (t.2.2 - p)) (z3:=some (tD t)) (z4:=some (.int (t.2.1*pw (t.2.2 - p)))) fun t ht=>h t (.tail _ ht)
   refine ⟨z3',z4',?_⟩
   have e:dg p (t::r)=t.2.1*pw (t.2.2 - p)+dg p r:=by
    show tv p t+_=_
    unfold tv
    rw [if_neg g]
   rw [e,List.map_cons,aP]
   unfold tD at ih ⊢
   simp_arith [sh,g,ih]
   rw [Int.add_assoc]
theorem nR {ts:List Tm} (hl:ts.length<=100000) (h:∀ t∈ts,zS t):gU [.lst (ts.map tD)]=.ok (.tup [.int (if dg (jo ts) ts<0 then 1 else 0),.int (if dg (jo ts) ts<0 then -(dg (jo ts) ts) else dg (jo ts) ts),.int (jo ts)]):=by
 have st:∀ δ,∀ t∈ts,stC (con ↥32) (bin oIx (var 0) ⇑2) [] δ (tD t)=.ok (some (.int t.2.2)):=fun δ t _=>by
  unfold stC inC tD
  simp_arith [List.map_nil]
  unfold oP
  simp_arith []
 have hb:=oS (ts:=ts) (a := -200000) (b:=200000) ↥2 fun t ht=>⟨(h t ht).2.2.1,(h t ht).2.2.2⟩
 obtain ⟨z3',z4',e⟩:=iX (l:=ts.map tD) (p:=jo ts) (ts:=ts) (acc:=0) (z3:=none) (z4:=none) fun t ht=>⟨h t ht,oR ht,by have:=(h t ht).2.2.2;omega⟩
 rw [Int.zero_add] at e
 unfold gU pd
 by_cases g:dg (jo ts) ts<0
 ·simp_arith [List.length_map,hl,oz (st _),bS,yi,e,g]
 ·simp_arith [List.length_map,hl,oz (st _),bS,yi,e,g]
theorem xQ (w:Wy) (bs:List Int):b8 [.str w.s,.lst (bs.map .int)]=.ok (.int (nsg w bs)):=by
 unfold b8 cV nsg
 by_cases g0:(0:Int)∈bs
 ·by_cases g1:(1:Int)∈bs
  ·by_cases gd:w.s=PySem.Str.ofString "down"
   ·simp_arith [df w,dI,g0,g1,eq_true gd]
   ·simp_arith [df w,dI,g0,g1,gd]
  ·simp_arith [df w,dI,g0,g1]
 ·by_cases g1:(1:Int)∈bs
  ·simp_arith [df w,dI,g0,g1]
  ·simp_arith [df w,dI,g0,g1]
theorem AG {δ:Dt} {ts:List Tm}:∀ t∈ts,stC (con ↥32) ↥27 [] δ (tD t)=.ok (some (.int t.1)):=fun t _=>by
 unfold stC inC tD
 simp_arith [List.map_nil]
 unfold oP
 simp_arith []
theorem gZ {E F:Int} {ts:List Tm} (w:Wy) (h:Sz E F) (hl:ts.length<=1000) (hts:∀ t∈ts,zS t) (z:dg (jo ts) ts=0) :
  ax [.tup [.int E,.int F],.str w.s,.lst (ts.map tD)]=.ok (.tup [.int (nsg w (ts.map (·.1))*pw ↥3),.int 0]):=by
 have hb:=oS (ts:=ts) (a := -200000) (b:=200000) ↥2 fun t ht=>⟨(hts t ht).2.2.1,(hts t ht).2.2.2⟩
 have to:=nR ⋯ hts
 rw [z,if_neg ↥2,if_neg ↥2] at to
 have wf:=cw (s:=0) (w:=0) (p:=jo ts) ↥2 ⟨⋯,⋯⟩
 have f0:frT 0 (jo ts)=0:=by
  unfold frT
  split
  ·exact Int.zero_mul _
  ·rfl
 rw [f0] at wf
 have sg:=dh (c:=0) h (CT w (ts.map (·.1)))
 rw [Int.add_zero] at sg
 unfold ax bq
 simp_arith [to,wf,List.length_map,show ts.length<=100000 by omega,oz AG,bS,xQ,sg]
theorem jN {E F q:Int} {ts:List Tm} (h:Sz E F) (hl:ts.length<=1000) (hts:∀ t∈ts,zS t) (hq:q<=0) (hp:∀ t∈ts,q<=t.2.2) (z:dg q ts≠0) :
  ∃ c r,(∀ w:Wy,ax [.tup [.int E,.int F],.str w.s,.lst (ts.map tD)]=.ok (.tup [.int ((if dg q ts<0 then 1 else 0)*pw ↥3+stK w E F (if dg q ts<0 then 1 else 0) c r),.int (stF w E F (if dg q ts<0 then 1 else 0) c r)]))/\At F ((if dg q ts<0 then -(dg q ts) else dg q ts)*pw (-(lo E F))) (pw (-q)) c r:=by
 have hb:=oS (ts:=ts) (a := -200000) (b:=200000) ↥2 fun t ht=>⟨(hts t ht).2.2.1,(hts t ht).2.2.2⟩
 have to:=nR ⋯ hts
 have es:=rn hp
 have hq':q<=jo ts:=by
  cases ts with
  | nil=>exact absurd rfl z
  | cons t r=>exact rX (by simp) hp
 have nS:=wO (p:=jo ts) fun t ht=>⟨hts t ht,oR ht,by have:=(hts t ht).2.2.2;omega⟩
 generalize jo ts=p at *
 have pp:=ah (p - q)
 generalize hS:dg p ts=S at *
 have ez:(dg q ts<0↔S<0):=by
  rw [es]
  constructor
  ·intro g
   refine Classical.byContradiction fun g' => ?_
   have:=Int.mul_nonneg (show 0<=S by omega) (Int.le_of_lt pp)
   omega
  ·exact fun g=>Int.mul_neg_of_neg_of_pos g pp
 have ea:(if dg q ts<0 then -(dg q ts) else dg q ts)=(if S<0 then -S else S)*pw (p - q):=by
  by_cases g:S<0
  ·rw [if_pos (ez.mpr g),if_pos g,es,Int.neg_mul]
  ·rw [if_neg (fun y=>g (ez.mp y)),if_neg g,es]
 have eg:(if dg q ts<0 then (1:Int) else 0)=if S<0 then 1 else 0:=by
  by_cases g:S<0
  ·rw [if_pos (ez.mpr g),if_pos g]
  ·rw [if_neg (fun y=>g (ez.mp y)),if_neg g]
 rw [ea,eg]
 have S0:S≠0:=fun y=>z (by rw [es,y,Int.zero_mul])
 have hg:(0:Int)<=(if S<0 then 1 else 0)/\(if S<0 then (1:Int) else 0)<=1:=by split<;>decide
 have nA:nb (if S<0 then -S else S)<=460000:=by
  split
  ·rw [uc];omega
  ·omega
 have A0:0<(if S<0 then -S else S):=by split<;>omega
 generalize (if S<0 then -S else S)=A at *
 generalize (if S<0 then (1:Int) else 0)=g at *
 have wf:=cw (s:=g) (w:=A) (p:=p) ⋯ ⟨⋯,⋯⟩
 have hn:0<frB p:=by
  unfold frB
  split
  ·decide
  ·exact ah _
 have ht:0<frT A p:=by
  unfold frT
  split
  ·exact Int.mul_pos A0 (ah _)
  ·exact A0
 have n1:nb (frT A p)<=1000000:=by
  unfold frT
  split
  ·have:=iv nA (gC (k:=p) (c:=200000) ⋯)
   omega
  ·omega
 have n2:nb (frB p)<=1000000:=by
  unfold frB
  split
  ·decide
  ·exact Nat.le_trans (gC (c:=200000) ⋯) ↥2
 obtain ⟨c,r,e,a⟩:=pZ h (Int.le_of_lt ht) hn n1 n2
 refine ⟨c,r,fun w => ?_,GR hn (ah _) ?_ a⟩
 ·unfold ax bq
  simp_arith [to,wf,show ¬ frT A p=0 by omega,e w g hg]
 ·have u:=uq (w:=A) hq hq'
  have e1:A*pw (p - q)*pw (-(lo E F))*frB p=A*pw (p - q)*frB p*pw (-(lo E F)):=by ac_rfl
  have e2:frT A p*pw (-(lo E F))*pw (-q)=frT A p*pw (-q)*pw (-(lo E F)):=by ac_rfl
  rw [e1,e2,u]
theorem jn {E F:Int} (h:Sz E F):bj [.tup [.int E,.int F]]=.ok (.int ((pw E - 1)*pw F+pw (F - 1))):=by
 obtain ⟨h1,h2,h3,h4⟩:=id h
 unfold bj eR
 simp_arith [bT h,mf (k:=F - 1) ⋯ ⋯]
theorem tJ {δ:Dt} (x:Tm ⊕ Int):stC (un rV ↥11) ↥27 [] δ (xD x)=.ok (match x with | .inl _=>none | .inr s=>some (.int s)):=by
 cases x with
 | inl t =>
  unfold stC inC xD tD
  simp_arith [List.map_nil]
  unfold oP
  simp_arith []
 | inr s =>
  unfold stC inC xD
  simp_arith [List.map_nil]
  unfold oP
  simp_arith []
theorem iZ {E F:Int} {ts:List Tm} (w:Wy) (hl:ts.length<=1000):aG [.tup [.int E,.int F],.str w.s,.lst (ts.map tD)]=ax [.tup [.int E,.int F],.str w.s,.lst (ts.map tD)]:=by
 have rc:∀ δ,runC (stC (un rV ↥11) ↥27 [] δ) (ts.map tD)=.ok []:=fun δ=>by
  rw [kL (o:=fun _=>none) fun d hd=>by
   obtain ⟨t,_,rfl⟩:=List.mem_map.mp hd
   exact tJ (.inl t)]
  rw [List.filterMap_eq_nil_iff.mpr fun _ _=>rfl]
 have fr:cD []=.ok (.lst []):=rfl
 have pb:∀ (a b c:Option D) (ds:List D),pub 3 [a,b,c,some (.own ds)]=[a,b,c,some (.lst ds)]:=fun _ _ _ _=>rfl
 have i0:∀ x:Int,oIn (.int x) (.lst [])=.ok ↥28:=fun _=>rfl
 unfold aG bu
 generalize hr:ax [.tup [.int E,.int F],.str w.s,.lst (ts.map tD)]=r
 cases r with
 | ok d=>simp_arith [List.length_map,show ts.length<=100000 by omega,rc,fr,pb,i0,hr]
 | ex C=>simp_arith [List.length_map,show ts.length<=100000 by omega,rc,fr,pb,i0,hr]
 | bad =>
  simp_arith [List.length_map,show ts.length<=100000 by omega,rc,fr,pb,i0,hr]
  rfl
theorem iY {E F:Int} {xs:List (Tm ⊕ Int)} (w:Wy) (h:Sz E F) (hl:xs.length<=1000) (hs:∀ s∈m7 xs,0<=s/\s<=1) (hn:m7 xs≠[]) :
  aG [.tup [.int E,.int F],.str w.s,.lst (xs.map xD)]=.ok (if 0∈m7 xs/\1∈m7 xs then .tup [.int (pw ↥3 - pw F+pw (F - 1)),.int 16] else .tup [.int ((m7 xs).getD 0 0*pw ↥3+(pw ↥3 - pw F)),.int 0]):=by
 have rc:∀ δ,runC (stC (un rV ↥11) ↥27 [] δ) (xs.map xD)=.ok ((m7 xs).map D.int):=fun δ=>by
  clear hs hn hl
  induction xs with
  | nil=>rfl
  | cons x r ih =>
   rw [List.map_cons]
   unfold runC
   rw [tJ,ih]
   cases x<;>rfl
 have pb:∀ (a b c:Option D) (ds:List D),pub 3 [a,b,c,some (.own ds)]=[a,b,c,some (.lst ds)]:=fun _ _ _ _=>rfl
 have l1:xs.length<=100000:=⋯
 have ee:=bT h
 have e2:=jn h
 rw [end_is h] at ee e2
 generalize m7 xs=es at *
 have lp:0<(es.length:Int):=by
  cases es with
  | nil=>exact absurd rfl hn
  | cons a r=>simp only [List.length_cons];omega
 have ix:=Bk (bs:=es) (k:=0) (Int.le_refl 0) lp
 have hm:es.getD (0:Int).toNat 0∈es:=by
  have lt:0<es.length:=⋯
  show es.getD 0 0∈es
  rw [List.getD_eq_getElem?_getD,List.getElem?_eq_getElem lt]
  exact List.getElem_mem lt
 have sg:=dh (c:=pw ↥3 - pw F) h (hs _ hm)
 have e0:es.getD (0:Int).toNat 0=es.getD 0 0:=rfl
 rw [e0] at ix sg
 unfold aG bu
 by_cases g:0∈es/\1∈es
 ·rw [if_pos g]
  simp_arith [List.length_map,l1,rc,bS,pb,dI,eq_true g,eq_true g.1,eq_true g.2,e2]
 ·rw [if_neg g]
  by_cases g0:0∈es
  ·have g1:¬ 1∈es:=fun z=>g ⟨g0,z⟩
   simp_arith [List.length_map,l1,rc,bS,pb,dI,eq_true g0,g1,lp,ix,ee,sg]
  ·simp_arith [List.length_map,l1,rc,bS,pb,dI,g0,lp,ix,ee,sg]
theorem tm {E F b:Int} (h:Sz E F) (hb:In E F b) (hf:¬ fld E F b=pw E - 1):dZ [.tup [.int E,.int F],.int b]=.ok (.tup [.int (sgn E F b),.int (wh F (fld E F b) (fig F b)),.int (po E F (fld E F b))]):=by
 obtain ⟨h1,h2,h3,h4⟩:=id h
 unfold dZ oY
 simp_arith [iq h hb,eQ h,jq h,hf,mf (k:=F) ⋯ ⋯]
 unfold wh po
 by_cases g:fld E F b=0
 ·simp only [if_pos g]
 ·simp only [if_neg g]
theorem oM {E F s c:Int} (h:Sz E F) (hs:0<=s/\s<=1) (c0:0<=c) (c1:c<pw ↥3):bD [.tup [.int E,.int F],.int ↥24]=.ok (.str (kindS E (c / pw F) (c%pw F))):=by
 obtain ⟨b1,b2,b3,b4⟩:=av h hs c0 c1
 have:=oW h b1
 rw [b3,b4] at this
 exact this
theorem xN {E F s c:Int} (h:Sz E F) (hs:0<=s/\s<=1) (c0:0<=c) (c1:c<pw ↥3):bA [.tup [.int E,.int F],.int ↥24]=.ok (.tup [.int s,.int (c / pw F),.int (c%pw F)]):=by
 obtain ⟨b1,b2,b3,b4⟩:=av h hs c0 c1
 have:=iq h b1
 rw [b2,b3,b4] at this
 exact this
theorem kX {E F s c:Int} (h:Sz E F) (hs:0<=s/\s<=1) (c0:0<=c) (c1:c<pw ↥3 - pw F):ay [.tup [.int E,.int F],.int ↥24]=.ok (tD (wt E F s c)):=by
 have hQ:=ah F
 obtain ⟨b1,b2,b3,b4⟩:=av (c:=c) h hs c0 ⋯
 have wo:=tm h b1 (by rw [b3];intro z;have:=(oV h c0 ⋯).mp z;omega)
 rw [b2,b3,b4] at wo
 have k:=(gq (c:=c) h c0 ⋯).2.1
 have kk:=oM (c:=c) h hs c0 ⋯
 have g:¬ kindS E (c / pw F) (c%pw F)=PySem.Str.ofString "endless":=fun z=>by have:=k.mp z;omega
 unfold ay ck tD wt
 simp_arith [kk,g,wo]
theorem kY {E F s c:Int} (h:Sz E F) (hs:0<=s/\s<=1) (c0:c=pw ↥3 - pw F):ay [.tup [.int E,.int F],.int ↥24]=.ok (.tup [.int s,.non,.int 0]):=by
 have hQ:=ah F
 have h5:=cC h
 have k:=(gq (c:=c) h ⋯ ⋯).2.1
 have kk:=oM (c:=c) h hs ⋯ ⋯
 have pp:=xN (c:=c) h hs ⋯ ⋯
 unfold ay ck
 simp_arith [kk,eq_true (k.mpr c0),pp]
theorem DE {E F:Int} {x:Int×Int} (h:Sz E F) (hx:rg E F x) (hn:x.2<=pw ↥3 - pw F):ay [.tup [.int E,.int F],.int (nI E F x)]=.ok (xD (xt E F x)):=by
 obtain ⟨a,b,c⟩:=hx
 unfold xt nI
 by_cases g:x.2=pw ↥3 - pw F
 ·rw [if_pos g]
  exact kY h a g
 ·rw [if_neg g]
  exact kX h a b ⋯
theorem kM {E F:Int} {x y:Int×Int} (h:Sz E F) (hx:rg E F x) (hy:rg E F y) (nx:x.2<=pw ↥3 - pw F) (ny:y.2<=pw ↥3 - pw F):aY [.tup [.int E,.int F],.int (nI E F x),.int (nI E F y)]=.ok (xD (pt E F x y)):=by
 have tx:=DE h hx nx
 have ty:=DE h hy ny
 have so:=Lo hx.1 hy.1
 unfold xt at tx ty
 unfold pt
 unfold aY cG
 by_cases g:x.2=pw ↥3 - pw F
 ·rw [if_pos g] at tx
  rw [if_pos (.inl g)]
  by_cases g':y.2=pw ↥3 - pw F
  ·rw [if_pos g'] at ty
   unfold xD at *
   simp_arith [tx,ty,so]
  ·rw [if_neg g'] at ty
   unfold xD tD wt at *
   simp_arith [tx,ty,so]
 ·rw [if_neg g] at tx
  by_cases g':y.2=pw ↥3 - pw F
  ·rw [if_pos g'] at ty
   rw [if_pos (.inr g')]
   unfold xD tD wt at *
   simp_arith [tx,ty,so]
  ·rw [if_neg g'] at ty
   rw [if_neg (fun z=>z.elim g g')]
   obtain ⟨⟨_,a2,_,_⟩,_,_⟩:=pK (s:=0) h hx.2.1 (show x.2<_ by omega)
   obtain ⟨⟨_,b2,_,_⟩,_,_⟩:=pK (s:=0) h hy.2.1 (show y.2<_ by omega)
   have mu:=cz (MulOk.of (i:=wh F (x.2 / pw F) (x.2%pw F)) (j:=wh F (y.2 / pw F) (y.2%pw F)) a2 b2 ↥2)
   unfold xD tD wt pm at *
   simp_arith [tx,ty,so,mu]
theorem jS {E F:Int} {x y:Int×Int} (h:Sz E F) (hx:rg E F x) (hy:rg E F y):aR [.tup [.int E,.int F],.int (nI E F x),.int (nI E F y)]=.ok (.bl (decide ((x.2=0\/y.2=0)/\(x.2=pw ↥3 - pw F\/y.2=pw ↥3 - pw F)))):=by
 obtain ⟨kn,ke,k0⟩:=gq (c:=x.2) h hx.2.1 hx.2.2
 obtain ⟨ln,le,l0⟩:=gq (c:=y.2) h hy.2.1 hy.2.2
 have kk:=oM (c:=x.2) h hx.1 hx.2.1 hx.2.2
 have kl:=oM (c:=y.2) h hy.1 hy.2.1 hy.2.2
 simp only [<- ke,<-le,<-k0,<-l0]
 generalize kindS E (x.2 / pw F) (x.2%pw F)=K at *
 generalize kindS E (y.2 / pw F) (y.2%pw F)=L at *
 unfold nI aR cj
 by_cases g:K=PySem.Str.ofString "nought"\/L=PySem.Str.ofString "nought"
 ·simp_arith [kk,kl,iu,eq_true g,true_and]
 ·simp_arith [kk,kl,iu,g,false_and]
theorem ua {E F:Int} {xs:List ↥12} (h:Sz E F) (hx:∀ x∈xs,rg E F x) :
  PySem.Str.ofString "none"∈(xs.map ↥13).map (fun b=>kindS E (fld E F b) (fig F b))↔∃ x∈xs,pw ↥3 - pw F<x.2:=by
 rw [List.map_map,List.mem_map]
 constructor
 ·rintro ⟨x,m,e⟩
  obtain ⟨a,b,c⟩:=hx x m
  obtain ⟨b1,b2,b3,b4⟩:=av h a b c
  refine ⟨x,m,(gq h b c).1.mp ?_⟩
  rw [<- b3,<-b4]
  exact e
 ·rintro ⟨x,m,e⟩
  obtain ⟨a,b,c⟩:=hx x m
  obtain ⟨b1,b2,b3,b4⟩:=av h a b c
  refine ⟨x,m,?_⟩
  have:=(gq h b c).1.mpr e
  rw [<- b3,<-b4] at this
  exact this
theorem yf {E F:Int} {xs:List ↥12} (h:Sz E F) (hx:∀ x∈xs,rg E F x):∀ b∈xs.map ↥13,bD [.tup [.int E,.int F],.int b]=.ok (.str (kindS E (fld E F b) (fig F b))):=fun b hb=>by
 obtain ⟨x,m,rfl⟩:=List.mem_map.mp hb
 obtain ⟨a,b,c⟩:=hx x m
 exact oW h (av h a b c).1
theorem rz {E F:Int} {st:D->R (Option D)} {xs:List ↥12} (hst:∀ x∈xs,st (.int (nI E F x))=.ok (some (xD (xt E F x)))):runC st ((xs.map ↥13).map D.int)=.ok ((xs.map (xt E F)).map xD):=by
 induction xs with
 | nil=>rfl
 | cons x r ih =>
  rw [List.map_cons,List.map_cons]
  unfold runC
  rw [hst x (.head _),ih fun x hx=>hst x (.tail _ hx)]
  rfl
theorem ph {E F:Int} {a0 a1 a2 a3 a6:Option D}:∀ {ps:List (↥12×↥12)} {bs:List Int} {z5:Option D},(bs.length+2*ps.length<=100000)->∃ z5',forL 5 (jm 4 (var 5)) (ps.map (pD E F)) [a0,a1,a2,a3,some (.own (bs.map .int)),z5,a6]=.nx [a0,a1,a2,a3,some (.own ((bs++(fl ps).map ↥13).map .int)),z5',a6]
 | [],bs,z5,_=>⟨z5,by rw [List.map_nil,ur];show _=O.nx [a0,a1,a2,a3,some (D.own ((bs++[]).map .int)),z5,a6];rw [List.append_nil]⟩
 | p::r,bs,z5,hl=>by
  rw [List.length_cons] at hl
  obtain ⟨z5',ih⟩:=ph (E:=E) (F:=F) (a0:=a0) (a1:=a1) (a2:=a2) (a3:=a3) (a6:=a6) (ps:=r) (bs:=bs++[nI E F p.1,nI E F p.2]) (z5:=some (pD E F p)) (by rw [List.length_append];simp;omega)
  refine ⟨z5',?_⟩
  have e:(bs++(fl (p::r)).map ↥13)=bs++[nI E F p.1,nI E F p.2]++(fl r).map ↥13:=by
   show bs++([nI E F p.1,nI E F p.2]++(fl r).map ↥13)=_
   rw [List.append_assoc]
  rw [e,List.map_cons,aP,<-ih]
  have x:G9 4 [a0,a1,a2,a3,some (.own (bs.map .int)),some (pD E F p),a6] (bs.map .int) (.ok (pD E F p))=.nx [a0,a1,a2,a3,some (.own ((bs++[nI E F p.1,nI E F p.2]).map .int)),some (pD E F p),a6]:=by
   unfold G9 pD
   simp only
   rw [if_pos ⟨rfl,by simp;omega⟩,List.map_append]
   rfl
  have y:jm 4 (var 5) [a0,a1,a2,a3,some (.own (bs.map .int)),some (pD E F p),a6]=.nx [a0,a1,a2,a3,some (.own ((bs++[nI E F p.1,nI E F p.2]).map .int)),some (pD E F p),a6]:=by
   rw [Av,<-x]
   rfl
  show trn (jm 4 (var 5) [a0,a1,a2,a3,some (.own (bs.map .int)),some (pD E F p),a6]) (forL 5 (jm 4 (var 5)) (r.map (pD E F)))=_
  rw [y]
  rfl
theorem p9 {E F:Int} {st:D->R (Option D)} {f:↥12×↥12->D} {ps:List (↥12×↥12)} (hst:∀ p∈ps,st (pD E F p)=.ok (some (f p))):runC st (ps.map (pD E F))=.ok (ps.map f):=by
 induction ps with
 | nil=>rfl
 | cons p r ih =>
  rw [List.map_cons]
  unfold runC
  rw [hst p (.head _),ih fun x hx=>hst x (.tail _ hx)]
  rfl
theorem any_map {α:Type} {f:α->Bool} {ps:List α}:GP [.lst (ps.map fun p=>.bl (f p))]=.ok (.bl (ps.any f)):=by
 have:boolsOf (ps.map fun p=>.bl (f p))=some (ps.map f):=by
  induction ps with
  | nil=>rfl
  | cons a r ih =>
   rw [List.map_cons,List.map_cons]
   show (boolsOf _).map _=_
   rw [ih]
   rfl
 unfold GP
 simp only [this]
 rw [List.any_map]
 rfl
theorem vR {α:Type} {f:α->Bool} {ps:List α}:cD (ps.map fun p=>.bl (f p))=.ok (.lst (ps.map fun p=>.bl (f p))):=by
 unfold cD
 rw [if_pos]
 induction ps with
 | nil=>rfl
 | cons a r ih =>
  rw [List.map_cons]
  show (D.flat (.bl (f a))&&D.flats _)=true
  rw [ih]
  rfl
def wrP (E F:Int) (p:↥12×↥12):Prop:=(p.1.2=0\/p.2.2=0)/\(p.1.2=pw ↥3 - pw F\/p.2.2=pw ↥3 - pw F)
noncomputable instance (E F:Int) (p:↥12×↥12):Decidable (wrP E F p):=by unfold wrP;exact inferInstance
section
variable {E F:Int} {ps:List (↥12×↥12)} {xs:List ↥12}
theorem BR (w:Wy) (h:Sz E F) (hl:xs.length<=400) (hl2:ps.length<=300) (hx:∀ x∈xs++fl ps,rg E F x) (hn:∃ x∈xs++fl ps,pw ↥3 - pw F<x.2) :
  aq [.tup [.int E,.int F],.str w.s,.lst (ps.map (pD E F)),.lst ↥26]=.ok (.tup [.int (pw ↥3 - pw F+pw (F - 1)),.int 0]):=by
 have fll:=yL ps
 have an:=zy (E:=E) (F:=F) (bs:=(xs++fl ps).map ↥13) (by rw [List.length_map,List.length_append];omega) (yf h hx)
 rw [decide_eq_true ((ua h hx).mpr hn),List.map_append] at an
 have e2:=jn h
 rw [end_is h] at e2
 have bl:nt [.lst ((xs.map ↥13).map D.int)]=.ok (.lst ((xs.map ↥13).map D.int)):=bS
 obtain ⟨z5,lo⟩:=ph (E:=E) (F:=F) (a0:=some ↥6) (a1:=some (.str w.s)) (a2:=some (.lst (ps.map (pD E F)))) (a3:=some (.lst ↥26)) (a6:=none) (ps:=ps) (bs:=xs.map ↥13) (z5:=none) (by rw [List.length_map];omega)
 unfold aq cg
 simp_arith [df w,bl,lo,List.length_map,show ps.length<=100000 by omega,an,e2]
theorem qp {d:D} (w:Wy) (h:Sz E F) (hl:xs.length<=400) (hl2:ps.length<=300) (hx:∀ x∈xs++fl ps,rg E F x) (hn:∀ x∈xs++fl ps,x.2<=pw ↥3 - pw F) (hw:∀ p∈ps,¬ wrP E F p) (hd:aG [.tup [.int E,.int F],.str w.s,.lst ((ps.map (ptp E F)++xs.map (xt E F)).map xD)]=.ok d) :
  aq [.tup [.int E,.int F],.str w.s,.lst (ps.map (pD E F)),.lst ↥26]=.ok d:=by
 have fll:=yL ps
 have an:=zy (E:=E) (F:=F) (bs:=(xs++fl ps).map ↥13) (by rw [List.length_map,List.length_append];omega) (yf h hx)
 rw [decide_eq_false (fun z=>by obtain ⟨x,m,y⟩:=(ua h hx).mp z;have:=hn x m;omega),List.map_append] at an
 have bl:nt [.lst ((xs.map ↥13).map D.int)]=.ok (.lst ((xs.map ↥13).map D.int)):=bS
 obtain ⟨z5,lo⟩:=ph (E:=E) (F:=F) (a0:=some ↥6) (a1:=some (.str w.s)) (a2:=some (.lst (ps.map (pD E F)))) (a3:=some (.lst ↥26)) (a6:=none) (ps:=ps) (bs:=xs.map ↥13) (z5:=none) (by rw [List.length_map];omega)
 have mem1:∀ p∈ps,p.1∈xs++fl ps:=fun p m=>List.mem_append.mpr (.inr (uw.mpr ⟨p,m,.inl rfl⟩))
 have mem2:∀ p∈ps,p.2∈xs++fl ps:=fun p m=>List.mem_append.mpr (.inr (uw.mpr ⟨p,m,.inr rfl⟩))
 have st:∀ δ:Dt,∀ p∈ps,stC (con ↥32) (call aR [var 1,bin oIx (var 0) ⇑0,bin oIx (var 0) ⇑1]) [0] (some ↥6::δ) (pD E F p)=.ok (some (.bl (decide (wrP E F p)))):=fun δ p m=>by
  have e:=jS h (hx p.1 (mem1 p m)) (hx p.2 (mem2 p m))
  unfold stC inC pD wrP
  simp_arith [List.getD_cons_zero,e]
  unfold oP
  simp_arith []
 have aw:ps.any (fun p=>decide (wrP E F p))=false:=by
  rw [List.any_eq_false]
  exact fun p m=>by rw [decide_eq_true_iff];exact hw p m
 have st2:∀ δ:Dt,∀ p∈ps,stC (con ↥32) (call aY [var 1,bin oIx (var 0) ⇑0,bin oIx (var 0) ⇑1]) [0] (some ↥6::δ) (pD E F p)=.ok (some (xD (ptp E F p))):=fun δ p m=>by
  have e:=kM h (hx p.1 (mem1 p m)) (hx p.2 (mem2 p m)) (hn p.1 (mem1 p m)) (hn p.2 (mem2 p m))
  unfold stC inC pD ptp
  simp_arith [List.getD_cons_zero,e]
  unfold oP
  simp_arith []
 have st3:∀ δ:Dt,∀ x∈xs,stC (con ↥32) (call ay [var 1,var 0]) [0] (some ↥6::δ) (.int (nI E F x))=.ok (some (xD (xt E F x))):=fun δ x m=>by
  have e:=DE h (hx x (List.mem_append.mpr (.inl m))) (hn x (List.mem_append.mpr (.inl m)))
  unfold stC inC
  simp_arith [List.getD_cons_zero,e]
  unfold oP
  simp_arith []
 have f1:cD (ps.map fun p=>xD (ptp E F p))=.ok (.lst (ps.map fun p=>xD (ptp E F p))):=by
  have:=tj (xs:=ps.map (ptp E F))
  rw [List.map_map] at this
  unfold cD
  exact if_pos this
 have f2:cD ((xs.map (xt E F)).map xD)=.ok (.lst ((xs.map (xt E F)).map xD)):=by unfold cD;rw [if_pos tj]
 have pb:∀ (a2 a3 a4 a5 a6 a7:Option D) (ds:List D),pub 6 [a2,a3,a4,a5,a6,a7,some (.own ds)]=[a2,a3,a4,a5,a6,a7,some (.lst ds)]:=fun _ _ _ _ _ _ _=>rfl
 have ad:cA (.lst (ps.map fun p=>xD (ptp E F p))) (.lst ((xs.map (xt E F)).map xD))=.ok (.lst ((ps.map (ptp E F)++xs.map (xt E F)).map xD)):=by
  rw [oK (by simp;omega),List.map_append,List.map_map (f:=ptp E F)]
  rfl
 unfold aq cg
 simp_arith [df w,bl,lo,List.length_map,show ps.length<=100000 by omega,show xs.length<=100000 by omega,an,p9 (st _),vR,any_map,aw,p9 (st2 _),f1,pb,rz (st3 _),f2,ad,hd]
theorem wQ {V U X:Int} (h:Sz E F) (hl:xs.length<=400) (hl2:ps.length<=300) (hx:∀ x∈xs++fl ps,rg E F x) (hf:∀ x∈xs++fl ps,x.2<pw ↥3 - pw F) (hV:0<V) (eX:dg (2*lo E F) (fts E F ps xs)=X*V) (eU:pw (-(2*lo E F))=U*(V*pw (-(lo E F)))) (w:Wy) :
  ∃ x y,aq [.tup [.int E,.int F],.str w.s,.lst (ps.map (pD E F)),.lst ↥26]=.ok (.tup [.int x,.int y])/\Hb w E F X U (nsg w ((fts E F ps xs).map (·.1))) x y:=by
 have hQ:=ah F
 have l:=jd h
 have key:∀ d,ax [.tup [.int E,.int F],.str w.s,.lst ((fts E F ps xs).map tD)]=.ok d->aq [.tup [.int E,.int F],.str w.s,.lst (ps.map (pD E F)),.lst ↥26]=.ok d:=fun d hd=>by
  refine qp w h hl hl2 hx (fun x m=>Int.le_of_lt (hf x m)) (fun p m z => ?_) ?_
  ·have a:=hf _ (KI (xs:=xs) m)
   have b:=hf _ (KH (xs:=xs) m)
   unfold wrP at z
   omega
  ·rw [JP hf,iZ w (by rw [yG];omega)]
   exact hd
 have ok:=JQ h hx hf
 have len:(fts E F ps xs).length<=1000:=by rw [yG];omega
 generalize fts E F ps xs=ts at *
 by_cases z:X=0
 ·have zz:dg (jo ts) ts=0:=by
   have:=rn (q:=2*lo E F) (ts:=ts) fun t ht=>(ok t ht).2
   rw [eX,z,Int.zero_mul] at this
   rcases Int.mul_eq_zero.mp this.symm with e | e
   ·exact e
   ·have:=ah (jo ts - 2*lo E F);omega
  exact ⟨_,_,key _ (gZ w h len (fun t ht=>(ok t ht).1) zz),fun _=>⟨rfl,rfl⟩,fun y=>absurd z y⟩
 ·have z':dg (2*lo E F) ts≠0:=by
   rw [eX]
   intro y
   rcases Int.mul_eq_zero.mp y with e | e
   ·exact z e
   ·omega
  obtain ⟨k,r,e,a⟩:=jN (ts:=ts) h len (fun t ht=>(ok t ht).1) (show 2*lo E F<=0 by omega) (fun t ht=>(ok t ht).2) z'
  rw [eX] at e a
  have ni:=lg (X:=X) hV
  have e1:(if X*V<0 then (1:Int) else 0)=if X<0 then 1 else 0:=by
   by_cases g:X<0
   ·rw [if_pos (ni.mpr g),if_pos g]
   ·rw [if_neg (fun y=>g (ni.mp y)),if_neg g]
  have e2:(if X*V<0 then -(X*V) else X*V)=(if X<0 then -X else X)*V:=by
   by_cases g:X<0
   ·rw [if_pos (ni.mpr g),if_pos g,Int.neg_mul]
   ·rw [if_neg (fun y=>g (ni.mp y)),if_neg g]
  rw [e1] at e
  rw [e2,eU,Int.mul_assoc] at a
  exact ⟨_,_,key _ (e w),fun y=>absurd y z,fun _=>⟨k,r,rfl,rfl,Df (Int.mul_pos hV (ah _)) a⟩⟩
theorem Eo {b:Int} (w:Wy) (h:Sz E F) (hl:xs.length<=400) (hl2:ps.length<=300) (hx:∀ x∈xs++fl ps,rg E F x) (hn:∀ x∈xs++fl ps,x.2<=pw ↥3 - pw F) (hw:∀ p∈ps,¬ wrP E F p) (hs:∀ s∈m7 (ps.map (ptp E F)++xs.map (xt E F)),0<=s/\s<=1) (hb:b∈m7 (ps.map (ptp E F)++xs.map (xt E F))) :
  aq [.tup [.int E,.int F],.str w.s,.lst (ps.map (pD E F)),.lst ↥26]=.ok (if 0∈m7 (ps.map (ptp E F)++xs.map (xt E F))/\1∈m7 (ps.map (ptp E F)++xs.map (xt E F)) then .tup [.int (pw ↥3 - pw F+pw (F - 1)),.int 16] else .tup [.int (b*pw ↥3+(pw ↥3 - pw F)),.int 0]):=by
 refine qp w h hl hl2 hx hn hw ?_
 have hne:m7 (ps.map (ptp E F)++xs.map (xt E F))≠[]:=fun z=>by rw [z] at hb;cases hb
 rw [iY w h (by rw [List.length_append,List.length_map,List.length_map];omega) hs hne]
 generalize m7 (ps.map (ptp E F)++xs.map (xt E F))=es at *
 by_cases g:0∈es/\1∈es
 ·rw [if_pos g,if_pos g]
 ·rw [if_neg g,if_neg g]
  have hm:es.getD 0 0∈es:=by
   cases es with
   | nil=>exact absurd rfl hne
   | cons a r=>exact .head _
  have q1:=hs _ hm
  have q2:=hs _ hb
  have:es.getD 0 0=b:=by
   rcases (by omega:es.getD 0 0=0\/es.getD 0 0=1) with u | u<;>rcases (by omega:b=0\/b=1) with v | v
   ·omega
   ·exact absurd ⟨u▸hm,v▸hb⟩ g
   ·exact absurd ⟨v▸hb,u▸hm⟩ g
   ·omega
  rw [this]
theorem Mp (hx:∀ x∈xs++fl ps,rg E F x):∀ s∈m7 (ps.map (ptp E F)++xs.map (xt E F)),0<=s/\s<=1:=fun s hs=>by
 unfold m7 at hs
 obtain ⟨t,m,e⟩:=List.mem_filterMap.mp hs
 rcases List.mem_append.mp m with m | m
 ·obtain ⟨p,m',rfl⟩:=List.mem_map.mp m
  unfold ptp pt at e
  split at e
  ·rename_i g
   split at g
   ·cases g
   ·cases g;cases e
  ·rename_i g
   split at g
   ·cases g;cases e;exact Lq
   ·cases g
 ·obtain ⟨x,m',rfl⟩:=List.mem_map.mp m
  unfold xt at e
  split at e
  ·rename_i g
   split at g
   ·cases g
   ·cases g;cases e
  ·rename_i g
   split at g
   ·cases g;cases e;exact (hx x (List.mem_append.mpr (.inl m'))).1
   ·cases g
end
theorem za {ns:List Int} {j:Int} (h0:0<=j):aS [.lst (ns.map .int),.int j]=.ok (.int (ns.getD j.toNat 0)):=by
 unfold aS cX
 by_cases h:j<(ns.length:Int)
 ·have e:oIx (.lst (ns.map D.int)) (.int j)=.ok (.int (ns.getD j.toNat 0)):=by
   obtain ⟨k,rfl⟩:=Int.eq_ofNat_of_zero_le h0
   have hk:k<ns.length:=⋯
   refine js ?_
   simp [List.getElem?_map,List.getElem?_eq_getElem hk,List.getD_eq_getElem?_getD]
  simp_arith [h,e]
 ·simp_arith [h,BQ h0 h]
theorem iG {E F:Int} {bs:List Int} (h:Sz E F) (hl:bs.length<=1000) (hb:∀ b∈bs,In E F b):bp [.tup [.int E,.int F],.lst (bs.map .int)]=.ok .non:=by
 have loop:∀ (cs:List Int),(∀ b∈cs,In E F b)->∀ (l:D) (z:Option D),∃ z',forL 2 (expr (call bA [var 0,var 2])) (cs.map D.int) [some ↥6,some (.lst (bs.map .int)),z]=.nx [some ↥6,some (.lst (bs.map .int)),z']:=fun cs=>by
  induction cs with
  | nil=>exact fun _ _ z=>⟨z,rfl⟩
  | cons c r ih =>
   intro hc l z
   obtain ⟨z',e⟩:=ih (fun b m=>hc b (.tail _ m)) l (some (.int c))
   refine ⟨z',?_⟩
   have p:=iq h (hc c (.head _))
   rw [List.map_cons,aP]
   simp_arith [p,e]
 obtain ⟨z,e⟩:=loop bs hb .non none
 unfold bp dQ
 simp_arith [e]
theorem uM {E F s s' c c':Int} (w:Wy) (h:Sz E F) (hs:0<=s/\s<=1) (hs':0<=s'/\s'<=1) (c0:0<=c) (c1:c<pw ↥3) (d0:0<=c') (d1:c'<pw ↥3) :
  ∃ x y,cy [.tup [.int E,.int F],.str w.s,.int ↥24,.int (s'*pw ↥3+c')]=.ok (.tup [.int x,.int y])/\Kv w E F s c s' c' x y:=by
 have hQ:=ah F
 have hL:=ah (-(lo E F))
 have key:∀ d,aq [.tup [.int E,.int F],.str w.s,.lst (([]:List (↥12×↥12)).map (pD E F)),.lst (([(s,c),(s',c')].map ↥13).map .int)]=.ok d->cy [.tup [.int E,.int F],.str w.s,.int ↥24,.int (s'*pw ↥3+c')]=.ok d:=fun d hd=>by
  have e:aq [.tup [.int E,.int F],.str w.s,.lst [],.lst [.int ↥24,.int (s'*pw ↥3+c')]]=.ok d:=hd
  unfold cy pf
  simp_arith [e]
 have hx:∀ x∈[(s,c),(s',c')]++fl [],rg E F x:=fun x hx=>by
  rcases List.mem_cons.mp hx with e | hx
  ·subst e;exact ⟨hs,c0,c1⟩
  ·rcases List.mem_cons.mp hx with e | hx
   ·subst e;exact ⟨hs',d0,d1⟩
   ·cases hx
 have all:∀ {P:Int×Int->Prop},P (s,c)->P (s',c')->∀ x∈[(s,c),(s',c')]++fl [],P x:=fun a b x hx=>by
  rcases List.mem_cons.mp hx with e | hx
  ·subst e;exact a
  ·rcases List.mem_cons.mp hx with e | hx
   ·subst e;exact b
   ·cases hx
 unfold Kv
 by_cases g1:pw ↥3 - pw F<c\/pw ↥3 - pw F<c'
 ·simp only [if_pos g1]
  refine ⟨_,_,key _ (BR (ps:=[]) (xs:=[(s,c),(s',c')]) w h (show 2<=400 by decide) (show 0<=300 by decide) hx ?_),rfl,rfl⟩
  rcases g1 with g | g
  ·exact ⟨(s,c),.head _,g⟩
  ·exact ⟨(s',c'),.tail _ (.head _),g⟩
 simp only [if_neg g1]
 have hn:∀ x∈[(s,c),(s',c')]++fl [],x.2<=pw ↥3 - pw F:=all (show c<=_ by omega) (show c'<=_ by omega)
 have inf:=fun b hb=>Eo (ps:=[]) (xs:=[(s,c),(s',c')]) (b:=b) w h (show 2<=400 by decide) (show 0<=300 by decide) hx hn (fun p hp=>nomatch hp) (Mp hx) hb
 have ec:c=pw ↥3 - pw F->xt E F (s,c)=.inr s:=fun g=>if_pos g
 have ec':¬ c=pw ↥3 - pw F->xt E F (s,c)=.inl (wt E F s c):=fun g=>if_neg g
 have ed:c'=pw ↥3 - pw F->xt E F (s',c')=.inr s':=fun g=>if_pos g
 have ed':¬ c'=pw ↥3 - pw F->xt E F (s',c')=.inl (wt E F s' c'):=fun g=>if_neg g
 have es:m7 ((([]:List (↥12×↥12)).map (ptp E F))++[(s,c),(s',c')].map (xt E F))=m7 [xt E F (s,c),xt E F (s',c')]:=rfl
 rw [es] at inf
 by_cases g2:c=pw ↥3 - pw F
 ·simp only [if_pos g2]
  rw [ec g2] at inf
  by_cases g3:c'=pw ↥3 - pw F
  ·rw [ed g3] at inf
   have ee:m7 [.inr s,.inr s']=[s,s']:=rfl
   rw [ee] at inf
   have q:=inf s (.head _)
   by_cases g4:s=s'
   ·simp only [if_neg (show ¬ (c'=pw ↥3 - pw F/\¬ s=s') from fun z=>z.2 g4)]
    rw [if_neg (by rw [<- g4];simp only [List.mem_cons,List.not_mem_nil,or_false,or_self];omega)] at q
    exact ⟨_,_,key _ q,rfl,rfl⟩
   ·simp only [if_pos (show c'=pw ↥3 - pw F/\¬ s=s' from ⟨g3,g4⟩)]
    rw [if_pos (by simp only [List.mem_cons,List.not_mem_nil,or_false];omega)] at q
    exact ⟨_,_,key _ q,rfl,rfl⟩
  ·rw [ed' g3] at inf
   have ee:m7 [.inr s,.inl (wt E F s' c')]=[s]:=rfl
   rw [ee] at inf
   have q:=inf s (.head _)
   rw [if_neg (by simp only [List.mem_cons,List.not_mem_nil,or_false];omega)] at q
   simp only [if_neg (show ¬ (c'=pw ↥3 - pw F/\¬ s=s') from fun z=>g3 z.1)]
   exact ⟨_,_,key _ q,rfl,rfl⟩
 simp only [if_neg g2]
 rw [ec' g2] at inf
 by_cases g3:c'=pw ↥3 - pw F
 ·simp only [if_pos g3]
  rw [ed g3] at inf
  have ee:m7 [.inl (wt E F s c),.inr s']=[s']:=rfl
  rw [ee] at inf
  have q:=inf s' (.head _)
  rw [if_neg (by simp only [List.mem_cons,List.not_mem_nil,or_false];omega)] at q
  exact ⟨_,_,key _ q,rfl,rfl⟩
 simp only [if_neg g3]
 have hf:∀ x∈[(s,c),(s',c')]++fl [],x.2<pw ↥3 - pw F:=all (show c<_ by omega) (show c'<_ by omega)
 obtain ⟨x,y,e,o⟩:=wQ (ps:=[]) (xs:=[(s,c),(s',c')]) (U:=1) (V:=pw (-(lo E F))) (X:=(if s=1 then -(vl F c) else vl F c)+(if s'=1 then -(vl F c') else vl F c')) h (show 2<=400 by decide) (show 0<=300 by decide) hx hf hL (by
  show tv _ (wt E F s c)+(tv _ (wt E F s' c')+0)=_
  rw [wy h c0,wy h d0,Int.add_zero,Int.add_mul]) (by rw [CJ h,Int.one_mul]) w
 have en:(fts E F [] [(s,c),(s',c')]).map (·.1)=[s,s']:=rfl
 rw [en,FG hs hs'] at o
 exact ⟨x,y,key _ e,o⟩
theorem ux {E F s c:Int} (h:Sz E F) (hs:0<=s/\s<=1) (c0:0<=c) (c1:c<pw ↥3 - pw F):∃ K:PySem.Str,bD [.tup [.int E,.int F],.int ↥24]=.ok (.str K)/\¬ (PySem.Str.ofString "endless"=K\/PySem.Str.ofString "none"=K):=by
 have hQ:=ah F
 obtain ⟨b1,b2,b3,b4⟩:=av (c:=c) h hs c0 ⋯
 have k:=oW h b1
 rw [b3,b4] at k
 refine ⟨_,k,?_⟩
 have kc:=lA (c:=c) h c0 ⋯
 by_cases g:c=0
 ·rw [kc.2.2.1 g];decide
 ·rcases kc.2.2.2 ⋯ c1 with e | e<;>rw [e]<;>decide
theorem du {E F:Int} {xs:List ↥12} (h:Sz E F) (hl:xs.length<=1000) (hx:∀ x∈xs,(0<=x.1/\x.1<=1)/\0<=x.2/\x.2<pw ↥3 - pw F):aF [.tup [.int E,.int F],.lst ↥26]=.ok .non:=by
 have hQ:=ah F
 have cb:=iG (bs:=xs.map ↥13) h (by rw [List.length_map];exact hl) fun b m=>by
  obtain ⟨x,mx,rfl⟩:=List.mem_map.mp m
  obtain ⟨a,b,c⟩:=hx x mx
  exact (av h a b ⋯).1
 unfold aF cH
 generalize hbody:ifs _ _ _=body
 have loop:∀ (l:List ↥12),(∀ x∈l,(0<=x.1/\x.1<=1)/\0<=x.2/\x.2<pw ↥3 - pw F)->∀ (z:Option D),∃ z',forL 2 body ((l.map ↥13).map D.int) [some ↥6,some (.lst ↥26),z]=.nx [some ↥6,some (.lst ↥26),z']:=fun l=>by
  induction l with
  | nil=>exact fun _ z=>⟨z,rfl⟩
  | cons x r ih =>
   intro hc z
   obtain ⟨z',e⟩:=ih (fun b m=>hc b (.tail _ m)) (some (.int (nI E F x)))
   refine ⟨z',?_⟩
   obtain ⟨a,b,c⟩:=hc x (.head _)
   obtain ⟨K,k,nk⟩:=ux h a b c
   have k':bD [.tup [.int E,.int F],.int (nI E F x)]=.ok (.str K):=k
   rw [List.map_cons,List.map_cons,aP]
   subst hbody
   simp_arith [k',iu,nk,e]
 obtain ⟨z,e⟩:=loop xs hx none
 simp_arith [cb,List.length_map,show xs.length<=100000 by omega,e]
theorem F5 {E F s c y:Int} (h:Sz E F) (hs:0<=s/\s<=1) (c0:0<=c) (c1:c<pw ↥3 - pw F) (hy:y=0\/y=1\/y=3):aU [.tup [.int E,.int F],.tup [.int ↥24,.int y]]=.ok (.int ↥24):=by
 obtain ⟨K,k,nk⟩:=ux h hs c0 c1
 have ba:mF (.int y) (.int 4)=.ok (.int 0):=by rcases hy with e | e | e<;>subst e<;>rfl
 unfold aU cq
 simp_arith [k,iu,nk,ba]
theorem F6 {E F s y:Int} (h:Sz E F) (hs:0<=s/\s<=1):aU [.tup [.int E,.int F],.tup [.int (s*pw ↥3+(pw ↥3 - pw F)),.int y]]=.ex "NoLeft":=by
 have hQ:=ah F
 have hh:=cC h
 obtain ⟨b1,b2,b3,b4⟩:=av (c:=pw ↥3 - pw F) h hs ⋯ ⋯
 have k:=oW h b1
 rw [b3,b4,(lA (c:=pw ↥3 - pw F) h ⋯ ⋯).2.1 rfl] at k
 have i1:oIn (.str (PySem.Str.ofString "endless")) (.tup [.str (PySem.Str.ofString "endless"),.str (PySem.Str.ofString "none")])=.ok ↥32:=rfl
 unfold aU cq
 simp_arith [k,i1]
theorem BC {t:Tm}:kQ [tD t]=.ok (tD (1 - t.1,t.2.1,t.2.2)):=by
 unfold kQ pe tD
 simp_arith []
theorem nP {E F s c:Int} (h:Sz E F) (hs:0<=s/\s<=1) (c0:0<=c) (c1:c<pw ↥3 - pw F):dZ [.tup [.int E,.int F],.int ↥24]=.ok (tD (wt E F s c)):=by
 have hQ:=ah F
 obtain ⟨b1,b2,b3,b4⟩:=av (c:=c) h hs c0 ⋯
 have wo:=tm h b1 (by rw [b3];intro z;have:=(oV h c0 ⋯).mp z;omega)
 rw [b2,b3,b4] at wo
 exact wo
theorem FZ {E F d:Int} {ts:List Tm} (h:Sz E F) (hl:ts.length<=1000) (hts:∀ t∈ts,zS t) (hp:∀ t∈ts,lo E F<=t.2.2) (hn:ts≠[]) (d0:0<=d) (d1:d<pw ↥3 - pw F) (e:vl F d=if dg (lo E F) ts<0 then -(dg (lo E F) ts) else dg (lo E F) ts) :
  fD [.tup [.int E,.int F],.lst (ts.map tD)]=.ok (.int ((if dg (lo E F) ts<0 then 1 else 0)*pw ↥3+d)):=by
 have l:=jd h
 have hb:=oS (ts:=ts) (a := -200000) (b:=200000) ↥2 fun t ht=>⟨(hts t ht).2.2.1,(hts t ht).2.2.2⟩
 have to:=nR ⋯ hts
 have es:=rn hp
 have hq':lo E F<=jo ts:=rX hn hp
 have nS:=wO (p:=jo ts) fun t ht=>⟨hts t ht,oR ht,by have:=(hts t ht).2.2.2;omega⟩
 generalize jo ts=p at *
 have pp:=ah (p - lo E F)
 generalize dg p ts=S at *
 have ni:=lg (X:=S) pp
 rw [es] at e ⊢
 have e1:(if S*pw (p - lo E F)<0 then (1:Int) else 0)=if S<0 then 1 else 0:=by
  by_cases g:S<0
  ·rw [if_pos (ni.mpr g),if_pos g]
  ·rw [if_neg (fun y=>g (ni.mp y)),if_neg g]
 have e2:(if S*pw (p - lo E F)<0 then -(S*pw (p - lo E F)) else S*pw (p - lo E F))=(if S<0 then -S else S)*pw (p - lo E F):=by
  by_cases g:S<0
  ·rw [if_pos (ni.mpr g),if_pos g,Int.neg_mul]
  ·rw [if_neg (fun y=>g (ni.mp y)),if_neg g]
 rw [e2] at e
 rw [e1]
 have nA:nb (if S<0 then -S else S)<=460000:=by rw [Bz];omega
 have A0:0<=(if S<0 then -S else S):=by split<;>omega
 have hg:(0:Int)<=(if S<0 then 1 else 0)/\(if S<0 then (1:Int) else 0)<=1:=by split<;>decide
 generalize (if S<0 then -S else S)=A at *
 generalize (if S<0 then (1:Int) else 0)=g at *
 have wf:=cw (s:=g) (w:=A) (p:=p) ⋯ ⟨⋯,⋯⟩
 have hn':0<frB p:=by
  unfold frB
  split
  ·decide
  ·exact ah _
 have ht:0<=frT A p:=by
  unfold frT
  split
  ·exact Int.mul_nonneg A0 (Int.le_of_lt (ah _))
  ·exact A0
 have n1:nb (frT A p)<=1000000:=by
  unfold frT
  split
  ·have:=iv nA (gC (k:=p) (c:=200000) ⋯)
   omega
  ·omega
 have n2:nb (frB p)<=1000000:=by
  unfold frB
  split
  ·decide
  ·exact Nat.le_trans (gC (c:=200000) ⋯) ↥2
 obtain ⟨c,r,er,a⟩:=pZ h ht hn' n1 n2
 have u:=uq (w:=A) (p:=p) (q:=lo E F) ⋯ hq'
 obtain ⟨z1,z2⟩:=zt hn' a (Cp hn' d0 (by rw [u,e]))
 subst z1 z2
 have er':=er .even g hg
 rw [(pQ d1).1,(pQ d1).2] at er'
 have ws:Wy.even.s=PySem.Str.ofString "even":=rfl
 rw [ws] at er'
 unfold fD iC
 simp_arith [to,wf,er']
def sm2 (F s c s' c':Int):Int:=(if s=1 then -(vl F c) else vl F c)+(if s'=1 then -(vl F c') else vl F c')
theorem rq {E F s c s' c' g K y d:Int} (h:Sz E F) (hs:0<=s/\s<=1) (hs':0<=s'/\s'<=1) (c0:0<=c) (c1:c<pw ↥3 - pw F) (d0:0<=c') (d1:c'<pw ↥3 - pw F)
  (ea:cy [.tup [.int E,.int F],.str (PySem.Str.ofString "even"),.int ↥24,.int (s'*pw ↥3+c')]=.ok (.tup [.int (g*pw ↥3+K),.int y])) (hg:0<=g/\g<=1) (K0:0<=K) (K1:K<pw ↥3 - pw F) (hy:y=0\/y=1\/y=3)
  (q0:0<=d) (q1:d<pw ↥3 - pw F) (qe:vl F d=if sm2 F s c s' c' - ↥19<0 then -(sm2 F s c s' c' - ↥19) else sm2 F s c s' c' - ↥19) :
  bz [.tup [.int E,.int F],.int ↥24,.int (s'*pw ↥3+c')]=.ok (.tup [.int (g*pw ↥3+K),.int ((if sm2 F s c s' c' - ↥19<0 then 1 else 0)*pw ↥3+d)]):=by
 have cf:=du (xs:=[(s,c),(s',c')]) h (show 2<=1000 by decide) (fun x hx=>by
  rcases List.mem_cons.mp hx with e | hx
  ·subst e;exact ⟨hs,c0,c1⟩
  ·rcases List.mem_cons.mp hx with e | hx
   ·subst e;exact ⟨hs',d0,d1⟩
   ·cases hx)
 have cf':aF [.tup [.int E,.int F],.lst [.int ↥24,.int (s'*pw ↥3+c')]]=.ok .non:=cf
 have ka:=F5 h hg K0 K1 hy
 have w1:=nP h hs c0 c1
 have w2:=nP h hs' d0 d1
 have w3:=nP h hg K0 K1
 have mn:=BC (t:=wt E F g K)
 have em:((1 - (wt E F g K).1,(wt E F g K).2.1,(wt E F g K).2.2):Tm)=wt E F (1 - g) K:=rfl
 rw [em] at mn
 obtain ⟨t1,p1,_⟩:=pK (s:=s) h c0 c1
 obtain ⟨t2,p2,_⟩:=pK (s:=s') h d0 d1
 obtain ⟨t3,p3,_⟩:=pK (s:=1 - g) h K0 K1
 have all:∀ t∈[wt E F s c,wt E F s' c',wt E F (1 - g) K],zS t/\lo E F<=t.2.2:=fun t ht=>by
  rcases List.mem_cons.mp ht with e | ht
  ·subst e;exact ⟨t1,p1⟩
  ·rcases List.mem_cons.mp ht with e | ht
   ·subst e;exact ⟨t2,p2⟩
   ·rcases List.mem_cons.mp ht with e | ht
    ·subst e;exact ⟨t3,p3⟩
    ·cases ht
 have es:dg (lo E F) [wt E F s c,wt E F s' c',wt E F (1 - g) K]=sm2 F s c s' c' - ↥19:=by
  show tv _ _+(tv _ _+(tv _ _+0))=_
  rw [zZ c0,zZ d0,zZ K0,Ey hg]
  unfold sm2
  omega
 have lf:=FZ (ts:=[wt E F s c,wt E F s' c',wt E F (1 - g) K]) h (show 3<=1000 by decide) (fun t ht=>(all t ht).1) (fun t ht=>(all t ht).2) (by simp) q0 q1 (by rw [es];exact qe)
 rw [es,List.map_cons,List.map_cons,List.map_cons,List.map_nil] at lf
 have vt:∀ t:Tm,∃ a b c:Int,tD t=.tup [.int a,.int b,.int c]:=fun t=>⟨_,_,_,rfl⟩
 generalize (if sm2 F s c s' c' - ↥19<0 then (1:Int) else 0)=b at *
 unfold bz eu
 obtain ⟨x1,y1,z1,e1⟩:=vt (wt E F s c)
 obtain ⟨x2,y2,z2,e2⟩:=vt (wt E F s' c')
 obtain ⟨x3,y3,z3,e3⟩:=vt (wt E F g K)
 obtain ⟨x4,y4,z4,e4⟩:=vt (wt E F (1 - g) K)
 rw [e1] at w1 lf
 rw [e2] at w2 lf
 rw [e3] at w3 mn
 rw [e4] at mn lf
 simp_arith [cf',ea,ka,w1,w2,w3,mn,lf]
theorem ro {E F s c s' c' g y:Int} (h:Sz E F) (hs:0<=s/\s<=1) (hs':0<=s'/\s'<=1) (c0:0<=c) (c1:c<pw ↥3 - pw F) (d0:0<=c') (d1:c'<pw ↥3 - pw F)
  (ea:cy [.tup [.int E,.int F],.str (PySem.Str.ofString "even"),.int ↥24,.int (s'*pw ↥3+c')]=.ok (.tup [.int (g*pw ↥3+(pw ↥3 - pw F)),.int y])) (hg:0<=g/\g<=1) :
  bz [.tup [.int E,.int F],.int ↥24,.int (s'*pw ↥3+c')]=.ex "NoLeft":=by
 have cf:=du (xs:=[(s,c),(s',c')]) h (show 2<=1000 by decide) (fun x hx=>by
  rcases List.mem_cons.mp hx with e | hx
  ·subst e;exact ⟨hs,c0,c1⟩
  ·rcases List.mem_cons.mp hx with e | hx
   ·subst e;exact ⟨hs',d0,d1⟩
   ·cases hx)
 have cf':aF [.tup [.int E,.int F],.lst [.int ↥24,.int (s'*pw ↥3+c')]]=.ok .non:=cf
 have ka:=F6 (y:=y) h hg
 unfold bz eu
 simp_arith [cf',ea,ka]
theorem kv (i:Int):di [.int i]=.ok ↥32:=by
 unfold di eS
 simp_arith []
theorem Ap {E F c:Int} (h:Sz E F) (h0:0<=c) (h1:c<pw ↥3):dj [.tup [.int E,.int F],.int c]=.ok (.int (vl F c)):=by
 obtain ⟨k1,k2,k3,k4⟩:=id h
 obtain ⟨v1,v2⟩:=wD h h0 h1
 have v3:=mU h
 have v4:=xk h
 obtain ⟨r0,r1⟩:=C3 F c
 unfold fig at r0 r1
 have n1:nb (pw F+c%pw F)<=128:=mI ⋯ ⋯
 unfold dj eT vl
 by_cases g:c / pw F=0
 ·simp_arith [show (0:Int)<=F by omega,eq_true g]
 ·simp_arith [show (0:Int)<=F by omega,g,mf (k:=F) ⋯ ⋯,ah,bO (i:=pw F+c%pw F) (j:=c / pw F - 1) ⋯ ⋯]
theorem yq {E F b:Int} (h:Sz E F):aD [.tup [.int E,.int F],.int b]=.ok (.int (lnn E F b)):=by
 obtain ⟨h1,h2,h3,h4⟩:=id h
 have hv:=Ap (c:=b%pw ↥3) h (Ka (b:=b)).1 (Ka (b:=b)).2
 unfold aD gy lnn cd
 by_cases g:pw ↥3<=b
 ·simp_arith [mf (k:=E+F) ⋯ ⋯,ah,hv,g]
 ·simp_arith [mf (k:=E+F) ⋯ ⋯,ah,hv,g]
theorem wN {E F:Int} {xs:List ↥12} (w:Wy) {r:R D} (hr:aq [.tup [.int E,.int F],.str w.s,.lst [],.lst ↥26]=r) (hk:∃ d,r=.ok d) :
  eJ [.tup [.int E,.int F],.str w.s,.lst ↥26]=r:=by
 obtain ⟨d,rfl⟩:=hk
 unfold eJ kh
 simp_arith [hr]
theorem vT {E F s u c:Int} (h:Sz E F) (hs:0<=s/\s<=1) (u0:0<=u) (u1:u<pw ↥3 - pw F) (hc:nb c<=2^20):∃ s' v,bQ [.tup [.int E,.int F],.int (s*pw ↥3+u),.int c]=.ok (.int (s'*pw ↥3+v))/\(0<=s'/\s'<=1)/\0<=v/\v<pw ↥3 - pw F:=by
 obtain ⟨k1,k2,k3,k4⟩:=id h
 have hh:=cC h
 have hQ:=ah F
 have hH:=ah ↥3
 have eM:=end_is h
 have s1:=mf (k:=E+F) ⋯ ⋯
 have s2:=mf (k:=F) ⋯ ⋯
 have n1:nb (pw ↥3)<=128:=gC (c:=127) ⋯
 have m2:=cz (MulOk.of (i:=2) (j:=pw ↥3) (a:=2) ↥2 n1 ↥2)
 have q1:=(fo (E:=E) (F:=F) hs u0 ⋯).1
 have sd:0<=c / 4%2/\c / 4%2<=1:=⋯
 have ms:=cz (iw (t:=pw ↥3) sd.1 sd.2 (Nat.le_trans n1 ↥2))
 have p2:0<2*pw ↥3:=⋯
 unfold bQ dO
 by_cases g0:c%4=0
 ·have e:(s*pw ↥3+u+pw ↥3)%(2*pw ↥3)=(1 - s)*pw ↥3+u:=by
   rcases (by omega:s=0\/s=1) with e | e<;>subst e
   ·rw [Int.zero_mul,Int.zero_add,Int.sub_zero,Int.one_mul,Int.emod_eq_of_lt ⋯ ⋯]
    omega
   ·rw [Int.one_mul,Int.sub_self,Int.zero_mul,Int.zero_add,show pw ↥3+u+pw ↥3=u+2*pw ↥3 by omega,Int.add_emod_right,Int.emod_eq_of_lt u0 ⋯]
  exact ⟨1 - s,u,by simp_arith [s1,s2,eq_true g0,m2,p2,e],⋯,u0,u1⟩
 by_cases g1:c%4=1
 ·exact ⟨c / 4%2,max (u - 1 - c / 8%3) 0,by simp_arith [s1,s2,g0,hH,q1,eq_true g1,show ¬ c%4=2 by omega,show ¬ c%4=3 by omega,ms],sd,⋯,⋯⟩
 by_cases g2:c%4=2
 ·exact ⟨c / 4%2,min (u+1+c / 8%3) (pw ↥3 - pw F - 1),by simp_arith [s1,s2,g0,hH,q1,g1,eq_true g2,show ¬ c%4=3 by omega,ms],sd,⋯,⋯⟩
 ·have g3:c%4=3:=⋯
  have c8:nb (c / 8)<=2^20:=lh ↥2 hc
  have mm:=cz (MulOk.of (i:=c / 8) (j:=73846150927364518273645509182736455091829) (a:=2^20) (b:=200) c8 ↥2 ↥2)
  have r0:=Int.emod_nonneg (c / 8*73846150927364518273645509182736455091829) (show pw F≠0 by omega)
  have r1:=Int.emod_lt_of_pos (c / 8*73846150927364518273645509182736455091829) hQ
  have sr:=xF (i:=u) (j:=F) ⋯
  have f0:=Int.ediv_nonneg u0 (Int.le_of_lt hQ)
  have f1:u / pw F<pw E - 1:=Int.ediv_lt_of_lt_mul hQ (by rw [eM];exact u1)
  have nf:nb (u / pw F)<=16:=mI f0 (by have:=mU h;omega)
  have sl:=bO (i:=u / pw F) (j:=F) ⋯ ⋯
  have b0:=Int.mul_nonneg f0 (Int.le_of_lt hQ)
  have b1:u / pw F*pw F+pw F<=pw ↥3 - pw F:=by
   have:u / pw F*pw F+pw F=(u / pw F+1)*pw F:=by rw [Int.add_mul,Int.one_mul]
   rw [this,<-eM]
   exact Int.mul_le_mul_of_nonneg_right ⋯ (Int.le_of_lt hQ)
  generalize hv:c / 8*73846150927364518273645509182736455091829%pw F=v at *
  exact ⟨c / 4%2,u / pw F*pw F+v,by simp_arith [s1,s2,g0,hH,q1,g1,g2,eq_true g3,mm,hQ,hv,sr,sl,ms],sd,⋯,⋯⟩
theorem Ih {Y d F:Int} (d0:0<=d) (e:vl F d=if Y<0 then -Y else Y):(if (if Y<0 then (1:Int) else 0)=1 then -(vl F d) else vl F d)=Y:=by
 by_cases g:Y<0
 ·rw [if_pos g] at e ⊢
  rw [if_pos rfl]
  omega
 ·rw [if_neg g] at e ⊢
  rw [if_neg ↥2]
  exact e
def lsT (F:Int):List ↥12->Int
 | []=>0
 | x::r=>(if x.1=1 then -(vl F x.2) else vl F x.2)+lsT F r
theorem Pq {E F:Int} (h:Sz E F):∀ xs:List ↥12,(∀ x∈xs,0<=x.2)->dg (2*lo E F) (fts E F [] xs)=lsT F xs*pw (-(lo E F))
 | [],_=>by show (0:Int)=0*_;rw [Int.zero_mul]
 | x::r,hx=>by
  have i:=Pq h r fun y hy=>hx y (.tail _ hy)
  show tv (2*lo E F) (wt E F x.1 x.2)+dg (2*lo E F) (fts E F [] r)=(_+lsT F r)*_
  rw [i,wy h (hx x (.head _)),Int.add_mul]
theorem yJ {E F:Int}:∀ (xs:List ↥12) (a:Int),(∀ x∈xs,rg E F x)->(xs.map fun x=>lnn E F (nI E F x)).foldl (· + ·) a=a+lsT F xs
 | [],a,_=>by show a=a+0;omega
 | x::r,a,hx=>by
  rw [List.map_cons,List.foldl_cons,yJ r _ fun y m=>hx y (.tail _ m)]
  have c:=hx x (.head _)
  show a+lnn E F (x.1*pw ↥3+x.2)+lsT F r=a+(_+lsT F r)
  rw [lq c.1 c.2.1 c.2.2,Int.add_assoc]
theorem uF {a b:Int} (ha:0<=a) (hb:0<=b):∃ x,CS (.int a) (.int b)=.ok (.int x)/\0<=x:=by
 unfold CS
 simp only
 rw [if_pos ⟨ha,hb⟩]
 exact ⟨_,rfl,⋯⟩
theorem zA {w:Wy} {E F s c s' c' x y:Int} (h:Sz E F) (hs:0<=s/\s<=1) (hs':0<=s'/\s'<=1) (o:Kv w E F s c s' c' x y):In E F x/\0<=y:=by
 have hh:=cC h
 have hQ:=ah F
 have e2:=ja (F:=F) h.2.2.1
 have hq1:=ah (F - 1)
 have nnI:In E F (pw ↥3 - pw F+pw (F - 1)):=by
  have:=(av (s:=0) (c:=pw ↥3 - pw F+pw (F - 1)) h ↥2 ⋯ ⋯).1
  rw [Int.zero_mul,Int.zero_add] at this
  exact this
 have enI:∀ g:Int,0<=g/\g<=1->In E F (g*pw ↥3+(pw ↥3 - pw F)):=fun g hg=>(av (c:=pw ↥3 - pw F) h hg ⋯ ⋯).1
 unfold Kv at o
 split at o
 ·rw [o.1,o.2];exact ⟨nnI,by decide⟩
 ·split at o
  ·split at o
   ·rw [o.1,o.2];exact ⟨nnI,by decide⟩
   ·rw [o.1,o.2];exact ⟨enI s hs,by decide⟩
  ·split at o
   ·rw [o.1,o.2];exact ⟨enI s' hs',by decide⟩
   ·by_cases z:(if s=1 then -(vl F c) else vl F c)+(if s'=1 then -(vl F c') else vl F c')=0
    ·obtain ⟨o1,o2⟩:=o.1 z
     rw [o1,o2]
     have:=(av (s:=if s'=s then s else if w.s=PySem.Str.ofString "down" then 1 else 0) (c:=0) h (by split;exact hs;split<;>decide) ↥2 ⋯).1
     rw [Int.add_zero] at this
     exact ⟨this,by decide⟩
    ·obtain ⟨k,r,o1,o2,a⟩:=o.2 z
     rw [o1,o2]
     generalize (if s=1 then -(vl F c) else vl F c)+(if s'=1 then -(vl F c') else vl F c')=X at *
     have i:=CD (w:=w) (s:=if X<0 then 1 else 0) (r:=r) h a.1
     exact ⟨(av (c:=stK w E F ↥38 k r) h (by split<;>decide) i.1 ⋯).1,H0⟩
theorem Bt {bs:List Int}:oEq (.lst (bs.map D.int)) (.lst (bs.map D.int))=.ok ↥32:=by
 have p:D.pl 8 (.lst (bs.map D.int))=true:=by
  unfold D.pl
  exact kN bs
 unfold oEq D.cmp
 rw [p]
 unfold D.beq
 rw [iH]
 rfl
theorem lC {l:List Int} {b:Int}:oIx (.lst ((l++[b]).map D.int)) (.int (-1))=.ok (.int b):=by
 have e0:ixN ((l++[b]).map D.int).length (-1)=some l.length:=by
  unfold ixN
  rw [List.length_map,List.length_append,if_neg ↥2,if_pos (by show -((l.length+1:Nat):Int) <= -1;omega)]
  congr 1
  show (-1+((l.length+1:Nat):Int)).toNat=_
  rw [show (-1+((l.length+1:Nat):Int))=(l.length:Int) by omega]
  rfl
 unfold oIx
 simp only [e0]
 rw [Option.bind_some,List.getElem?_map,List.getElem?_append_right ↥23,Nat.sub_self]
 rfl
theorem ug {p r:List Int} {b:Int}:oIx (.lst ((p++b::r).map D.int)) (.int p.length)=.ok (.int b):=js (by rw [List.getElem?_map,List.getElem?_append_right ↥23,Nat.sub_self];rfl)
theorem zv {i:Nat} {δ:Dt} {x y:Int}:GV i δ (.ok (.tup [.int x,.int y]))=.nx (δ.set i (some (.tup [.int x,.int y]))):=rfl
theorem AV {a b:Int} (h:a<b):p6 a b=.int a::p6 (a+1) b:=by
 unfold p6
 rw [show (b - a).toNat=(b - (a+1)).toNat+1 by omega,List.range_succ_eq_map,List.map_cons,List.map_map]
 congr 1
 ·show D.int (a+((0:Nat):Int))=_
  rw [show a+((0:Nat):Int)=a by omega]
 ·refine List.map_congr_left fun k _ => ?_
  show D.int (a+((k+1:Nat):Int))=_
  rw [show a+((k+1:Nat):Int)=a+1+k by omega]
theorem EG {a b:Int} (h:b<=a):p6 a b=[]:=by
 unfold p6
 rw [show (b - a).toNat=0 by omega]
 rfl
def sv (F:Int) (x:Int×Int):Int:=if x.1=1 then -(vl F x.2) else vl F x.2
def Stp (E F:Int) (x b z l:Int×Int):Prop:=FnOk E F z/\FnOk E F l/\(∃ y,0<=y/\cy [.tup [.int E,.int F],.str Wy.even.s,.int (nI E F x),.int (nI E F b)]=.ok (.tup [.int (nI E F z),.int y]))/\bz [.tup [.int E,.int F],.int (nI E F x),.int (nI E F b)]=.ok (.tup [.int (nI E F z),.int (nI E F l)])/\sv F z+sv F l=sv F x+sv F b
def Non (E F:Int) (x b:Int×Int):Prop:=bz [.tup [.int E,.int F],.int (nI E F x),.int (nI E F b)]=.ex "NoLeft"/\∃ g y,(0<=g/\g<=1)/\0<=y/\cy [.tup [.int E,.int F],.str Wy.even.s,.int (nI E F x),.int (nI E F b)]=.ok (.tup [.int (nI E F (g,pw ↥3 - pw F)),.int y])
theorem BE {E F s c s' c':Int} (h:Sz E F) (hs:0<=s/\s<=1) (hs':0<=s'/\s'<=1) (c0:0<=c) (c1:c<pw ↥3 - pw F) (d0:0<=c') (d1:c'<pw ↥3 - pw F):Non E F (s,c) (s',c')\/∃ z l,Stp E F (s,c) (s',c') z l:=by
 obtain ⟨k1,k2,k3,k4⟩:=id h
 have hh:=cC h
 have hQ:=ah F
 have hH:=ah ↥3
 have ws:Wy.even.s=PySem.Str.ofString "even":=rfl
 obtain ⟨x,y,ea,o⟩:=uM .even h hs hs' c0 (show c<pw ↥3 by omega) d0 (show c'<pw ↥3 by omega)
 have y0:=(zA h hs hs' o).2
 rw [ws] at ea
 unfold Kv at o
 rw [if_neg ⋯,if_neg ⋯,if_neg ⋯] at o
 have v1:=tq (x:=c) h c0 ⋯
 have v2:=tq (x:=c') h d0 ⋯
 have eX:(if s=1 then -(vl F c) else vl F c)+(if s'=1 then -(vl F c') else vl F c')=sm2 F s c s' c':=rfl
 have eX':sm2 F s' c' s c=sm2 F s c s' c':=by unfold sm2;exact Int.add_comm _ _
 have nX:nb (sm2 F s c s' c')<=100000:=by
  have a1:nb (if s=1 then -(vl F c) else vl F c)<=40000:=by rw [Bz];exact v1
  have a2:nb (if s'=1 then -(vl F c') else vl F c')<=40000:=by rw [Bz];exact v2
  have:=ud a1 a2
  rw [<- eX]
  omega
 rw [eX] at o
 have hT:(c<=c'->(if sm2 F s c s' c'<0 then -(sm2 F s c s' c') else sm2 F s c s' c')=vl F c'+vl F c\/(if sm2 F s c s' c'<0 then -(sm2 F s c s' c') else sm2 F s c s' c')=vl F c' - vl F c)/\(c'<=c->(if sm2 F s c s' c'<0 then -(sm2 F s c s' c') else sm2 F s c s' c')=vl F c+vl F c'\/(if sm2 F s c s' c'<0 then -(sm2 F s c s' c') else sm2 F s c s' c')=vl F c - vl F c'):=by
  have p1:=fm (F:=F) c0
  have p2:=fm (F:=F) d0
  have m1:=(kz (F:=F) c0 d0).1
  have m2:=(kz (F:=F) d0 c0).1
  unfold sm2
  constructor
  ·intro q
   have:=m1.mpr q
   rcases (by omega:s=0\/s=1) with e | e<;>rcases (by omega:s'=0\/s'=1) with e' | e'<;>subst e e'<;>simp<;>split<;>omega
  ·intro q
   have:=m2.mpr q
   rcases (by omega:s=0\/s=1) with e | e<;>rcases (by omega:s'=0\/s'=1) with e' | e'<;>subst e e'<;>simp<;>split<;>omega
 generalize hX:sm2 F s c s' c'=X at *
 have nA:nb (if X<0 then -X else X)<=100000:=by rw [Bz];exact nX
 have vt:=(fm (F:=F) (c:=pw ↥3 - pw F - 1) ⋯).1
 have vt':=fm (F:=F) (c:=pw ↥3 - pw F) ⋯
 by_cases g1:vl F (pw ↥3 - pw F - 1)+vl F (pw ↥3 - pw F)<=2*(if X<0 then -X else X)
 ·have X0:X≠0:=fun z=>by rw [z] at g1;simp at g1;omega
  obtain ⟨k,r,o1,o2,a⟩:=o.2 X0
  have tp:=(uy (g:=if X<0 then 1 else 0) h a).mp g1
  rw [tp] at o1
  rw [o1] at ea
  have no:=ro h hs hs' c0 c1 d0 d1 ea (by split<;>decide)
  exact .inl ⟨no,if X<0 then 1 else 0,y,by split<;>decide,y0,by rw [ws];exact ea⟩
 ·have res:∃ g K d yy,(0<=g/\g<=1)/\0<=K/\K<pw ↥3 - pw F/\x=g*pw ↥3+K/\y=yy/\(yy=0\/yy=1\/yy=3)/\0<=d/\d<pw ↥3 - pw F/\(vl F d=if X - ↥19<0 then -(X - ↥19) else X - ↥19)/\(X=0->g=(if s'=s then s else 0)/\K=0/\d=0):=by
   by_cases X0:X=0
   ·obtain ⟨o1,o2⟩:=o.1 X0
    have nd:¬ Wy.even.s=PySem.Str.ofString "down":=by decide
    rw [if_neg nd] at o1
    refine ⟨if s'=s then s else 0,0,0,0,by split<;>omega,⋯,⋯,by rw [o1,Int.add_zero],o2,.inl rfl,⋯,⋯,?_,fun _=>⟨rfl,rfl,rfl⟩⟩
    rw [X0,gO]
    simp
   ·obtain ⟨k,r,o1,o2,a⟩:=o.2 X0
    have tp:=uy (g:=if X<0 then 1 else 0) h a
    have hg:(0:Int)<=↥38/\(if X<0 then (1:Int) else 0)<=1:=by split<;>decide
    have i:=CD (w:=.even) (s:=if X<0 then 1 else 0) (r:=r) h a.1
    have nK:¬ stK .even E F ↥38 k r=pw ↥3 - pw F:=fun z=>g1 (tp.mpr z)
    have kl:k<pw ↥3 - pw F:=by
     refine Classical.byContradiction fun z => ?_
     exact nK (by rw [CG ⋯];rfl)
    have nr:=yd (g:=if X<0 then 1 else 0) h (F3 a.2.2.2) kl
    have fF:stF .even E F ↥38 k r=0\/stF .even E F ↥38 k r=1\/stF .even E F ↥38 k r=3:=by
     rw [Ia kl]
     split
     ·exact .inl rfl
     ·split
      ·exact .inr (.inr rfl)
      ·exact .inr (.inl rfl)
    obtain ⟨d,q0,q1,qe⟩:∃ d,0<=d/\d<pw ↥3 - pw F/\vl F d=if (if X<0 then -X else X)<vl F (stK .even E F ↥38 k r) then vl F (stK .even E F ↥38 k r) - (if X<0 then -X else X) else (if X<0 then -X else X) - vl F (stK .even E F ↥38 k r):=by
     by_cases cc:c<=c'
     ·obtain ⟨d,q0,q1,qe⟩:=uf h c0 cc (hT.1 cc) a nr
      exact ⟨d,q0,⋯,qe⟩
     ·obtain ⟨d,q0,q1,qe⟩:=uf h d0 (show c'<=c by omega) (hT.2 ⋯) a nr
      exact ⟨d,q0,⋯,qe⟩
    refine ⟨if X<0 then 1 else 0,_,d,_,hg,i.1,⋯,o1,o2,fF,q0,q1,?_,fun z=>absurd z X0⟩
    rw [qe]
    generalize vl F (stK .even E F ↥38 k r)=V at *
    by_cases gx:X<0
    ·simp only [if_pos gx,if_true]
     split<;>split<;>omega
    ·simp only [if_neg gx]
     rw [if_neg (show ¬ (0:Int)=1 by decide)]
     split<;>split<;>omega
  obtain ⟨g,K,d,yy,hg,K0,K1,ex,ey,hy,q0,q1,qe,z0⟩:=res
  subst ex ey
  have sl:=rq h hs hs' c0 c1 d0 d1 ea hg K0 K1 hy q0 q1 (by rw [hX];exact qe)
  rw [hX] at sl
  have sv':=Ih q0 qe
  have hb':∀ Y:Int,(0:Int)<=(if Y<0 then 1 else 0)/\(if Y<0 then (1:Int) else 0)<=1:=fun Y=>by split<;>decide
  refine .inr ⟨(g,K),(if X - ↥19<0 then 1 else 0,d),⟨hg,K0,K1⟩,⟨hb' _,q0,q1⟩,⟨y,y0,by rw [ws];exact ea⟩,sl,?_⟩
  have key:↥19+(if (if X - ↥19<0 then (1:Int) else 0)=1 then -(vl F d) else vl F d)=X:=by rw [sv'];omega
  exact key.trans eX.symm
inductive Tk (E F:Int):Int×Int->List ↥12->List ↥12->List ↥12->Prop
 | nil {t:Int×Int}:Tk E F t [] [] []
 | cons {t b z l:Int×Int} {bs ss ls:List ↥12}:Stp E F t b z l->Tk E F z bs ss ls->Tk E F t (b::bs) (z::ss) (l::ls)
inductive Bad (E F:Int):Int×Int->List ↥12->Prop
 | here {t b:Int×Int} {bs:List ↥12}:Non E F t b->Bad E F t (b::bs)
 | more {t b z l:Int×Int} {bs:List ↥12}:Stp E F t b z l->Bad E F z bs->Bad E F t (b::bs)
theorem HS {E F:Int} (h:Sz E F):∀ (bs:List ↥12) (t:Int×Int),FnOk E F t->(∀ b∈bs,FnOk E F b)->(∃ ss ls,Tk E F t bs ss ls)\/Bad E F t bs
 | [],t,_,_=>.inl ⟨[],[],.nil⟩
 | b::bs,t,ht,hb=>by
  obtain ⟨t1,t2,t3⟩:=ht
  obtain ⟨b1,b2,b3⟩:=hb b (.head _)
  rcases BE h t1 b1 t2 t3 b2 b3 with n | ⟨z,l,st⟩
  ·exact .inr (.here n)
  ·rcases HS h bs z st.1 fun c m=>hb c (.tail _ m) with ⟨ss,ls,k⟩ | k
   ·exact .inl ⟨_,_,.cons st k⟩
   ·exact .inr (.more st k)
theorem Tk.len {E F:Int} {t:Int×Int} {bs ss ls:List ↥12} (h:Tk E F t bs ss ls):ss.length=bs.length/\ls.length=bs.length:=by
 induction h with
 | nil=>exact ⟨rfl,rfl⟩
 | cons _ _ ih=>exact ⟨by rw [List.length_cons,List.length_cons,ih.1],by rw [List.length_cons,List.length_cons,ih.2]⟩
theorem Tk.fin {E F:Int} {t:Int×Int} {bs ss ls:List ↥12} (h:Tk E F t bs ss ls):(∀ x∈ss,FnOk E F x)/\∀ x∈ls,FnOk E F x:=by
 induction h with
 | nil=>exact ⟨fun _ m=>(nomatch m),fun _ m=>(nomatch m)⟩
 | cons st _ ih =>
  refine ⟨fun x m => ?_,fun x m => ?_⟩
  ·rcases List.mem_cons.mp m with e | m
   ·rw [e];exact st.1
   ·exact ih.1 x m
  ·rcases List.mem_cons.mp m with e | m
   ·rw [e];exact st.2.1
   ·exact ih.2 x m
theorem Tk.sum {E F:Int} {t:Int×Int} {bs ss ls:List ↥12} (h:Tk E F t bs ss ls):sv F t+lsT F bs=sv F ((t::ss).getLast (by simp))+lsT F ls:=by
 induction h with
 | nil=>rfl
 | @cons t b z l bs ss ls st _ ih =>
  have e:=st.2.2.2.2
  rw [List.getLast_cons (by simp)]
  show sv F t+(sv F b+lsT F bs)=_+(sv F l+lsT F ls)
  omega
theorem EF {E F q:Int} {cs:List Int} (h:Sz E F) (hl:cs.length<=63) (hc:∀ c∈cs,nb c<=2^20) (hq:nb q<=2^20) :
  ∃ xs:List ↥12,cL [.tup [.int E,.int F],.lst (cs.map .int),.int q]=.ok (.lst ↥26)/\(∀ x∈xs,FnOk E F x)/\xs.length<=200/\0<xs.length:=by
 have fli:∀ i:Int,D.flat (.int i)=true:=fun _=>rfl
 have ff:∀ c,nb c<=2^20->∃ x,FnOk E F x/\aM [.tup [.int E,.int F],.int c]=.ok (.int (nI E F x)):=fun c m=>by
  obtain ⟨s,u,e,hs,u0,u1⟩:=qr h m
  exact ⟨(s,u),⟨hs,u0,u1⟩,e⟩
 unfold cL dN
 generalize hbody:C0 (td _ _) _ _=body
 have loop:∀ (l:List Int),(∀ c∈l,nb c<=2^20)->∀ (ys:List ↥12) (z:Option D),(∀ x∈ys,FnOk E F x)->ys.length+l.length<=63->(z=none\/∃ c,z=some (.int c)) ->
   ∃ (ys':List ↥12) (z':Option D),forL 4 body (l.map D.int) [some ↥6,some (.lst (cs.map .int)),some (.int q),some (.own ((ys.map ↥13).map .int)),z]=.nx [some ↥6,some (.lst (cs.map .int)),some (.int q),some (.own ((ys'.map ↥13).map .int)),z']/\(∀ x∈ys',FnOk E F x)/\ys'.length<=63/\(z'=none\/∃ c,z'=some (.int c)):=by
  intro l
  induction l with
  | nil=>exact fun _ ys z hy hyl hz=>⟨ys,z,rfl,hy,by simpa using hyl,hz⟩
  | cons c r ih =>
   intro hd ys z hy hyl hz
   rw [List.length_cons] at hyl
   have n4:nb (c / 4)<=2^20:=lh ↥2 (hd c (.head _))
   obtain ⟨x,hx,ef⟩:=ff (c / 4) n4
   have add:∀ x,FnOk E F x->body [some ↥6,some (.lst (cs.map .int)),some (.int q),some (.own ((ys.map ↥13).map .int)),some (.int c)]=.nx [some ↥6,some (.lst (cs.map .int)),some (.int q),some (.own ((ys.map ↥13).map .int++[.int (nI E F x)])),some (.int c)]->∃ (ys':List ↥12) (z':Option D),forL 4 body ((c::r).map D.int) [some ↥6,some (.lst (cs.map .int)),some (.int q),some (.own ((ys.map ↥13).map .int)),z]=.nx [some ↥6,some (.lst (cs.map .int)),some (.int q),some (.own ((ys'.map ↥13).map .int)),z']/\(∀ x∈ys',FnOk E F x)/\ys'.length<=63/\(z'=none\/∃ c,z'=some (.int c)):=fun x hx e=>by
    obtain ⟨ys',z',e',rest⟩:=ih (fun c m=>hd c (.tail _ m)) (ys++[x]) (some (.int c)) (fun y m=>by
     rcases List.mem_append.mp m with m | m
     ·exact hy y m
     ·rw [List.mem_singleton.mp m];exact hx) (by rw [List.length_append];show ys.length+1+r.length<=63;omega) (.inr ⟨c,rfl⟩)
    refine ⟨ys',z',?_,rest⟩
    rw [List.map_cons,aP]
    show trn (body [some ↥6,some (.lst (cs.map .int)),some (.int q),some (.own ((ys.map ↥13).map .int)),some (.int c)]) _=_
    rw [e,tG,<-e',List.map_append,List.map_append]
    rfl
   have ln:((ys.map ↥13).map D.int).length=ys.length:=by rw [List.length_map,List.length_map]
   have lt:((ys.map ↥13).map D.int).length<100000:=⋯
   by_cases g:c%4=3
   ·rcases List.eq_nil_or_concat ys with rfl | ⟨ys0,y,rfl⟩
    ·refine add x hx ?_
     subst hbody
     simp_arith [eq_true g,ef,List.map_nil,eZ (i:=3) (ds:=[]) (fli (nI E F x)) ↥2]
    ·obtain ⟨s2,v2,eb,hs2,w0,w1⟩:=vT (c:=c / 4) h (hy y (by simp)).1 (hy y (by simp)).2.1 (hy y (by simp)).2.2 n4
     have il:=lC (l:=ys0.map ↥13) (b:=nI E F y)
     have e1:(ys0.concat y).map ↥13=ys0.map ↥13++[nI E F y]:=by rw [List.concat_eq_append,List.map_append];rfl
     rw [e1] at ln lt add ⊢
     have p0:(0:Int)<(ys0.concat y).length:=by rw [List.length_concat];omega
     refine add (s2,v2) ⟨hs2,w0,w1⟩ ?_
     generalize (ys0.map ↥13++[nI E F y]).map D.int=L at *
     subst hbody
     have eb':bQ [.tup [.int E,.int F],.int (nI E F y),.int (c / 4)]=.ok (.int (nI E F (s2,v2))):=eb
     simp_arith [eq_true g,ln,p0,il,eb',eZ (fli _) lt]
   ·refine add x hx ?_
    generalize (ys.map ↥13).map D.int=L at *
    subst hbody
    simp_arith [g,ef,eZ (fli _) lt]
 obtain ⟨ys,z,e,hy,hyl,hz⟩:=loop cs hc [] none (fun _ m=>nomatch m) (by show 0+cs.length<=63;omega) (.inl rfl)
 rw [List.map_nil,List.map_nil] at e
 have ll:(cs.map D.int).length<=100000:=by rw [List.length_map];omega
 have k0:0<=1+q%3/\1+q%3<=3:=⋯
 have fin:∀ ys:List ↥12,(∀ x∈ys,FnOk E F x)->ys.length<=64->0<ys.length->∃ xs:List ↥12,(∃ M,Bf (.lst ((ys.map ↥13).map D.int)) (.int (1+q%3))=.ok (.lst M)/\EV.cut M none (some 200)=(xs.map ↥13).map .int)/\(∀ x∈xs,FnOk E F x)/\xs.length<=200/\0<xs.length:=fun ys hy hyl hyp=>by
  generalize hk:1+q%3=k at *
  have rep:Bf (.lst ((ys.map ↥13).map D.int)) (.int k)=.ok (.lst (((List.replicate k.toNat ys).flatten.map ↥13).map D.int)):=by
   unfold Bf
   simp only
   have:ys.length*k.toNat<=64*3:=Nat.mul_le_mul hyl ⋯
   rw [if_pos ⟨⋯,⋯,by rw [List.length_map,List.length_map];omega⟩]
   congr 2
   rw [List.map_flatten,List.map_flatten,List.map_replicate,List.map_replicate]
  have fl:(List.replicate k.toNat ys).flatten.length=k.toNat*ys.length:=by rw [List.length_flatten,List.map_replicate,List.sum_replicate_nat]
  have fp:0<(List.replicate k.toNat ys).flatten.length:=by rw [fl];exact Nat.mul_pos ⋯ hyp
  refine ⟨EV.cut (List.replicate k.toNat ys).flatten none (some 200),⟨_,rep,?_⟩,fun b m => ?_,?_,?_⟩
  ·rw [<- sN,<-sN]
  ·have m:=yW m
   obtain ⟨l,hl,hb⟩:=List.mem_flatten.mp m
   rw [List.eq_of_mem_replicate hl] at hb
   exact hy b hb
  ·unfold EV.cut
   rw [List.length_take]
   have:sIx (List.replicate k.toNat ys).flatten.length (List.replicate k.toNat ys).flatten.length (some 200)<=200:=by unfold sIx;simp;omega
   omega
  ·generalize (List.replicate k.toNat ys).flatten=M at *
   unfold EV.cut
   have e1:sIx M.length 0 none=0:=rfl
   have e2:sIx M.length M.length (some 200)=min 200 M.length:=rfl
   rw [e1,e2,List.length_take,List.drop_zero]
   omega
 by_cases g:ys.length=0
 ·have:ys=[]:=List.eq_nil_of_length_eq_zero g
  subst this
  obtain ⟨x,hx,ef⟩:=ff q hq
  obtain ⟨xs,a,b⟩:=fin [x] (fun y m=>by rw [List.mem_singleton.mp m];exact hx) (show 1<=64 by decide) (show 0<1 by decide)
  obtain ⟨M,m1,m2⟩:=a
  rw [List.map_cons,List.map_nil,List.map_cons,List.map_nil] at m1
  rw [List.map_nil,List.map_nil] at e
  refine ⟨xs,?_,b⟩
  rcases hz with rfl | ⟨c,rfl⟩<;>simp_arith [ll,e,ef,eZ (i:=3) (ds:=[]) (fli (nI E F x)) ↥2,List.nil_append,m1,m2]
 ·obtain ⟨xs,a,b⟩:=fin ys hy ⋯ ⋯
  obtain ⟨M,m1,m2⟩:=a
  refine ⟨xs,?_,b⟩
  have ln:((ys.map ↥13).map D.int).length=ys.length:=by rw [List.length_map,List.length_map]
  generalize (ys.map ↥13).map D.int=L at *
  rcases hz with rfl | ⟨c,rfl⟩<;>simp_arith [ll,e,ln,show ¬ (ys.length:Int)=0 by omega,m1,m2]
theorem GU {i:Nat} {δ:Dt} {C:String}:GV i δ (.ex C)=.ex C (noOwn δ):=rfl
inductive Ch (E F:Int):Int->List Int->List Int->Prop
 | nil {t:Int}:Ch E F t [] []
 | cons {t b x y:Int} {bs ss:List Int}:cy [.tup [.int E,.int F],.str Wy.even.s,.int t,.int b]=.ok (.tup [.int x,.int y])->Ch E F x bs ss->Ch E F t (b::bs) (x::ss)
theorem Gj {E F:Int} {x:Int×Int} (h:Sz E F) (hx:FnOk E F x):In E F (nI E F x):=(av h hx.1 hx.2.1 (by have:=hx.2.2;have:=ah F;omega)).1
theorem Tk.ch {E F:Int} {t:Int×Int} {bs zs ls:List ↥12} (h:Tk E F t bs zs ls):∀ {ss:List Int},Ch E F (nI E F t) (bs.map ↥13) ss->ss=zs.map ↥13:=by
 induction h with
 | nil=>intro ss c;cases c;rfl
 | cons st _ ih =>
  intro ss c
  cases c with
  | cons e c =>
   obtain ⟨y,_,e'⟩:=st.2.2.1
   rw [e'] at e
   cases e
   rw [ih c]
   rfl
theorem Bad.ch {E F:Int} {t:Int×Int} {bs:List ↥12} (h:Bad E F t bs):∀ {ss:List Int},Ch E F (nI E F t) (bs.map ↥13) ss->∃ g,(0<=g/\g<=1)/\nI E F (g,pw ↥3 - pw F)∈ss:=by
 induction h with
 | here n =>
  intro ss c
  cases c with
  | cons e c =>
   obtain ⟨_,g,y,hg,_,e'⟩:=n
   rw [e'] at e
   cases e
   exact ⟨g,hg,.head _⟩
 | more st _ ih =>
  intro ss c
  cases c with
  | cons e c =>
   obtain ⟨y,_,e'⟩:=st.2.2.1
   rw [e'] at e
   cases e
   obtain ⟨g,hg,m⟩:=ih c
   exact ⟨g,hg,.tail _ m⟩
theorem wJ {E F b:Int} {r:List Int} (h:Sz E F) (hl:r.length<=199) (hb:∀ c∈b::r,In E F c):∃ ss f,fE [.tup [.int E,.int F],.str Wy.even.s,.lst ((b::r).map .int)]=.ok (.tup [.lst ((b::ss).map .int),.int f])/\Ch E F b r ss/\ss.length=r.length/\∀ c∈ss,In E F c:=by
 have cb:=iG h (show (b::r).length<=1000 by rw [List.length_cons];omega) hb
 have fli:∀ i:Int,D.flat (.int i)=true:=fun _=>rfl
 unfold fE iD
 generalize hbody:C0 _ _ _=body
 generalize hL:(b::r).map D.int=L at *
 have loop:∀ (l:List Int),(∀ b∈l,In E F b)->∀ (ss:List Int) (f t:Int) (z5 z6:Option D),In E F t->0<=f->ss.length+l.length<=300->(∃ k,z5=some (.int k))->(z6=none\/∃ a b,z6=some (.tup [.int a,.int b]))->∃ (ss':List Int) (f':Int) (z5' z6':Option D),Ch E F t l ss'/\ss'.length=l.length/\(∀ c∈ss',In E F c)/\forL 5 body (l.map D.int) [some ↥6,some (.str Wy.even.s),some (.lst L),some (.own ((ss++[t]).map .int)),some (.int f),z5,z6]=.nx [some ↥6,some (.str Wy.even.s),some (.lst L),some (.own ((ss++[t]++ss').map .int)),some (.int f'),z5',z6']:=fun l=>by
  induction l with
  | nil=>exact fun _ ss f t z5 z6 _ _ _ h5 h6=>⟨[],f,z5,z6,.nil,rfl,fun _ m=>(nomatch m),by rw [List.append_nil];rfl⟩
  | cons b r ih =>
   intro hc ss f t z5 z6 ht f0 hl h5 h6
   rw [List.length_cons] at hl
   obtain ⟨s,c,hs,c0,c1,et⟩:=nU h ht
   obtain ⟨s',c',hs',d0,d1,eb⟩:=nU h (hc b (.head _))
   obtain ⟨x,y,e,o⟩:=uM .even h hs hs' c0 c1 d0 d1
   obtain ⟨ix,y0⟩:=zA h hs hs' o
   rw [<- et,<-eb] at e
   obtain ⟨f',ef,f0'⟩:=uF f0 y0
   obtain ⟨ss',f2,z5',z6',ch,ln',ins,e'⟩:=ih (fun c m=>hc c (.tail _ m)) (ss++[t]) f' x (some (.int b)) (some (.tup [.int x,.int y])) ix f0' (by rw [List.length_append];show ss.length+1+r.length<=300;omega) ⟨_,rfl⟩ (.inr ⟨_,_,rfl⟩)
   refine ⟨x::ss',f2,z5',z6',.cons e ch,by rw [List.length_cons,List.length_cons,ln'],fun c m => ?_,?_⟩
   ·rcases List.mem_cons.mp m with q | m
    ·rw [q];exact ix
    ·exact ins c m
   have e3:ss++[t]++x::ss'=ss++[t]++[x]++ss':=by simp
   rw [List.map_cons,aP,e3,<-e']
   have il:=lC (l:=ss) (b:=t)
   have e2:(ss++[t]++[x]).map D.int=(ss++[t]).map D.int++[.int x]:=by rw [List.map_append];rfl
   rw [e2]
   have ln:((ss++[t]).map D.int).length=ss.length+1:=by rw [List.length_map,List.length_append];rfl
   have n0:¬ ((ss.length+1:Nat):Int)=0:=⋯
   have lt:((ss++[t]).map D.int).length<100000:=⋯
   generalize (ss++[t]).map D.int=Q at *
   generalize forL 5 body=W at *
   subst hbody
   rcases h6 with rfl | ⟨u,v,rfl⟩<;>simp_arith [ln,n0,il,e,ef,zv,eZ (fli _) lt]
 obtain ⟨ss',f2,z5',z6',ch,ln,ins,e'⟩:=loop r (fun c m=>hb c (.tail _ m)) [] 0 b (some (.int b)) none (hb b (.head _)) (Int.le_refl _) (by show 0+r.length<=300;omega) ⟨_,rfl⟩ (.inl rfl)
 have e:forL 5 body ((b::r).map D.int) [some ↥6,some (.str Wy.even.s),some (.lst L),some (.own []),some (.int 0),none,none]=.nx [some ↥6,some (.str Wy.even.s),some (.lst L),some (.own ((b::ss').map .int)),some (.int f2),z5',z6']:=by
  have e3:b::ss'=[]++[b]++ss':=rfl
  rw [List.map_cons,aP,e3,<-e']
  subst hbody
  simp_arith [eZ (i:=3) (ds:=[]) (fli b) ↥2]
 have ll:((b::r).map D.int).length<=100000:=by rw [List.length_map,List.length_cons];omega
 rw [hL] at ll
 rw [hL] at e
 refine ⟨ss',f2,?_,ch,ln,ins⟩
 generalize (b::ss').map D.int=Z at *
 simp_arith [df .even,cb,ll,e]
theorem AW {a0 a1 z4 z5:Option D} {ds es:List D} (fl:D.flats ds=true) (fl2:D.flats es=true):Kz 2 3 [a0,a1,some (.own ds),some (.own es),z4,z5]=.rt (.tup [.lst ds,.lst es]):=by
 show (if D.flats ds=true/\D.flats es=true then O.rt (.tup [.lst ds,.lst es]) else .bad)=_
 rw [if_pos ⟨fl,fl2⟩]
theorem yt {E F:Int} {b:Int×Int} {r:List ↥12} (h:Sz E F) (hl:r.length<=199) (hb:∀ c∈b::r,FnOk E F c) :
  (∀ zs ls,Tk E F b r zs ls->aT [.tup [.int E,.int F],.lst (((b::r).map ↥13).map .int)]=.ok (.tup [.lst (((b::zs).map ↥13).map .int),.lst ((ls.map ↥13).map .int)]))/\(Bad E F b r->aT [.tup [.int E,.int F],.lst (((b::r).map ↥13).map .int)]=.ex "NoLeft"):=by
 have cf:=du h (show (b::r).length<=1000 by rw [List.length_cons];omega) hb
 have fli:∀ i:Int,D.flat (.int i)=true:=fun _=>rfl
 have nl:¬ ((((b::r).map ↥13).map D.int).length:Int)=0:=by rw [List.length_map,List.length_map,List.length_cons];omega
 have cu:EV.cut (((b::r).map ↥13).map D.int) (some 1) none=(r.map ↥13).map D.int:=by
  unfold EV.cut
  rw [List.map_cons,List.map_cons]
  have e1:sIx (D.int (nI E F b)::(r.map ↥13).map D.int).length 0 (some 1)=1:=by
   unfold sIx
   simp only [List.length_cons]
   rw [if_neg ↥2]
   show min 1 _=1
   omega
  rw [e1,List.drop_succ_cons,List.drop_zero,List.take_of_length_le]
  show _<=(D.int (nI E F b)::(r.map ↥13).map D.int).length - 1
  rw [List.length_cons]
  omega
 have ll:((r.map ↥13).map D.int).length<=100000:=by rw [List.length_map,List.length_map];omega
 have i0:oIx (.lst (((b::r).map ↥13).map D.int)) (.int 0)=.ok (.int (nI E F b)):=KG
 unfold aT eY
 generalize hbody:seq (fP 5 _) _=body
 generalize hL:((b::r).map ↥13).map D.int=L at *
 have one:∀ (ss ms:List Int) (t c z l:Int×Int) (z4 z5:Option D),Stp E F t c z l->ss.length<300->ms.length<300->(z5=none\/∃ a b,z5=some (.tup [.int a,.int b]))->body ([some ↥6,some (.lst L),some (.own ((ss++[nI E F t]).map .int)),some (.own (ms.map .int)),z4,z5].set 4 (some (.int (nI E F c))))=.nx [some ↥6,some (.lst L),some (.own ((ss++[nI E F t]++[nI E F z]).map .int)),some (.own ((ms++[nI E F l]).map .int)),some (.int (nI E F c)),some (.tup [.int (nI E F z),.int (nI E F l)])]:=fun ss ms t c z l z4 z5 st hl hl2 h5=>by
  have e:=st.2.2.2.1
  have il:=lC (l:=ss) (b:=nI E F t)
  have lt:((ss++[nI E F t]).map D.int).length<100000:=by rw [List.length_map,List.length_append];show ss.length+1<100000;omega
  have lt2:(ms.map D.int).length<100000:=by rw [List.length_map];omega
  have e2:(ss++[nI E F t]++[nI E F z]).map D.int=(ss++[nI E F t]).map D.int++[.int (nI E F z)]:=by rw [List.map_append];rfl
  have e3:(ms++[nI E F l]).map D.int=ms.map D.int++[.int (nI E F l)]:=by rw [List.map_append];rfl
  rw [e2,e3]
  generalize (ss++[nI E F t]).map D.int=Q at *
  generalize ms.map D.int=M at *
  show body [some ↥6,some (.lst L),some (.own Q),some (.own M),some (.int (nI E F c)),z5]=_
  subst hbody
  rcases h5 with rfl | ⟨u,v,rfl⟩<;>simp_arith [il,e,zv,eZ (fli _) lt,eZ (fli _) lt2]
 have fr:cD [.int (nI E F b)]=.ok (.lst [.int (nI E F b)]):=rfl
 constructor
 ·intro zs ls tk
  have loop:∀ {t:Int×Int} {l zs ls:List ↥12},Tk E F t l zs ls->∀ (ss ms:List Int) (z4 z5:Option D),ss.length+l.length<=200->ms.length+l.length<=200->(z5=none\/∃ a b,z5=some (.tup [.int a,.int b]))->∃ z4' z5',forL 4 body ((l.map ↥13).map D.int) [some ↥6,some (.lst L),some (.own ((ss++[nI E F t]).map .int)),some (.own (ms.map .int)),z4,z5]=.nx [some ↥6,some (.lst L),some (.own ((ss++[nI E F t]++zs.map ↥13).map .int)),some (.own ((ms++ls.map ↥13).map .int)),z4',z5']:=by
   intro t l zs ls tk
   induction tk with
   | nil=>exact fun ss ms z4 z5 _ _ _=>⟨z4,z5,by rw [List.map_nil,List.append_nil,List.append_nil];rfl⟩
   | @cons t c z l bs zs ls st _ ih =>
    intro ss ms z4 z5 h1 h2 h5
    rw [List.length_cons] at h1 h2
    obtain ⟨z4',z5',e⟩:=ih (ss++[nI E F t]) (ms++[nI E F l]) (some (.int (nI E F c))) (some (.tup [.int (nI E F z),.int (nI E F l)])) (by rw [List.length_append];show ss.length+1+bs.length<=200;omega) (by rw [List.length_append];show ms.length+1+bs.length<=200;omega) (.inr ⟨_,_,rfl⟩)
    refine ⟨z4',z5',?_⟩
    rw [List.map_cons,List.map_cons,aP,one ss ms t c z l z4 z5 st ⋯ ⋯ h5,tG,e]
    simp
  obtain ⟨z4,z5,e⟩:=loop tk [] [] none none (by show 0+r.length<=200;omega) (by show 0+r.length<=200;omega) (.inl rfl)
  rw [List.nil_append,List.nil_append,List.map_cons,List.map_nil] at e
  have e4:[nI E F b]++zs.map ↥13=(b::zs).map ↥13:=rfl
  rw [e4] at e
  have rt:=fun z4 z5=>AW (a0:=some ↥6) (a1:=some (.lst L)) (z4:=z4) (z5:=z5) (de ((b::zs).map ↥13)) (de (ls.map ↥13))
  generalize ((b::zs).map ↥13).map D.int=Z at *
  generalize (ls.map ↥13).map D.int=Y at *
  have e':forL 4 body ((r.map ↥13).map D.int) [some ↥6,some (.lst L),some (.own [.int (nI E F b)]),some (.own []),none,none]=.nx [some ↥6,some (.lst L),some (.own Z),some (.own Y),z4,z5]:=e
  simp_arith [nl,cf,Cv,i0,fr,cu,ll,e',rt]
 ·intro bd
  have loop:∀ {t:Int×Int} {l:List ↥12},Bad E F t l->∀ (ss ms:List Int) (z4 z5:Option D),ss.length+l.length<=200->ms.length+l.length<=200->(z5=none\/∃ a b,z5=some (.tup [.int a,.int b]))->∃ δ,forL 4 body ((l.map ↥13).map D.int) [some ↥6,some (.lst L),some (.own ((ss++[nI E F t]).map .int)),some (.own (ms.map .int)),z4,z5]=.ex "NoLeft" δ:=by
   intro t l tk
   induction tk with
   | @here t c bs n =>
    intro ss ms z4 z5 h1 h2 h5
    have e:=n.1
    have il:=lC (l:=ss) (b:=nI E F t)
    rw [List.map_cons,List.map_cons,aP]
    generalize (ss++[nI E F t]).map D.int=Q at *
    generalize ms.map D.int=M at *
    have st:body [some ↥6,some (.lst L),some (.own Q),some (.own M),some (.int (nI E F c)),z5]=.ex "NoLeft" (noOwn [some ↥6,some (.lst L),some (.own Q),some (.own M),some (.int (nI E F c)),z5]):=by
     subst hbody
     rcases h5 with rfl | ⟨u,v,rfl⟩<;>simp_arith [il,e,GU]
    have st':body ([some ↥6,some (.lst L),some (.own Q),some (.own M),z4,z5].set 4 (some (.int (nI E F c))))=.ex "NoLeft" _:=st
    rw [st',Cz]
    exact ⟨_,rfl⟩
   | @more t c z l bs st _ ih =>
    intro ss ms z4 z5 h1 h2 h5
    rw [List.length_cons] at h1 h2
    obtain ⟨δ,e⟩:=ih (ss++[nI E F t]) (ms++[nI E F l]) (some (.int (nI E F c))) (some (.tup [.int (nI E F z),.int (nI E F l)])) (by rw [List.length_append];show ss.length+1+bs.length<=200;omega) (by rw [List.length_append];show ms.length+1+bs.length<=200;omega) (.inr ⟨_,_,rfl⟩)
    refine ⟨δ,?_⟩
    rw [List.map_cons,List.map_cons,aP,one ss ms t c z l z4 z5 st ⋯ ⋯ h5,tG,e]
  obtain ⟨δ,e⟩:=loop bd [] [] none none (by show 0+r.length<=200;omega) (by show 0+r.length<=200;omega) (.inl rfl)
  have e':forL 4 body ((r.map ↥13).map D.int) [some ↥6,some (.lst L),some (.own [.int (nI E F b)]),some (.own []),none,none]=.ex "NoLeft" δ:=e
  simp_arith [nl,cf,Cv,i0,fr,cu,ll,e']
theorem jh {E F:Int} {xs:List ↥12} (h:Sz E F) (hl:xs.length<=1000) (hx:∀ x∈xs,FnOk E F x):aL [.tup [.int E,.int F],.lst ↥26]=.ok ↥32:=by
 obtain ⟨k1,k2,k3,k4⟩:=id h
 have hH:=ah ↥3
 have hQ:=ah F
 have s1:=mf (k:=E+F) ⋯ ⋯
 have s2:=mf (k:=F) ⋯ ⋯
 have n1:nb (pw ↥3)<=128:=gC (c:=127) ⋯
 have m2:=cz (MulOk.of (i:=2) (j:=pw ↥3) (a:=2) ↥2 n1 ↥2)
 have ll:((xs.map ↥13).map D.int).length<=100000:=by rw [List.length_map,List.length_map];omega
 unfold aL cM
 generalize hbody:ifs (or_ _ _) _ _=body
 generalize hL:(xs.map ↥13).map D.int=L at *
 have loop:∀ (l:List ↥12),(∀ x∈l,FnOk E F x)->∀ z:Option D,∃ z',forL 3 body ((l.map ↥13).map D.int) [some ↥6,some (.lst L),some (.int (pw ↥3)),z]=.nx [some ↥6,some (.lst L),some (.int (pw ↥3)),z']:=fun l=>by
  induction l with
  | nil=>exact fun _ z=>⟨z,rfl⟩
  | cons x r ih =>
   intro hx z
   obtain ⟨z',e⟩:=ih (fun y m=>hx y (.tail _ m)) (some (.int (nI E F x)))
   refine ⟨z',?_⟩
   rw [List.map_cons,List.map_cons,aP,<-e]
   obtain ⟨a,b,c⟩:=hx x (.head _)
   have md:nI E F x%pw ↥3=x.2:=(fo a b ⋯).1
   have lo':0<=nI E F x:=by have:=Int.mul_nonneg a.1 (Int.le_of_lt hH);unfold nI;omega
   have hi':nI E F x<2*pw ↥3:=by
    have:=Int.mul_le_mul_of_nonneg_right a.2 (Int.le_of_lt hH)
    unfold nI
    omega
   have ng:¬ pw ↥3 - pw F<=x.2:=⋯
   generalize nI E F x=N at *
   generalize forL 3 body=W at *
   subst hbody
   simp_arith [kv,m2,lo',hi',hH,md,s2,ng]
 obtain ⟨z',e⟩:=loop xs hx none
 rw [hL] at e
 simp_arith [s1,ll,e]
theorem yM {E F g:Int} {bs:List Int} (h:Sz E F) (hl:bs.length<=1000) (hb:∀ b∈bs,In E F b) (hg:0<=g/\g<=1) (hm:nI E F (g,pw ↥3 - pw F)∈bs):aL [.tup [.int E,.int F],.lst (bs.map .int)]=.ok ↥28:=by
 obtain ⟨k1,k2,k3,k4⟩:=id h
 have hH:=ah ↥3
 have hQ:=ah F
 have hh:=cC h
 have s1:=mf (k:=E+F) ⋯ ⋯
 have s2:=mf (k:=F) ⋯ ⋯
 have n1:nb (pw ↥3)<=128:=gC (c:=127) ⋯
 have m2:=cz (MulOk.of (i:=2) (j:=pw ↥3) (a:=2) ↥2 n1 ↥2)
 have ll:(bs.map D.int).length<=100000:=by rw [List.length_map];omega
 unfold aL cM
 generalize hbody:ifs (or_ _ _) _ _=body
 generalize hL:bs.map D.int=L at *
 have loop:∀ (l:List Int),(∀ x∈l,In E F x)->nI E F (g,pw ↥3 - pw F)∈l->∀ z:Option D,forL 3 body (l.map D.int) [some ↥6,some (.lst L),some (.int (pw ↥3)),z]=.rt ↥28:=fun l=>by
  induction l with
  | nil=>exact fun _ m=>(nomatch m)
  | cons x r ih =>
   intro hx hm z
   obtain ⟨s,c,a,b,c1,ex⟩:=nU h (hx x (.head _))
   have md:x%pw ↥3=c:=by rw [ex];exact (fo a b c1).1
   have lo':0<=x:=by have:=Int.mul_nonneg a.1 (Int.le_of_lt hH);omega
   have hi':x<2*pw ↥3:=by
    have:=Int.mul_le_mul_of_nonneg_right a.2 (Int.le_of_lt hH)
    omega
   rw [List.map_cons,aP]
   by_cases ng:pw ↥3 - pw F<=c
   ·generalize forL 3 body=W at *
    subst hbody
    simp_arith [kv,m2,lo',hi',hH,md,s2,eq_true ng]
   ·have e:=ih (fun y m=>hx y (.tail _ m)) (by
     rcases List.mem_cons.mp hm with q | m
     ·have:=(fo (E:=E) (F:=F) (c:=pw ↥3 - pw F) hg ⋯ ⋯).1
      rw [<- q] at md
      have md':(g*pw ↥3+(pw ↥3 - pw F))%pw ↥3=c:=md
      omega
     ·exact m) (some (.int x))
    rw [<- e]
    generalize forL 3 body=W at *
    subst hbody
    simp_arith [kv,m2,lo',hi',hH,md,s2,ng]
 have e:=loop bs hb hm none
 rw [hL] at e
 simp_arith [s1,ll,e]
theorem tH {E F:Int} {x:Int×Int} (hx:FnOk E F x):lnn E F (nI E F x)=sv F x:=lq hx.1 hx.2.1 (Gk hx).2.2
theorem BI {E F:Int} {b:Int×Int} {r zs ls:List ↥12} (h:Sz E F) (hl:r.length<=199) (hb:∀ c∈b::r,FnOk E F c) (tk:Tk E F b r zs ls) :
  d3 [.tup [.int E,.int F],.lst (((b::r).map ↥13).map .int),.lst (((b::zs).map ↥13).map .int),.tup [.lst (((b::zs).map ↥13).map .int),.lst ((ls.map ↥13).map .int)]]=.ok ↥32:=by
 obtain ⟨lz,ll⟩:=tk.len
 obtain ⟨fz,fl⟩:=tk.fin
 have f1:=jh h (show (b::zs).length<=1000 by rw [List.length_cons];omega) (fun x m=>by
  rcases List.mem_cons.mp m with e | m
  ·rw [e];exact hb b (.head _)
  ·exact fz x m)
 have f2:=jh h (show ls.length<=1000 by omega) fl
 have ne:=tW (bs:=(b::zs).map ↥13)
 have i1:oIx (.lst (((b::zs).map ↥13).map D.int)) (.int 0)=.ok (.int (nI E F b)):=KG
 have i2:oIx (.lst (((b::r).map ↥13).map D.int)) (.int 0)=.ok (.int (nI E F b)):=KG
 have lR:(((b::r).map ↥13).map D.int).length=r.length+1:=by rw [List.length_map,List.length_map,List.length_cons]
 have lL:((ls.map ↥13).map D.int).length=r.length:=by rw [List.length_map,List.length_map,ll]
 have line:∀ i:Int,aD [.tup [.int E,.int F],.int i]=.ok (.int (lnn E F i)):=fun i=>yq h
 unfold d3 gz
 generalize hbody:seq (assign 5 _) _=body
 have loop:∀ {t:Int×Int} {l zs' ls':List ↥12},Tk E F t l zs' ls'->FnOk E F t->(∀ c∈l,FnOk E F c)->∀ (pb ps pl:List Int) (z4 z5:Option D),pb.length=ps.length+1->pb.length=pl.length+1->(b::r).map ↥13=pb++l.map ↥13->(b::zs).map ↥13=ps++nI E F t::zs'.map ↥13->ls.map ↥13=pl++ls'.map ↥13->(z5=none\/∃ k,z5=some (.int k)) ->
   ∃ z4' z5',forL 4 body (p6 pb.length (r.length+1:Nat)) [some ↥6,some (.lst (((b::r).map ↥13).map .int)),some (.lst (((b::zs).map ↥13).map .int)),some (.tup [.lst (((b::zs).map ↥13).map .int),.lst ((ls.map ↥13).map .int)]),z4,z5] =
    .nx [some ↥6,some (.lst (((b::r).map ↥13).map .int)),some (.lst (((b::zs).map ↥13).map .int)),some (.tup [.lst (((b::zs).map ↥13).map .int),.lst ((ls.map ↥13).map .int)]),z4',z5']:=by
  intro t l zs' ls' tk
  induction tk with
  | nil =>
   intro _ _ pb ps pl z4 z5 hp hq er es el _
   have lp:pb.length=r.length+1:=by
    have:=congrArg List.length er
    rw [List.map_nil,List.append_nil,List.length_map,List.length_cons] at this
    exact this.symm
   rw [EG ⋯]
   exact ⟨z4,z5,rfl⟩
  | @cons t c z l bs zs' ls' st _ ih =>
   intro ht hl pb ps pl z4 z5 hp hq er es el h5
   have hc:=hl c (.head _)
   obtain ⟨z4',z5',e⟩:=ih st.1 (fun c m=>hl c (.tail _ m)) (pb++[nI E F c]) (ps++[nI E F t]) (pl++[nI E F l]) (some (.int pb.length)) (some (.int (lnn E F (nI E F t)+lnn E F (nI E F c)))) (by rw [List.length_append,List.length_append];show pb.length+1=ps.length+1+1;omega) (by rw [List.length_append,List.length_append];show pb.length+1=pl.length+1+1;omega) (by rw [er,List.append_assoc];rfl) (by rw [es,List.append_assoc];rfl) (by rw [el,List.append_assoc];rfl) (.inr ⟨_,rfl⟩)
   refine ⟨z4',z5',?_⟩
   have lp:(pb.length:Int)<(r.length+1:Nat):=by
    have:=congrArg List.length er
    rw [List.length_map,List.length_append,List.map_cons,List.length_cons,List.length_cons] at this
    omega
   rw [AV lp,aP,<-e,List.length_append,show ((pb.length+[nI E F c].length:Nat):Int)=(pb.length:Int)+1 from rfl]
   have e1:oIx (.lst (((b::zs).map ↥13).map D.int)) (.int pb.length)=.ok (.int (nI E F z)):=by
    have z':=ug (p:=ps++[nI E F t]) (b:=nI E F z) (r:=zs'.map ↥13)
    rw [List.append_assoc,List.length_append] at z'
    rw [es,hp]
    exact z'
   have e2:oIx (.lst (((b::zs).map ↥13).map D.int)) (.int (pb.length - 1))=.ok (.int (nI E F t)):=by
    rw [es,hp,show ((ps.length+1:Nat):Int) - 1=ps.length by omega]
    exact ug
   have e3:oIx (.lst (((b::r).map ↥13).map D.int)) (.int pb.length)=.ok (.int (nI E F c)):=by
    rw [er]
    exact ug
   have e4:oIx (.lst ((ls.map ↥13).map D.int)) (.int (pb.length - 1))=.ok (.int (nI E F l)):=by
    rw [el,hq,show ((pl.length+1:Nat):Int) - 1=pl.length by omega]
    exact ug
   have eq:lnn E F (nI E F z)+lnn E F (nI E F l)=lnn E F (nI E F t)+lnn E F (nI E F c):=by rw [tH st.1,tH st.2.1,tH ht,tH hc];exact st.2.2.2.2
   clear ih e er es el
   generalize ((b::r).map ↥13).map D.int=RL at *
   generalize ((b::zs).map ↥13).map D.int=SL at *
   generalize (ls.map ↥13).map D.int=LL at *
   generalize (pb.length:Int)=P at *
   generalize forL 4 body=W at *
   subst hbody
   rcases h5 with rfl | ⟨u,rfl⟩<;>simp_arith [e1,e2,e3,e4,line,eq]
 obtain ⟨z4,z5,e⟩:=loop tk (hb b (.head _)) (fun c m=>hb c (.tail _ m)) [nI E F b] [] [] none none rfl rfl rfl rfl rfl (.inl rfl)
 have e':forL 4 body (p6 1 (r.length+1:Nat)) _=_:=e
 generalize ((b::r).map ↥13).map D.int=RL at *
 generalize ((b::zs).map ↥13).map D.int=SL at *
 generalize (ls.map ↥13).map D.int=LL at *
 have l1:((r.length+1:Nat):Int) - 1=r.length:=⋯
 simp_arith [lR,lL,l1,ne,i1,i2,f1,f2,uK (n:=1) (m:=((r.length+1:Nat):Int)) ↥2 ↥2 ⋯ ⋯,e']
theorem zx {a b z3 z4:Option D} {rs ys ws:List D} {c:D} {m m' m9:Int} {q:Bool} {g2 g4 g5 gc6 g7 g9 g8:E} (lr:rs.length<100000) (fr:D.flats rs=true) (ly:ys.length<100000) (lw:ws.length<100000) (h2:g2 [a,b,some (.lst rs),z3,z4]=.ok (.tup [.lst ys,.lst ws]))
  (h4:g4 [a,b,some (.own rs),some (.tup [.lst ys,.lst ws]),z4]=.ok c) (h5:g5 [a,b,some (.lst rs),none,none]=.ok (.int m)) (h6:gc6 [a,b,some (.lst (rs++[.int m])),some (.tup [.lst ys,.lst ws]),some c]=.ok ↥28)
  (h7:g7 [a,b,some (.lst (rs++[.int m])),none,none]=.ok (.int m')) (h9:g9 [a,b,some (.lst (rs++[.int m])),none,none]=.ok (.int m9)) (h8:g8 [a,b,some (.lst (rs++[.int m])),none,none]=.ok (.bl q)) :
  nu 2 3 4 g2 g4 g5 gc6 g7 g9 g8 [a,b,some (.own rs),z3,z4]=.rt (.bl q):=by
 unfold nu
 show JW rs (KC (g2 [a,b,some (.lst rs),z3,z4]) _)=_
 unfold JW
 rw [if_pos ⟨lr,fr⟩,h2]
 show few ys (few ws (okV (g4 [a,b,some (.own rs),some (.tup [.lst ys,.lst ws]),z4]) _))=_
 unfold few
 rw [if_pos ly,if_pos lw,h4]
 show okI (g5 [a,b,some (.lst rs),none,none]) _=_
 rw [h5]
 show okF (gc6 [a,b,some (.lst (rs++[.int m])),some (.tup [.lst ys,.lst ws]),some c]) (okI (g7 [a,b,some (.lst (rs++[.int m])),none,none]) fun _=>okI (g9 [a,b,some (.lst (rs++[.int m])),none,none]) fun _=>okB (g8 [a,b,some (.lst (rs++[.int m])),none,none]))=_
 rw [h6,h7,h9,h8]
 rfl
theorem uL {E F:Int} {b:Int×Int} {r zs ls:List ↥12} (h:Sz E F) (hl:r.length<=199) (hb:∀ c∈b::r,FnOk E F c) (tk:Tk E F b r zs ls):cx [.tup [.int E,.int F],.lst (((b::r).map ↥13).map .int)]=.ok ↥32:=by
 have e:=(yt h hl hb).1 zs ls tk
 obtain ⟨lz,ll⟩:=tk.len
 have lF:∀ l:List Int,nt [.lst (l.map D.int)]=.ok (.lst (l.map .int)):=fun l=>by
  show cD (l.map D.int)=_
  unfold cD
  rw [if_pos (de l)]
 have bn:∀ l l':List Int,oNe (.lst [.lst (l.map D.int),.lst (l'.map .int)]) (.lst [.lst (l.map .int),.lst (l'.map .int)])=.ok ↥28:=fun l l'=>by
  have p:D.pl 8 (.lst [.lst (l.map D.int),.lst (l'.map .int)])=true:=by
   unfold D.pl
   simp only [List.all_cons,List.all_nil,Bool.and_true]
   unfold D.pl
   rw [kN,kN]
   rfl
  unfold oNe D.cmp
  rw [p]
  simp only [D.beq,D.beqs,iH]
  rfl
 have lr:(((b::r).map ↥13).map D.int).length<99999:=by rw [List.length_map,List.length_map,List.length_cons];omega
 have ly:(((b::zs).map ↥13).map D.int).length<100000:=by rw [List.length_map,List.length_map,List.length_cons];omega
 have lw:((ls.map ↥13).map D.int).length<100000:=by rw [List.length_map,List.length_map];omega
 have fr:=de ((b::r).map ↥13)
 have l0:=lF ((b::r).map ↥13)
 have n0:=bn ((b::zs).map ↥13) (ls.map ↥13)
 have ea:((b::r).map ↥13).map D.int++[.int 1]=((b::r).map ↥13++[1]).map .int:=by rw [List.map_append];rfl
 have qe:=Bt (bs:=(b::r).map ↥13++[1])
 rw [<- ea] at qe
 have oa:=oK (xs:=((b::r).map ↥13).map D.int) (ys:=[.int 1]) (by show _+1<=100000;omega)
 have bl:∀ ds,iJ [.lst ds]=.ok (.lst ds):=fun _=>rfl
 generalize ((b::r).map ↥13).map D.int=RL at *
 generalize ((b::zs).map ↥13).map D.int=SL at *
 generalize (ls.map ↥13).map D.int=LL at *
 have go:∀ z3 z4,nu 2 3 4 (call aT [var 0,var 2]) (qY [call iJ [bin oIx (var 3) ⇑0],call iJ [bin oIx (var 3) ⇑1]]) ⇑1 (bin oNe (qY [bin oIx (var 3) ⇑0,bin oIx (var 3) ⇑1]) (var 4)) ⇑0 ⇑0 (bin oEq (var 2) (bin cA (var 1) (qY [⇑1]))) [some ↥6,some (.lst RL),some (.own RL),z3,z4]=.rt ↥32:=fun z3 z4 =>
  zx (ys:=SL) (ws:=LL) (c:=.lst [.lst SL,.lst LL]) (m:=1) (m':=0) (m9:=0) ⋯ fr ly lw (by simp_arith [e]) (by simp_arith [bl]) (by simp_arith []) (by simp_arith [n0]) (by simp_arith []) (by simp_arith []) (by simp_arith [oa,qe])
 unfold cx eV
 simp_arith [l0,go]
theorem BG:Good A7:=by
 intro ns hl hb
 have h:=Ln (ns.getD 0 0)
 have q0:=za (ns:=ns) (j:=0) ↥2
 have q1:=za (ns:=ns) (j:=1) ↥2
 have z:=Ex (ns.getD 0 0)
 have nq:=lh (j:=5) ↥2 (Gh hb 1)
 simp only [show (0:Int).toNat=0 from rfl,show (1:Int).toNat=1 from rfl] at q0 q1
 generalize szE (ns.getD 0 0)=E at *
 generalize szF (ns.getD 0 0)=F at *
 generalize ns.getD 0 0=x0 at *
 generalize ns.getD 1 0=x1 at *
 obtain ⟨w,ew⟩:=wA x1
 have cc:=sN D.int ns (some 2) (some 202)
 obtain ⟨xs,er,hx,hxl,hxp⟩:=EF (q:=x1 / 5) (cs:=EV.cut ns (some 2) (some 202)) h (by have:=Gw ns (some 2) (some 202);omega) (fun c m=>hb c (yW m)) nq
 obtain ⟨b,r,rfl⟩:∃ b r,xs=b::r:=by
  cases xs with
  | nil=>exact absurd hxp ↥2
  | cons b r=>exact ⟨b,r,rfl⟩
 rw [List.length_cons] at hxl
 have hr:r.length<=199:=⋯
 have hbb:=hx b (.head _)
 obtain ⟨ss,f,et,ch,lss,ins⟩:=wJ (b:=nI E F b) (r:=r.map ↥13) h (by rw [List.length_map];exact hr) (fun c m=>by
  rcases List.mem_cons.mp m with q | m
  ·rw [q];exact Gj h hbb
  ·obtain ⟨x,m',rfl⟩:=List.mem_map.mp m
   exact Gj h (hx x (.tail _ m')))
 rw [<- List.map_cons] at et
 have ws:Wy.even.s=PySem.Str.ofString "even":=rfl
 rw [ws] at et
 have bl:∀ ds,iJ [.lst ds]=.ok (.lst ds):=fun _=>rfl
 have nl:=tW (bs:=(b::r).map ↥13)
 obtain ⟨ky,kn⟩:=yt h hr hx
 unfold A7 BU
 rcases HS h r b hbb (fun c m=>hx c (.tail _ m)) with ⟨zs,ls,tk⟩ | bd
 ·have hss:=tk.ch ch
  subst hss
  rw [<- List.map_cons] at et
  have ke:=ky zs ls tk
  have fy:=jh h (show (b::zs).length<=1000 by rw [List.length_cons,tk.len.1];omega) (fun x m=>by
   rcases List.mem_cons.mp m with e | m
   ·rw [e];exact hbb
   ·exact tk.fin.1 x m)
  have lk:=BI h hr hx tk
  have ap:=uL h hr hx tk
  have ap1:=uL (r:=[]) h ↥2 (fun c m=>by rw [List.mem_singleton.mp m];exact hbb) (Tk.nil (t:=b))
  have ec:EV.cut (((b::r).map ↥13).map D.int) none (some 1)=([b].map ↥13).map .int:=by
   rw [List.map_cons,List.map_cons]
   show List.take (min 1 (((r.map ↥13).map D.int).length+1) - 0) (D.int (nI E F b)::(r.map ↥13).map D.int)=_
   rw [show min 1 (((r.map ↥13).map D.int).length+1) - 0=1 by omega]
   rfl
  obtain ⟨lz,ll⟩:=tk.len
  generalize hlast:(b::zs).getLast (by simp)=lt
  have hlt:FnOk E F lt:=by
   have m:=List.getLast_mem (l:=b::zs) (by simp)
   rw [hlast] at m
   rcases List.mem_cons.mp m with e | m
   ·rw [e];exact hbb
   ·exact tk.fin.1 lt m
  have il:oIx (.lst (((b::zs).map ↥13).map D.int)) (.int (-1))=.ok (.int (nI E F lt)):=by
   have e:=List.dropLast_concat_getLast (show b::zs≠[] by simp)
   rw [hlast] at e
   have i:=lC (l:=(b::zs).dropLast.map ↥13) (b:=nI E F lt)
   rw [show (b::zs).dropLast.map ↥13++[nI E F lt]=((b::zs).dropLast++[lt]).map ↥13 by rw [List.map_append];rfl,e] at i
   exact i
  have hps:∀ x∈lt::ls,FnOk E F x:=fun x m=>by
   rcases List.mem_cons.mp m with e | m
   ·rw [e];exact hlt
   ·exact tk.fin.2 x m
  have lps:(lt::ls).length<=200:=by rw [List.length_cons,ll];omega
  have oa:cA (.lst [.int (nI E F lt)]) (.lst ((ls.map ↥13).map D.int))=.ok (.lst (((lt::ls).map ↥13).map .int)):=by
   rw [oK (by rw [List.length_map,List.length_map];show 1+ls.length<=100000;omega)]
   rfl
  have es:lsT F (lt::ls)=lsT F (b::r):=by
   have:=tk.sum
   rw [hlast] at this
   exact this.symm
  have line:∀ i:Int,aD [.tup [.int E,.int F],.int i]=.ok (.int (lnn E F i)):=fun i=>yq h
  have ru:∀ (bs:List Int) (a0:Option D) (rest:Dt),runC (stC (con ↥32) (call aD [var 1,var 0]) [1] (a0::some ↥6::rest)) (bs.map D.int)=.ok ((bs.map fun b=>lnn E F b).map D.int):=fun bs a0 rest=>xi fun c m=>by
   unfold stC inC
   simp_arith [List.getD_cons_zero,List.getD_cons_succ,line]
   unfold oP
   simp_arith []
  have fl1:∀ bs:List Int,cD (bs.map .int)=.ok (.lst (bs.map .int)):=fun bs=>by unfold cD;rw [if_pos yx]
  have bsum:∀ xs:List ↥12,(∀ x∈xs,FnOk E F x)->Dd [.lst (((xs.map ↥13).map fun b=>lnn E F b).map D.int)]=.ok (.int (lsT F xs)):=fun xs hx=>by
   unfold Dd
   simp only [ints_of]
   rw [List.map_map]
   have:=yJ (E:=E) (F:=F) xs 0 fun x m=>Gk (hx x m)
   rw [Int.zero_add] at this
   rw [<- this]
   rfl
  have bs1:=bsum (b::r) hx
  have bs2:=bsum (lt::ls) hps
  rw [es] at bs2
  have eU:pw (-(2*lo E F))=1*(pw (-(lo E F))*pw (-(lo E F))):=by rw [CJ h,Int.one_mul]
  have sums:∀ xs:List ↥12,(∀ x∈xs,FnOk E F x)->xs.length<=200->∃ sg x y,eJ [.tup [.int E,.int F],.str w.s,.lst ↥26]=.ok (.tup [.int x,.int y])/\(0<=sg/\sg<=1)/\Hb w E F (lsT F xs) 1 sg x y:=fun xs hx hl=>by
   obtain ⟨x,y,e1,f1⟩:=wQ (E:=E) (F:=F) (ps:=[]) (xs:=xs) (V:=pw (-(lo E F))) (U:=1) (X:=lsT F xs) h ⋯ ↥2 (fun x m=>Gk (hx x (by simpa [fl] using m))) (fun x m=>(hx x (by simpa [fl] using m)).2.2) (ah _) (Pq h xs fun x m=>(hx x m).2.1) eU w
   exact ⟨_,x,y,wN (E:=E) (F:=F) (xs:=xs) w e1 ⟨_,rfl⟩,CT w _,f1⟩
  obtain ⟨g1,u1,v1,m1,i1,f1⟩:=sums (b::r) hx (by rw [List.length_cons];omega)
  obtain ⟨g2,u2,v2,m2,i2,f2⟩:=sums (lt::ls) hps lps
  rw [es] at f2
  have la:(b::r).length<=100000:=by rw [List.length_cons];omega
  have lb:(lt::ls).length<=100000:=⋯
  have r1:=ru ((b::r).map ↥13)
  have r2:=ru ((lt::ls).map ↥13)
  have a1:=fl1 (((b::r).map ↥13).map fun b=>lnn E F b)
  have a2:=fl1 (((lt::ls).map ↥13).map fun b=>lnn E F b)
  have lRL:(((b::r).map ↥13).map D.int).length<=100000:=by rw [List.length_map,List.length_map];exact la
  have lPL:(((lt::ls).map ↥13).map D.int).length<=100000:=by rw [List.length_map,List.length_map];exact lb
  clear sums bsum fl1 ru ky kn hps ll lz
  generalize (((b::r).map ↥13).map fun b=>lnn E F b).map D.int=R1 at *
  generalize (((lt::ls).map ↥13).map fun b=>lnn E F b).map D.int=R2 at *
  generalize ((b::r).map ↥13).map D.int=RL at *
  generalize ((b::zs).map ↥13).map D.int=SL at *
  generalize (ls.map ↥13).map D.int=LL at *
  generalize ((lt::ls).map ↥13).map D.int=PL at *
  generalize ([b].map ↥13).map D.int=BL at *
  generalize hX:lsT F (b::r)=X at *
  by_cases X0:X=0
  ·obtain ⟨rfl,rfl⟩:=f1.1 X0
   obtain ⟨rfl,rfl⟩:=f2.1 X0
   have hH:=ah ↥3
   have l0:∀ g:Int,0<=g/\g<=1->lnn E F (g*pw ↥3)=0:=fun g hg=>by
    have:=lq (E:=E) (F:=F) (c:=0) hg ↥2 hH
    rw [Int.add_zero,gO] at this
    rw [this]
    split<;>rfl
   have l1:=l0 g1 i1
   have l2:=l0 g2 i2
   simp_arith [q0,z,q1,ew,cc,er,bl,et,ke,nl,fy,lk,ap,ec,ap1,lRL,r1,a1,bs1,il,oa,lPL,r2,a2,bs2,m1,m2,eq_true X0,line,l1,l2]
  ·obtain ⟨rfl,rfl⟩:=BV (show (0:Int)<1 by decide) f1 (show Hb w E F X 1 g1 u2 v2 from ⟨fun z=>absurd z X0,f2.2⟩)
   have eqp:oEq (.tup [.int u1,.int v1]) (.tup [.int u1,.int v1])=.ok ↥32:=by rw [tY];simp
   simp_arith [q0,z,q1,ew,cc,er,bl,et,ke,nl,fy,lk,ap,ec,ap1,lRL,r1,a1,bs1,il,oa,lPL,r2,a2,bs2,m1,m2,X0,eqp]
 ·obtain ⟨g,hg,m⟩:=bd.ch ch
  have fn:=yM h (show (nI E F b::ss).length<=1000 by rw [List.length_cons,lss,List.length_map];omega) (fun c m=>by
   rcases List.mem_cons.mp m with q | m
   ·rw [q];exact Gj h hbb
   ·exact ins c m) hg (.tail _ m)
  have ke:=kn bd
  generalize ((b::r).map ↥13).map D.int=RL at *
  generalize (nI E F b::ss).map D.int=SL at *
  simp_arith [q0,z,q1,ew,cc,er,bl,et,ke,nl,fn]
end T
open PySem PySem.W PyProof.Rows
set_option maxHeartbeats 0 in
theorem PySem.Challenge.cw_roundmill_k45_whole_kept_turn_holds : PySem.Challenge.rw_roundmill_k45_whole_kept_turn.Holds := by
 w_on;o_law
 refine holds_open (q:=H.q) (loose:=[]) (Xt:=H.Xt) (XP:=XL H.q []) (Yf:=(kHook H.K H.as H.he).obs) (Ya:=(kHook H.K H.as H.he).val) (YP:=(kHook H.K H.as H.he).says) (N:=7382) H.left (kHook H.K H.as H.he).of (kHook H.K H.as H.he).keeps (fun s e=>xl_of s (Bool.and_eq_true_iff.mp e).1) XL.keeps (by rfl) (by rfl) (by rfl) (fun s e=>recFacts_of (Bool.and_eq_true_iff.mp e).2) (by rfl) (by first | assumption | decide +kernel) (by decide +kernel) ⟨rfl,rfl,rfl,rfl,rfl,by decide +kernel⟩ ?hw ?hc
 (case hw=>w_witness2)
 k_fill
 refine ES.Ad (l:=PySem.Challenge.rw_roundmill_k45_whole_kept_turn) (k:=13) (x:="_law_script") (f:=T.A7) T.BG rfl rfl ⟨rfl,by decide,by decide⟩ (fun w h Y=>PySem.W.kIn_of Y) ?F
 case F =>
  intro w mg fa h KX GG hmg
  refine' T.all_mk KX GG hmg ?n_Way ?pg_Way ?hd_Way ?po_Way ?sa_Way ?na_Way ?aIWay ?uIWay ?mm_Way ?kc_Way ?lIWay ?eIWay ?kIWay ?q1 ?q2 ?q3 ?q4 ?q5 ?q6 ?q7 ?q8 ?q9 ?q10 ?q11 ?q12 ?q13 ?q14 ?q15 ?q16 ?q17 ?q18 ?q19 ?q20 ?q21 ?q22 ?q23 ?q24 ?a25 ?u25 ?l25 ?e25 ?k25 ?a26 ?u26 ?l26 ?e26 ?k26 ?a27 ?u27 ?l27 ?e27 ?k27 ?q28 ?q29 ?q30 ?q31 ?q32 ?q33 ?q34 ?q35 ?q36 ?q37 ?q38 ?q39 ?q40 ?q41 ?q42 ?q43 ?q44 ?q45 ?q46 ?q47 ?q48 ?q49 ?a50 ?l50 ?e50 ?k50 ?q51 ?q52 ?q53 ?q54 ?q55 ?q56 ?a57 ?l57 ?e57 ?k57 ?z_min ?z_max ?z_len ?z_abs ?z_list ?z_any ?z_int ?z_isinstance ?z_bool ?z_tuple ?z_range ?z_sum ?y_NAMES ?yl_NAMES ?y_INEXACT ?y_GREAT ?y_SMALL ?y_WRONG ?y_NOT_FINITE ?yl_NOT_FINITE ?n_MillError ?n_NoBits ?n_NotFinite ?n_NoWay ?n_NoFraction ?n_Empty ?n_NoLeft ?xi_NoWay ?xi_NoBits ?xi_NoFraction ?xi_NotFinite ?xi_NoLeft ?xi_Empty ?v_MillError ?w_NoSize ?v_NoBits ?w_NoParts ?w_NoRank ?v_NotFinite ?v_NoWay ?w_NoFlags ?v_NoFraction ?w_Unlike ?v_Empty ?v_NoLeft ?w_NoText ?w_NoRow ?w_NoName ?w_Stopped ?cb_MillError ?r_MillError_MillError ?r_MillError_NoBits ?r_MillError_NotFinite ?r_MillError_NoWay ?r_MillError_NoFraction ?r_MillError_Empty ?r_MillError_NoLeft ?itab ?i_int_NoneType ?i_int_bool ?i_int_int ?i_int_str ?i_int_tuple ?i_int_list ?i_bool_NoneType ?i_bool_bool ?i_bool_int ?i_bool_str ?i_bool_tuple ?i_bool_list ?i_tuple_NoneType ?i_tuple_bool ?i_tuple_int ?i_tuple_str ?i_tuple_tuple ?i_tuple_list ?i_list_NoneType ?i_list_bool ?i_list_int ?i_list_str ?i_list_tuple ?i_list_list
  (case n_Way | pg_Way | hd_Way | po_Way | sa_Way | na_Way | aIWay | uIWay | mm_Way | kc_Way | lIWay | eIWay | kIWay=>k_is)
  (case q1 | q2 | q3 | q4 | q5 | q6 | q7 | q8 | q9 | q10 | q11 | q12 | q13 | q14 | q15 | q16 | q17 | q18 | q19 | q20 | q21 | q22 | q23 | q24=>exact ES.Gv (by k_is) (by k_is) (by k_is) (by k_is))
  (case a25 | u25 | l25 | e25 | k25 | a26 | u26 | l26 | e26 | k26 | a27 | u27 | l27 | e27 | k27=>k_is)
  (case q28 | q29 | q30 | q31 | q32 | q33 | q34 | q35 | q36 | q37 | q38 | q39 | q40 | q41 | q42 | q43 | q44 | q45 | q46 | q47 | q48 | q49=>exact ES.Gv (by k_is) (by k_is) (by k_is) (by k_is))
  (case a50 | l50 | e50 | k50=>k_is)
  (case q51 | q52 | q53 | q54 | q55 | q56=>exact ES.Gv (by k_is) (by k_is) (by k_is) (by k_is))
  (case a57 | l57 | e57 | k57 | z_min | z_max | z_len | z_abs | z_list | z_any | z_int | z_isinstance | z_bool | z_tuple | z_range | z_sum | y_NAMES | yl_NAMES | y_INEXACT | y_GREAT | y_SMALL | y_WRONG | y_NOT_FINITE | yl_NOT_FINITE | n_MillError | n_NoBits | n_NotFinite | n_NoWay | n_NoFraction | n_Empty | n_NoLeft=>k_is)
  (case xi_NoWay | xi_NoBits | xi_NoFraction | xi_NotFinite | xi_NoLeft | xi_Empty=>k_exc)
  (case v_MillError=>exact ⟨by k_is,by k_is,by k_is,by k_is,by k_is,⟨_,by k_is⟩⟩)
  (case w_NoSize=>k_is)
  (case v_NoBits=>exact ⟨by k_is,by k_is,by k_is,by k_is,by k_is,⟨_,by k_is⟩⟩)
  (case w_NoParts | w_NoRank=>k_is)
  (case v_NotFinite | v_NoWay=>exact ⟨by k_is,by k_is,by k_is,by k_is,by k_is,⟨_,by k_is⟩⟩)
  (case w_NoFlags=>k_is)
  (case v_NoFraction=>exact ⟨by k_is,by k_is,by k_is,by k_is,by k_is,⟨_,by k_is⟩⟩)
  (case w_Unlike=>k_is)
  (case v_Empty | v_NoLeft=>exact ⟨by k_is,by k_is,by k_is,by k_is,by k_is,⟨_,by k_is⟩⟩)
  (case w_NoText | w_NoRow | w_NoName | w_Stopped=>k_is)
  (case cb_MillError=>exact ⟨⟨_,by k_is⟩,by k_is,by k_is,by k_is⟩)
  (case r_MillError_MillError | r_MillError_NoBits | r_MillError_NotFinite | r_MillError_NoWay | r_MillError_NoFraction | r_MillError_Empty | r_MillError_NoLeft=>k_is)
  (case itab=>kernel_rfl)
  (case i_int_NoneType | i_int_bool | i_int_int | i_int_str | i_int_tuple | i_int_list | i_bool_NoneType | i_bool_bool | i_bool_int | i_bool_str | i_bool_tuple | i_bool_list | i_tuple_NoneType | i_tuple_bool | i_tuple_int | i_tuple_str | i_tuple_tuple | i_tuple_list | i_list_NoneType | i_list_bool | i_list_int | i_list_str | i_list_tuple | i_list_list=>kit_is)
#print axioms PySem.Challenge.cw_roundmill_k45_whole_kept_turn_holds
