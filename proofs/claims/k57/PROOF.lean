import PyProof.Rows.All
import Wide.All
import OpenK.AllK
import Wide.FinOn
import Lean
import PyProof.EqAt
import PyProof.EqKinds
import PyProof.TupleCall
import PySem.Challenge.RW_roundmill_k57_whole_shown_and_read
set_option Elab.async false
set_option linter.all false
set_option genSizeOf false
set_option maxRecDepth 100000
namespace L2
open PySem PySem.Spec PyProof.Rows
noncomputable abbrev Key:=Sum Int Str
noncomputable def JE:Key->Value->Bool
 | .inl k,v=>Value.isInt k v
 | .inr x,v=>Value.isStrOf x v
noncomputable def Sk (w:World):Key->Int
 | .inl k=>hashInt k
 | .inr x=>hashStr w x
theorem bj:∀ {k:Key} {v:Value},JE k v=true->(∃ i t,k=Sum.inl i/\v=Value.int i t)\/(∃ x t,k=Sum.inr x/\v=Value.str x t)
 | .inl i,v,h=>by
  obtain ⟨t,e⟩:=Value.isInt_shape (k:=i) (v:=v) h
  exact .inl ⟨i,t,rfl,e⟩
 | .inr x,v,h=>by
  obtain ⟨t,e⟩:=Value.isStrOf_shape (x:=x) (v:=v) h
  exact .inr ⟨x,t,rfl,e⟩
theorem JD (a b:Int):decide ((Sum.inl a:Key)=Sum.inl b)=(a == b):=by
 by_cases e:a=b
 ·subst e;simp
 ·have h:¬ (Sum.inl a:Key)=Sum.inl b:=fun q=>e (Sum.inl.inj q)
  rw [decide_eq_false h]
  exact (beq_eq_false_iff_ne.mpr e).symm
theorem JA (a b:Str):decide ((Sum.inr a:Key)=Sum.inr b)=decide (a=b):=by
 by_cases e:a=b
 ·subst e;simp
 ·have h:¬ (Sum.inr a:Key)=Sum.inr b:=fun q=>e (Sum.inr.inj q)
  rw [decide_eq_false h,decide_eq_false e]
theorem JC (a:Int) (b:Str):decide ((Sum.inl a:Key)=Sum.inr b)=false:=decide_eq_false (fun q=>nomatch q)
theorem JB (a:Str) (b:Int):decide ((Sum.inr a:Key)=Sum.inl b)=false:=decide_eq_false (fun q=>nomatch q)
noncomputable def AO (prog:Program) (w:World):PySem.KeyKind prog w Key where
 is:=JE
 hash:=Sk w
 inj:=fun v a b ha hb=>by
  rcases bj ha with ⟨i,t,rfl,rfl⟩ | ⟨x,t,rfl,rfl⟩
  ·rcases bj hb with ⟨j,u,rfl,e⟩ | ⟨y,u,rfl,e⟩
   ·injection e with e1 _;rw [e1]
   ·exact nomatch e
  ·rcases bj hb with ⟨j,u,rfl,e⟩ | ⟨y,u,rfl,e⟩
   ·exact nomatch e
   ·injection e with e1 _;rw [e1]
 byValue:=fun k v h=>by
  rcases bj h with ⟨i,t,rfl,rfl⟩ | ⟨x,t,rfl,rfl⟩<;>rfl
 pyHash:=fun hv h=>by
  rcases bj hv with ⟨i,t,rfl,rfl⟩ | ⟨x,t,rfl,rfl⟩
  ·exact wpAny_pyHash_int h
  ·exact wpAny_pyHash_str h
 eqBool:=fun hu hv h=>by
  rcases bj hu with ⟨i,t,rfl,rfl⟩ | ⟨x,t,rfl,rfl⟩
  ·rcases bj hv with ⟨j,u,rfl,rfl⟩ | ⟨y,u,rfl,rfl⟩
   ·rw [JD] at h;exact wpAny_eqBool_int h
   ·rw [JC] at h;exact SeqAt.EqAt.int_str i t y u _ _ _ _ h
  ·rcases bj hv with ⟨j,u,rfl,rfl⟩ | ⟨y,u,rfl,rfl⟩
   ·rw [JB] at h;exact SeqAt.EqAt.str_int x t j u _ _ _ _ h
   ·rw [JA] at h;exact wpAny_eqBool_str h
 «strs»:=fun k x t v h=>by
  rcases bj h with ⟨i,u,rfl,e⟩ | ⟨y,u,rfl,e⟩
  ·exact nomatch e
  ·injection e with e1 _
   subst e1
   cases v<;>rfl
end L2
namespace L2
open PySem PySem.Spec PyProof.Rows
inductive V where
 | non | bl (b:Bool) | int (i:Int) | str (x:Str) | byt (b:Array UInt8) | flt (b:UInt64) | ref (a:Addr) | ty (n:String)
 deriving DecidableEq
noncomputable def RelV:V->Value->Prop
 | .non,u=>u=Value.none
 | .bl b,u=>u=Value.bool b
 | .int i,u=>∃ t,u=Value.int i t
 | .str x,u=>∃ t,u=Value.str x t
 | .byt b,u=>∃ t,u=Value.bytes b t
 | .flt b,u=>∃ t,u=Value.float b t
 | .ref a,u=>u=Value.ref a
 | .ty n,u=>u=Value.type n
noncomputable abbrev Vals:List V->List Value->Prop:=Paired RelV
theorem Vals.length {xs:List V} {us:List Value} (r:Vals xs us):xs.length=us.length:=Paired.length r
theorem Vals.get:∀ {xs:List V} {us:List Value} {i:Nat} {x:V},Vals xs us->xs[i]? = some x->∃ u,us[i]? = some u/\RelV x u
 | _,_,_,_,.nil,e=>by simp at e
 | _,_,0,_,.cons r _,e=>by simp at e;subst e;exact ⟨_,rfl,r⟩
 | _,_,i+1,x,.cons _ t,e=>by
  obtain ⟨u,h1,h2⟩:=Vals.get (i:=i) (x:=x) t (by simpa using e)
  exact ⟨u,by simpa using h1,h2⟩
theorem Vals.append:∀ {xs ys:List V} {us ws:List Value},Vals xs us->Vals ys ws->Vals (xs++ys) (us++ws)
 | _,_,_,_,.nil,s=>s
 | _,_,_,_,.cons r t,s=>.cons r (Vals.append t s)
theorem Vals.take:∀ {xs:List V} {us:List Value} (n:Nat),Vals xs us->Vals (xs.take n) (us.take n)
 | _,_,0,_=>.nil
 | _,_,_+1,.nil=>.nil
 | _,_,n+1,.cons r t=>.cons r (Vals.take n t)
theorem Vals.drop:∀ {xs:List V} {us:List Value} (n:Nat),Vals xs us->Vals (xs.drop n) (us.drop n)
 | _,_,0,r=>r
 | _,_,_+1,.nil=>.nil
 | _,_,n+1,.cons _ t=>Vals.drop n t
noncomputable def B6:Option V->Option Value->Prop
 | some v,some u=>RelV v u
 | none,none=>True
 | _,_=>False
noncomputable def KV {κ:Type}:List (κ×V)->List (κ×Value)->Prop:=Paired fun (p:κ×V) (q:κ×Value)=>p.1=q.1/\RelV p.2 q.2
noncomputable def kV:Key->V
 | .inl i=>.int i
 | .inr x=>.str x
inductive HO where
 /-- a list -/
 | lst (xs:List V)
 /-- a tuple (never changes) -/
 | tup (xs:List V)
 /-- a dict whose keys are ints and texts;one whose keys are tuples of ints and texts (the empty one is both) -/
 | dK (kvs:List (Key×V)) | dT (kvs:List (List Key×V))
 /-- a set of ints: its members,its size -/
 | set (S:Int->Bool) (n:Nat)
 /-- an instance of the class at C,its dict at dx,its attributes -/
 | ins (C dx:Addr) (fs:List (Str×V))
 /-- the dict of the instance at x -/
 | own (x:Addr)
 /-- the dict of an exception -/
 | xd (fs:List (Str×V))
 /-- a bound method,f of x -/
 | met (f x:Addr)
 /-- a range object lo,lo+1,.. below hi -/
 | rng (lo hi:Int)
 /-- a thing that is known to the object (the script;a dict while a loop walks it): read,never written while it is so -/
 | frz (o:Obj) (u:HO)
 /-- a code object's table -/
 | tbl (ps:Array Value)
 /-- any other thing,by what is true of its one object (a def of one's own: SetO a S n:=HO.ext fun h=>..) -/
 | ext (φ:Heap->Prop)
noncomputable abbrev Hp:=Addr->Option HO
noncomputable def upd (H:Hp) (a:Addr) (o:HO):Hp:=fun b=>if b=a then some o else H b
theorem bG {H:Hp} {a:Addr} {o:HO}:upd H a o a=some o:=by unfold upd;rw [if_pos rfl]
theorem bI {H:Hp} {a b:Addr} {o:HO} (h:b≠a):upd H a o b=H b:=by unfold upd;rw [if_neg h]
theorem cU {H:Hp} {a b:Addr} {o:HO} (h:H a=some o) (h':H b=none):a≠b:=by
 intro e;subst e;rw [h] at h';cases h'
section
variable (P:Program) (w:World)
noncomputable def jt (H:Hp) (h:Heap) (a:Addr):HO->Prop
 | .lst xs=>xs.length<=sizeLine/\∃ (its:List Value) (n:Nat),Vals xs its/\h.get? a=some { cls:=.type "list",data:=.seq its.toArray n }
 | .tup xs=>xs.length<=sizeLine/\∃ its:List Value,Vals xs its/\IsTup h a its.toArray
 | .dK kvs=>kvs.length<=sizeLine/\(a == sysModules)=false/\∃ vs,KV kvs vs/\h.DictOf (AO P w) a vs
 | .dT kvs=>kvs.length<=sizeLine/\(a == sysModules)=false/\∃ xs:List (List Key×Addr×Value),
   Paired (fun (p:List Key×V) (q:List Key×Addr×Value)=>p.1=q.1/\H q.2.1=some (.tup (p.1.map kV))/\RelV p.2 q.2.2) kvs xs /\
   ∃ o es ep,h.get? a=some o/\o.ExactDict/\o.data=.dict es ep/\es.toList=xs.map (entryOfKey (tupleKind (AO P w)))/\(xs.map (·.1)).Nodup
 | .set S n=>h.SetOf (intKind P w) a S n
 | .ins C dx fs=>H dx=some (.own a)/\fs.length<=1000/\dx≠a/\h.get? a=some (PySem.W.instObj C dx) /\
   ∃ mA,h.Ns1 dx mA/\(∀ f,B6 (fs.lookup f) (mA f))/\PySem.Within mA (fs.map (·.1))
 | .own _=>∃ o,h.get? a=some o
 | .xd fs=>∃ mA,h.Ns1 a mA/\∀ f,B6 (fs.lookup f) (mA f)
 | .rng lo hi=>∃ t u v,h.get? a=some { cls:=.type "range",data:=.fields #[.int lo t,.int hi u,.int 1 v] }
 | .frz o u=>h.get? a=some o/\jt H h a u
 | .tbl ps=>h.get? a=some { cls:=.none,data:=.fields ps }
 | .met f x=>h.get? a=some (PySem.W.methodObj (.ref f) (.ref x))
 | .ext φ=>φ h/\(∃ o,h.get? a=some o)/\∀ h1 h2:Heap,φ h1->(∀ o,h1.get? a=some o->h2.get? a=some o)->φ h2
def HOk (H:Hp) (h:Heap):Prop:=∀ a o,H a=some o->jt P w H h a o
end
section
variable {P:Program} {w:World} {H H':Hp} {h h':Heap} {a:Addr} {o:HO}
theorem jt.lt (x:jt P w H h a o):a<h.objs.size:=by
 cases o with
 | lst xs=>obtain ⟨_,_,_,_,e⟩:=x;exact Heap.lt_size e
 | tup xs=>obtain ⟨_,_,_,p⟩:=x;exact p.lt
 | dK kvs=>obtain ⟨_,_,_,_,o,_,_,e,_⟩:=x;exact Heap.lt_size e
 | dT kvs=>obtain ⟨_,_,_,_,o,_,_,e,_⟩:=x;exact Heap.lt_size e
 | set S n=>obtain ⟨o,_,_,_,e,_⟩:=x;exact Heap.lt_size e
 | ins C dx fs=>obtain ⟨_,_,_,e,_⟩:=x;exact Heap.lt_size e
 | own y=>obtain ⟨_,e⟩:=x;exact Heap.lt_size e
 | xd fs=>obtain ⟨_,⟨_,_,_,e,_⟩,_⟩:=x;exact Heap.lt_size e
 | rng lo hi=>obtain ⟨_,_,_,e⟩:=x;exact Heap.lt_size e
 | frz ob u=>obtain ⟨e,_⟩:=x;exact Heap.lt_size e
 | tbl ps=>exact Heap.lt_size (show h.get? a=some _ from x)
 | met f y=>exact Heap.lt_size (show h.get? a=some _ from x)
 | ext φ=>obtain ⟨_,⟨_,e⟩,_⟩:=x;exact Heap.lt_size e
theorem Paired.mapP {α β:Type} {F G:α->β->Prop}:∀ {l₁:List α} {l₂:List β},Paired F l₁ l₂->(∀ a b,F a b->G a b)->Paired G l₁ l₂
 | _,_,.nil,_=>.nil
 | _,_,.cons r t,f=>.cons (f _ _ r) (Paired.mapP t f)
theorem jt.stay (x:jt P w H h a o) (k:∀ b u,(b=a\/H b=some (.own a))->h.get? b=some u->h'.get? b=some u)
  (ho:∀ b,H b=some (.own a)->H' b=some (.own a)) (ht:∀ b xs,H b=some (.tup xs)->H' b=some (.tup xs)):jt P w H' h' a o:=by
 induction o with
 | lst xs=>obtain ⟨z,its,n,r,e⟩:=x;exact ⟨z,its,n,r,k _ _ (.inl rfl) e⟩
 | tup xs=>obtain ⟨z,its,r,ob,e,c⟩:=x;exact ⟨z,its,r,ob,k _ _ (.inl rfl) e,c⟩
 | dK kvs=>obtain ⟨z,y,vs,r,ob,es,ep,e,c⟩:=x;exact ⟨z,y,vs,r,ob,es,ep,k _ _ (.inl rfl) e,c⟩
 | dT kvs =>
  obtain ⟨z,y,xs,r,ob,es,ep,e,c⟩:=x
  exact ⟨z,y,xs,Paired.mapP r fun p q z=>⟨z.1,ht _ _ z.2.1,z.2.2⟩,ob,es,ep,k _ _ (.inl rfl) e,c⟩
 | set S n=>obtain ⟨ob,es,ep,t,e,c⟩:=x;exact ⟨ob,es,ep,t,k _ _ (.inl rfl) e,c⟩
 | ins C dx fs =>
  obtain ⟨d,z,ne,e,mA,⟨od,es,ep,e2,c⟩,r⟩:=x
  exact ⟨ho _ d,z,ne,k _ _ (.inl rfl) e,mA,⟨od,es,ep,k _ _ (.inr d) e2,c⟩,r⟩
 | own y=>obtain ⟨ob,e⟩:=x;exact ⟨ob,k _ _ (.inl rfl) e⟩
 | xd fs=>obtain ⟨mA,⟨od,es,ep,e,c⟩,r⟩:=x;exact ⟨mA,⟨od,es,ep,k _ _ (.inl rfl) e,c⟩,r⟩
 | rng lo hi=>obtain ⟨t,u,v,e⟩:=x;exact ⟨t,u,v,k _ _ (.inl rfl) e⟩
 | frz ob u ih=>obtain ⟨e,q⟩:=x;exact ⟨k _ _ (.inl rfl) e,ih q⟩
 | tbl ps =>
  have e:h.get? a=some { cls:=.none,data:=.fields ps }:=x
  show h'.get? a=some { cls:=.none,data:=.fields ps }
  exact k a _ (.inl rfl) e
 | met f y =>
  have e:h.get? a=some (PySem.W.methodObj (.ref f) (.ref y)):=x
  show h'.get? a=some (PySem.W.methodObj (.ref f) (.ref y))
  exact k a _ (.inl rfl) e
 | ext φ=>obtain ⟨p,⟨o,e⟩,st⟩:=x;exact ⟨st _ _ p fun o q=>k _ _ (.inl rfl) q,⟨o,k _ _ (.inl rfl) e⟩,st⟩
theorem HOk.lt (x:HOk P w H h) (e:H a=some o):a<h.objs.size:=(x a o e).lt
theorem HOk.fresh (x:HOk P w H h) (e:h.objs.size<=a):H a=none:=by
 cases q:H a with
 | none=>rfl
 | some u=>exact absurd (Nat.lt_of_lt_of_le (x.lt q) e) (Nat.lt_irrefl _)
theorem HOk.kept (x:HOk P w H h) (k:∀ b u,h.get? b=some u->h'.get? b=some u):HOk P w H h':=fun a o e =>
 (x a o e).stay (fun b u _ q=>k b u q) (fun _ q=>q) fun _ _ q=>q
theorem HOk.laid (x:HOk P w H h) (k:∀ b u,h.get? b=some u->h'.get? b=some u) (hp:h.objs.size<=a) (new:jt P w (upd H a o) h' a o):HOk P w (upd H a o) h':=fun b u e=>by
 have hn:=x.fresh hp
 by_cases hb:b=a
 ·subst hb;rw [bG] at e;cases e;exact new
 ·rw [bI hb] at e
  exact (x b u e).stay (fun c v _ q=>k c v q) (fun c q=>by rw [bI (cU q hn)];exact q) fun c xs q=>by rw [bI (cU q hn)];exact q
end
def Rd (H:Hp) (a:Addr) (u:HO):Prop:=H a=some u\/∃ o,H a=some (.frz o u)
theorem Rd.ok {P:Program} {w:World} {H:Hp} {h:Heap} {a:Addr} {u:HO} (r:Rd H a u) (x:HOk P w H h):jt P w H h a u:=by
 rcases r with r | ⟨o,r⟩
 ·exact x a u r
 ·obtain ⟨_,q⟩:=x a _ r
  exact q
noncomputable def Mut:Option HO->Prop
 | some (.lst _)=>True
 | some (.dK _)=>True
 | some (.dT _)=>True
 | some (.set _ _)=>True
 | some (.ins _ _ _)=>True
 | some (.ext _)=>True
 | _=>False
section
variable {P:Program} {w:World} {H:Hp} {h h':Heap} {x e:Addr} {o':HO}
theorem HOk.write (ok:HOk P w H h) (mu:Mut (H x)) (he:e=x\/H e=some (.own x)) (k:∀ b u,b≠e->h.get? b=some u->h'.get? b=some u) (heo:∃ u,h'.get? e=some u)
  (new:jt P w (upd H x o') h' x o'):HOk P w (upd H x o') h':=fun b u q=>by
 have nown:∀ c y,H c=some (.own y)->c≠x:=fun c y r z=>by subst z;rw [r] at mu;exact mu
 have ntup:∀ c xs,H c=some (.tup xs)->c≠x:=fun c xs r z=>by subst z;rw [r] at mu;exact mu
 by_cases hb:b=x
 ·subst hb;rw [bG] at q;cases q;exact new
 ·rw [bI hb] at q
  by_cases hbe:b=e
  ·have q':H b=some (.own x):=by
    rcases he with z | z
    ·exact absurd (hbe.trans z) hb
    ·rw [hbe];exact z
   rw [q] at q';cases q'
   obtain ⟨v,hv⟩:=heo
   exact ⟨v,by rw [hbe];exact hv⟩
  ·refine (ok b u q).stay (fun c v hc r=>k c v ?_ r) (fun c r=>by rw [bI (nown c b r)];exact r) fun c xs r=>by rw [bI (ntup c xs r)];exact r
   rcases hc with rfl | hc
   ·exact hbe
   ·rintro rfl
    rcases he with z | z
    ·exact nown c b hc z
    ·rw [hc] at z;cases z;exact hb rfl
end
structure Un (fs ex:List Addr) (H H':Hp) (h h':Heap):Prop where
 keep:∀ b o,h.get? b=some o->H b=none->b∉fs->b∉ex->h'.get? b=some o
 slot:∀ b o,h.get? b=some o->H b=none->b∈fs->b∉ex->∃ sl,h'.get? b=some { o with slots:=sl }
 free:∀ b o,h.get? b=some o->H b=none->b∉ex->H' b=none
 there:∀ b o,h.get? b=some o->b∉ex->∃ o',h'.get? b=some o'
 tups:∀ b xs,H b=some (.tup xs)->H' b=some (.tup xs)
 frzs:∀ b o u,H b=some (.frz o u)->H' b=some (.frz o u)
 tbls:∀ b ps,H b=some (.tbl ps)->∃ more,H' b=some (.tbl (ps++more))
section
variable {fs fs' ex ex':List Addr} {H H1 H2:Hp} {h h1 h2 h':Heap} {a x e:Addr} {o:HO}
theorem Un.any (u:Un fs ex H H1 h h1) {b:Addr} {ob:Obj} (q:h.get? b=some ob) (n:H b=none) (hx:b∉ex):∃ sl,h1.get? b=some { ob with slots:=sl }:=by
 by_cases hb:b∈fs
 ·exact u.slot b ob q n hb hx
 ·exact ⟨ob.slots,u.keep b ob q n hb hx⟩
theorem Un.kept (k:∀ b u,h.get? b=some u->h'.get? b=some u):Un fs ex H H h h' :=
 ⟨fun b ob q _ _ _=>k b ob q,fun b ob q _ _ _=>⟨ob.slots,k b ob q⟩,fun _ _ _ n _=>n,fun b ob q _=>⟨ob,k b ob q⟩,fun _ _ q=>q,fun _ _ _ q=>q,fun _ ps q=>⟨#[],by rw [q];simp⟩⟩
theorem Un.refl:Un fs ex H H h h:=Un.kept fun _ _ q=>q
theorem Un.laid (k:∀ b u,h.get? b=some u->h'.get? b=some u) (hp:h.objs.size<=a) (hn:H a=none):Un fs ex H (upd H a o) h h' where
 keep:=fun b u q _ _ _=>k b u q
 slot:=fun b u q _ _ _=>⟨u.slots,k b u q⟩
 free:=fun b u q n _=>by rw [bI (Nat.ne_of_lt (Nat.lt_of_lt_of_le (Heap.lt_size q) hp))];exact n
 there:=fun b u q _=>⟨u,k b u q⟩
 tups:=fun b xs q=>by rw [bI (cU q hn)];exact q
 frzs:=fun b u xs q=>by rw [bI (cU q hn)];exact q
 tbls:=fun b ps q=>⟨#[],by rw [bI (cU q hn),q];simp⟩
theorem Un.write (mu:Mut (H x)) (he:e=x\/H e=some (.own x)) (k:∀ b u,b≠e->h.get? b=some u->h'.get? b=some u) (heo:∃ u,h'.get? e=some u):Un fs ex H (upd H x o) h h':=by
 have hx:∀ b,H b=none->b≠x:=fun b n z=>by subst z;rw [n] at mu;exact mu
 have hb:∀ b,H b=none->b≠e:=fun b n z=>by
  subst z
  rcases he with r | r
  ·exact hx b n r
  ·rw [n] at r;cases r
 have hm:∀ b u,H b=some u->¬ Mut (some u)->b≠x:=fun b u q nm z=>by subst z;rw [q] at mu;exact nm mu
 refine ⟨fun b u q n _ _=>k b u (hb b n) q,fun b u q n _ _=>⟨u.slots,k b u (hb b n) q⟩,fun b u q n _=>by rw [bI (hx b n)];exact n,fun b u q _ => ?_,
  fun b xs q=>by rw [bI (hm b _ q fun z=>z)];exact q,fun b u xs q=>by rw [bI (hm b _ q fun z=>z)];exact q,fun b ps q=>⟨#[],by rw [bI (hm b _ q fun z=>z),q];simp⟩⟩
 by_cases hbe:b=e
 ·subst hbe;exact heo
 ·exact ⟨u,k b u hbe q⟩
end
noncomputable def trk (h:Heap) (H:Hp):List Addr:=(List.range h.objs.size).filter fun a=>(H a).isSome
noncomputable def CW (h:Heap) (H:Hp):Heap:=PySem.W.hideAll h (trk h H)
theorem Ba (h:Heap) (H:Hp):(CW h H).objs.size=h.objs.size:=PySem.W.hideAll_size _ _
theorem CV {h:Heap} {H:Hp} {b:Addr} {o:Obj} (e:h.get? b=some o) (n:H b=none):(CW h H).get? b=some o :=
 PySem.W.hideAll_get _ e fun hm=>by
  have q:(H b).isSome=true:=(List.mem_filter.mp hm).2
  rw [n] at q;simp at q
theorem Gw {h:Heap} {H:Hp} {b:Addr} {o:Obj} (e:(CW h H).get? b=some o):h.get? b=some o/\H b=none:=by
 have e':h.get? b=some o:=PySem.W.of_hideAll (trk h H) e
 refine ⟨e',?_⟩
 cases q:H b with
 | none=>rfl
 | some x =>
  have hm:b∈trk h H:=List.mem_filter.mpr ⟨List.mem_range.mpr (Heap.lt_size e'),by simp [q]⟩
  have z:(CW h H).get? b=none:=PySem.W.hideAll_none (trk h H) hm
  rw [z] at e;cases e
noncomputable def Ht (g h:Heap) (L:Addr):List (Addr×Obj):=(List.range h.objs.size).filterMap fun a=>if a=L\/(g.get? a).isSome=true then none else (h.get? a).map fun o=>(a,o)
noncomputable def rest (g h:Heap) (L d:Addr):List (Addr×Obj):=(Ht g h L).filter fun p=>decide (p.1≠d)
end L2
namespace L2
open PySem PySem.Spec PyProof.Rows
structure Mod (K:PySem.W.Frag) (mg:Str->Option Value) (base:Heap):Prop where
 kin:K.In base
 glob:base.Ns mainGlobals mg
 blt:∃ mb,base.Ns builtinsNs mb/\∀ x:Str,x≠"__name__"->mb x=bootBuiltins x
 nolimit:base.NoLimit
structure Cx where
 prog:Program
 w:World
 K:PySem.W.Frag
 mg:Str->Option Value
 base:Heap
 A:Around
 N:List Str
 s₀:Shared
 H₀:Hp
 env:Env
 outer:List Env
 stack:List Env
 ex:List Addr
 fn:Str->Bool
 calm:Bool
 pn:List (Addr×Obj)
 xe:Value->Shared->Prop
noncomputable def frs (l:List Env):List Addr:=l.filterMap (·.frame)
noncomputable abbrev Cx.fs (X:Cx):List Addr:=frs X.outer
def Vis (sc:Scope) (x:Str):Prop:=sc.names.lookup x=some .local\/sc.names.lookup x=some .cell\/sc.names.lookup x=some .free
def Loc (sc:Scope) (x:Str):Prop:=sc.names.lookup x=some .local\/sc.names.lookup x=some .cell
def Look (env:Env) (h:Heap) (m:Str->Option Value) (x:Str) (u:Value):Prop :=
 (env.kindOf x=some .local/\m x=some u)\/((env.kindOf x=some .cell\/env.kindOf x=some .free)/\∃ c,env.cells.lookup x=some c/\h.IsCell c (some u))
structure Cx.Ok (X:Cx):Prop where
 mod:Mod X.K X.mg X.base
 kind:X.env.scope.kind=.function
 glob:X.env.globals=mainGlobals
 blt:X.env.builtins=builtinsNs
 above:X.s₀.heap.objs.size<=X.env.locals
 inj:∀ x y c,X.env.cells.lookup x=some c->X.env.cells.lookup y=some c->x=y
 has:∀ x,(X.env.kindOf x=some .cell\/X.env.kindOf x=some .free)->∃ c,X.env.cells.lookup x=some c
 cab:∀ x c,X.fn x=true->X.env.cells.lookup x=some c->X.s₀.heap.objs.size<=c
 hd:X.calm=true->X.A.handled=none
 frames:X.A.frames=some X.stack
 stk:X.stack=X.outer\/(X.stack=X.env::X.outer/\X.env.frame=some X.env.locals)
 exf:∀ b∈X.ex,b≠X.env.locals/\∀ x c,X.env.cells.lookup x=some c->c≠b
 bs:∀ b o,X.base.get? b=some o->X.s₀.heap.get? b=some o/\X.H₀ b=none
 bsz:X.base.objs.size<=X.s₀.heap.objs.size
 noex:∀ b o,X.base.get? b=some o->b∉X.ex
 exfs:∀ b∈X.ex,b∉X.fs
 funs:X.s₀.heap.FunFrames X.base X.outer
 frf:∀ b∈X.fs,X.H₀ b=none
structure Inv (X:Cx) (pins:List (Addr×Obj)) (σ:List (Option V)) (H:Hp) (s:Shared):Prop where
 ok:X.Ok
 os:s.os=X.s₀.os
 bare:AllBare s.gens
 base:Un X.fs X.ex X.H₀ H X.s₀.heap s.heap
 loc:∃ m,s.heap.Ns X.env.locals m/\∀ (i:Nat) (x:Str) (v:V),X.N[i]? = some x->σ[i]? = some (some v)->Vis X.env.scope x->∃ u,RelV v u/\Look X.env s.heap m x u
 cell:∀ x c,X.env.cells.lookup x=some c->∃ v,s.heap.IsCell c v
 free:H X.env.locals=none
 freeC:∀ x c,X.env.cells.lookup x=some c->H c=none
 pin:∀ p∈X.pn++pins,s.heap.get? p.1=some p.2/\H p.1=none/\p.1≠X.env.locals/\p.1∉X.fs/\∀ v,p.2.data ≠ .cell v
 hok:HOk X.prog X.w H s.heap
 len:σ.length=X.N.length
section
variable {X:Cx} {pins:List (Addr×Obj)} {σ:List (Option V)} {H H':Hp} {s:Shared} {h':Heap}
theorem Cx.Ok.nofr (ok:X.Ok) {b:Addr} {o:Obj} (e:X.base.get? b=some o):b∉X.fs:=fun hb=>by
 have:=(ok.funs.mem hb).1
 rw [e] at this;cases this
theorem Inv.bs (I:Inv X pins σ H s):∀ b o,X.base.get? b=some o->s.heap.get? b=some o/\H b=none:=fun b o e =>
 ⟨I.base.keep b o (I.ok.bs b o e).1 (I.ok.bs b o e).2 (I.ok.nofr e) (I.ok.noex b o e),I.base.free b o (I.ok.bs b o e).1 (I.ok.bs b o e).2 (I.ok.noex b o e)⟩
theorem Inv.bk (I:Inv X pins σ H s):∀ b o,X.base.get? b=some o->s.heap.get? b=some o:=fun b o e=>(I.bs b o e).1
theorem Inv.mod (I:Inv X pins σ H s):Mod X.K X.mg X.base:=I.ok.mod
theorem Inv.kIn (I:Inv X pins σ H s):X.K.In s.heap:=I.ok.mod.kin.keeps I.bk
theorem Inv.lt (I:Inv X pins σ H s):X.env.locals<s.heap.objs.size:=let ⟨_,hn,_⟩:=I.loc;hn.lt
theorem Inv.sz (I:Inv X pins σ H s):X.s₀.heap.objs.size<=s.heap.objs.size:=Nat.le_trans I.ok.above (Nat.le_of_lt I.lt)
theorem Inv.nofs (I:Inv X pins σ H s) {a:Addr} (h:s.heap.objs.size<=a):a∉X.fs:=fun hb=>by
 obtain ⟨_,o,ho,_⟩:=I.ok.funs.mem hb
 exact absurd (Nat.lt_of_lt_of_le (Heap.lt_size ho) (Nat.le_trans I.sz h)) (Nat.lt_irrefl _)
theorem Inv.cne (I:Inv X pins σ H s):∀ x c,X.env.cells.lookup x=some c->c≠X.env.locals:=fun x c e z=>by
 obtain ⟨v,o,ho,hd⟩:=I.cell x c e
 obtain ⟨m,⟨o',es,ep,ho',hd',_⟩,_⟩:=I.loc
 rw [z,ho'] at ho;cases ho;rw [hd'] at hd;cases hd
theorem Inv.funs (I:Inv X pins σ H s):s.heap.FunFrames X.base X.outer:=by
 have all:∀ (l:List Env),(∀ b∈frs l,b∈X.fs)->X.s₀.heap.FunFrames X.base l->s.heap.FunFrames X.base l:=by
  intro l
  induction l with
  | nil=>intro _ _;trivial
  | cons env r ih =>
   intro hs hl
   obtain ⟨hk,⟨L,o,hf,hn,ho,hd⟩,hr⟩:=hl
   have hL:L∈X.fs:=hs L (by unfold frs;rw [List.filterMap_cons,hf];exact List.mem_cons_self)
   obtain ⟨sl,e⟩:=I.base.slot L o ho (I.ok.frf L hL) hL fun z=>I.ok.exfs L z hL
   exact ⟨hk,⟨L,_,hf,hn,e,hd⟩,ih (fun b hb=>hs b (by unfold frs;rw [List.filterMap_cons,hf];exact List.mem_cons_of_mem _ hb)) hr⟩
 exact all X.outer (fun _ hb=>hb) I.ok.funs
theorem Inv.stack (I:Inv X pins σ H s):s.heap.FunFrames X.base X.stack:=by
 rcases I.ok.stk with e | ⟨e,hf⟩
 ·rw [e];exact I.funs
 ·rw [e]
  obtain ⟨m,hn,_⟩:=I.loc
  refine .cons (by rw [I.ok.kind];decide) hf hn ?_ I.funs
  exact Heap.get?_none_of_le (Nat.le_trans I.ok.bsz I.ok.above)
theorem Inv.stkSub (I:Inv X pins σ H s):∀ b∈frs X.stack,b∈X.env.locals::X.fs:=fun b hb=>by
 rcases I.ok.stk with e | ⟨e,hf⟩
 ·rw [e] at hb;exact List.mem_cons_of_mem _ hb
 ·rw [e] at hb
  unfold frs at hb
  rw [List.filterMap_cons,hf] at hb
  exact hb
theorem Inv.stkFree (I:Inv X pins σ H s):∀ b∈frs X.stack,H b=none:=fun b hb=>by
 rcases List.mem_cons.mp (I.stkSub b hb) with e | hb
 ·rw [e];exact I.free
 ·obtain ⟨_,o,ho,_⟩:=I.ok.funs.mem hb
  exact I.base.free b o ho (I.ok.frf b hb) fun z=>I.ok.exfs b z hb
theorem Inv.step {g':Array GenState} {t':Nat} {d':Drawn} {ch:List Addr} (I:Inv X pins σ H s)
  (hch:∀ b∈ch,(b∈X.ex\/X.s₀.heap.objs.size<=b)/\b≠X.env.locals/\(∀ x c,X.env.cells.lookup x=some c->c≠b)/\∀ p∈X.pn++pins,p.1≠b)
  (keep:∀ b o,b≠X.env.locals->b∉X.fs->b∉ch->s.heap.get? b=some o->H b=none->h'.get? b=some o)
  (slot:∀ b o,b≠X.env.locals->b∈X.fs->b∉ch->s.heap.get? b=some o->H b=none->∃ sl,h'.get? b=some { o with slots:=sl }) (free:∀ b o,b∉ch->s.heap.get? b=some o->H b=none->H' b=none)
  (there:∀ b o,b∉ch->s.heap.get? b=some o->∃ o',h'.get? b=some o')
  (tups:∀ b xs,H b=some (.tup xs)->H' b=some (.tup xs)) (frzs:∀ b o u,H b=some (.frz o u)->H' b=some (.frz o u)) (tbls:∀ b ps,H b=some (.tbl ps)->∃ more,H' b=some (.tbl (ps++more)))
  (ns:∀ m,s.heap.Ns X.env.locals m->h'.Ns X.env.locals m) (hok:HOk X.prog X.w H' h') (hg:AllBare g') :
  Inv X pins σ H' { s with heap:=h',gens:=g',drawn:=d',toks:=t' }:=by
 have neL:∀ b o,X.s₀.heap.get? b=some o->b≠X.env.locals:=fun b o e=>Nat.ne_of_lt (Nat.lt_of_lt_of_le (Heap.lt_size e) I.ok.above)
 have neC:∀ b o,X.s₀.heap.get? b=some o->b∉X.ex->b∉ch:=fun b o e hx hb=>by
  rcases (hch b hb).1 with z | z
  ·exact hx z
  ·exact absurd (Nat.lt_of_lt_of_le (Heap.lt_size e) z) (Nat.lt_irrefl _)
 have cellK:∀ x c,X.env.cells.lookup x=some c->∀ v,s.heap.IsCell c v->h'.IsCell c v:=fun x c e v ⟨o,ho,hd⟩=>by
  have nch:c∉ch:=fun z=>(hch c z).2.2.1 x c e rfl
  by_cases hc:c∈X.fs
  ·obtain ⟨sl,q⟩:=slot c o (I.cne x c e) hc nch ho (I.freeC x c e)
   exact ⟨_,q,hd⟩
  ·exact ⟨o,keep c o (I.cne x c e) hc nch ho (I.freeC x c e),hd⟩
 refine ⟨I.ok,I.os,hg,⟨fun b o e n hb hx => ?_,fun b o e n hb hx => ?_,fun b o e n hx => ?_,fun b o e hx => ?_,fun b xs e=>tups b xs (I.base.tups b xs e),fun b o xs e=>frzs b o xs (I.base.frzs b o xs e),fun b ps e => ?_⟩,?_,fun x c e => ?_,?_,fun x c e => ?_,fun p hp => ?_,hok,I.len⟩
 ·exact keep b o (neL b o e) hb (neC b o e hx) (I.base.keep b o e n hb hx) (I.base.free b o e n hx)
 ·obtain ⟨sl,e1⟩:=I.base.slot b o e n hb hx
  obtain ⟨sl',e2⟩:=slot b _ (neL b o e) hb (neC b o e hx) e1 (I.base.free b o e n hx)
  exact ⟨sl',e2⟩
 ·obtain ⟨o',e1⟩:=I.base.there b o e hx
  exact free b o' (neC b o e hx) e1 (I.base.free b o e n hx)
 ·obtain ⟨o',e1⟩:=I.base.there b o e hx
  exact there b o' (neC b o e hx) e1
 ·obtain ⟨m1,e1⟩:=I.base.tbls b ps e
  obtain ⟨m2,e2⟩:=tbls b _ e1
  exact ⟨m1++m2,by rw [e2,Array.append_assoc]⟩
 ·obtain ⟨m,hn,hl⟩:=I.loc
  refine ⟨m,ns m hn,fun i x v e1 e2 e3 => ?_⟩
  obtain ⟨u,r,l⟩:=hl i x v e1 e2 e3
  refine ⟨u,r,?_⟩
  rcases l with l | ⟨k,c,e,z⟩
  ·exact .inl l
  ·exact .inr ⟨k,c,e,cellK x c e _ z⟩
 ·obtain ⟨v,z⟩:=I.cell x c e
  exact ⟨v,cellK x c e v z⟩
 ·obtain ⟨m,⟨o,_,_,ho,_⟩,_⟩:=I.loc
  exact free _ o (fun z=>(hch _ z).2.1 rfl) ho I.free
 ·obtain ⟨v,o,ho,hd⟩:=I.cell x c e
  exact free c o (fun z=>(hch c z).2.2.1 x c e rfl) ho (I.freeC x c e)
 ·obtain ⟨e,n,ne,nf,d⟩:=I.pin p hp
  have nch:p.1∉ch:=fun z=>(hch p.1 z).2.2.2 p hp rfl
  exact ⟨keep p.1 p.2 ne nf nch e n,free p.1 p.2 nch e n,ne,nf,d⟩
theorem Inv.un {t':Nat} (I:Inv X pins σ H s) (u:Un X.fs [] H H' s.heap h') (hok:HOk X.prog X.w H' h'):Inv X pins σ H' { s with heap:=h',toks:=t' }:=by
 obtain ⟨m,⟨o,es,ep,ho,r⟩,_⟩:=id I.loc
 obtain ⟨sl,hL⟩:=u.any ho I.free (by simp)
 exact I.step (g':=s.gens) (d':=s.drawn) (ch:=[]) (fun _ z=>nomatch z) (fun b o _ hb _ e n=>u.keep b o e n hb (by simp)) (fun b o _ hb _ e n=>u.slot b o e n hb (by simp)) (fun b o _ e n=>u.free b o e n (by simp)) (fun b o _ e=>u.there b o e (by simp)) u.tups u.frzs u.tbls (fun m' hm=>by
  obtain ⟨o',es',ep',ho',r'⟩:=hm
  rw [ho] at ho';cases ho'
  exact ⟨_,es',ep',hL,r'⟩) hok I.bare
theorem Inv.call {g':Array GenState} {t':Nat} {d':Drawn} {ch:List Addr} (I:Inv X pins σ H s) (u:Un (frs X.stack) ch H H' s.heap h') (hok:HOk X.prog X.w H' h') (hg:AllBare g')
  (hch:∀ b∈ch,(b∈X.ex\/X.s₀.heap.objs.size<=b)/\b≠X.env.locals/\(∀ x c,X.env.cells.lookup x=some c->c≠b)/\∀ p∈X.pn++pins,p.1≠b) :
  Inv X pins σ H' { s with heap:=h',gens:=g',drawn:=d',toks:=t' }:=by
 obtain ⟨m,⟨o,es,ep,ho,r⟩,_⟩:=id I.loc
 obtain ⟨sl,hL⟩:=u.any ho I.free fun z=>(hch _ z).2.1 rfl
 exact I.step (ch:=ch) hch (fun b o hL hb hc e n=>u.keep b o e n (fun z=>(List.mem_cons.mp (I.stkSub b z)).elim hL hb) hc) (fun b o _ _ hc e n=>u.any e n hc) (fun b o hc e n=>u.free b o e n hc) (fun b o hc e=>u.there b o e hc) u.tups u.frzs u.tbls (fun m' hm=>by
  obtain ⟨o',es',ep',ho',r'⟩:=hm
  rw [ho] at ho';cases ho'
  exact ⟨_,es',ep',hL,r'⟩) hok hg
theorem Inv.turned {t':Nat} {it:Addr} (I:Inv X pins σ H s) (k:∀ b o,b≠it->s.heap.get? b=some o->h'.get? b=some o) (hn:H it=none) (hL:it≠X.env.locals)
  (h1:it∈X.ex\/X.s₀.heap.objs.size<=it) (h2:∀ x c,X.env.cells.lookup x=some c->c≠it) (h3:∀ p∈X.pn++pins,p.1≠it):Inv X pins σ H { s with heap:=h',toks:=t' }:=by
 have nit:∀ b u,H b=some u->b≠it:=fun b u e z=>by rw [z,hn] at e;cases e
 refine I.step (g':=s.gens) (d':=s.drawn) (ch:=[it]) (fun b hb => ?_) (fun b o _ _ hc e _=>k b o (fun z=>hc (by simp [z])) e) (fun b o _ _ hc e _=>⟨o.slots,k b o (fun z=>hc (by simp [z])) e⟩) (fun _ _ _ _ n=>n)
  (fun b o hc e=>⟨o,k b o (fun z=>hc (by simp [z])) e⟩) (fun _ _ e=>e) (fun _ _ _ e=>e) (fun b ps e=>⟨#[],by rw [e];simp⟩) (fun m hm => ?_) (fun b u e => ?_) I.bare
 ·have e:b=it:=by simpa using hb
  subst e
  exact ⟨h1,hL,h2,h3⟩
 ·obtain ⟨o,es,ep,ho,r⟩:=hm
  exact ⟨o,es,ep,k _ o (Ne.symm hL) ho,r⟩
 ·refine (I.hok b u e).stay (fun c v hc q=>k c v ?_ q) (fun _ q=>q) fun _ _ q=>q
  rcases hc with z | z
  ·rw [z];exact nit b u e
  ·exact nit c _ z
theorem Inv.tok (I:Inv X pins σ H s) (t:Nat):Inv X pins σ H { s with toks:=t }:=I.un (h':=s.heap) (t':=t) Un.refl I.hok
theorem Inv.kept {t':Nat} (I:Inv X pins σ H s) (k:∀ b u,s.heap.get? b=some u->h'.get? b=some u):Inv X pins σ H { s with heap:=h',toks:=t' }:=I.un (Un.kept k) (I.hok.kept k)
theorem Inv.laid {a:Addr} {o:HO} {t':Nat} (I:Inv X pins σ H s) (k:∀ b u,s.heap.get? b=some u->h'.get? b=some u) (hp:s.heap.objs.size<=a) (new:jt X.prog X.w (upd H a o) h' a o) :
  Inv X pins σ (upd H a o) { s with heap:=h',toks:=t' }:=I.un (Un.laid k hp (I.hok.fresh hp)) (I.hok.laid k hp new)
theorem Inv.write {x e:Addr} {o:HO} {t':Nat} (I:Inv X pins σ H s) (mu:Mut (H x)) (he:e=x\/H e=some (.own x)) (k:∀ b u,b≠e->s.heap.get? b=some u->h'.get? b=some u) (heo:∃ u,h'.get? e=some u)
  (new:jt X.prog X.w (upd H x o) h' x o):Inv X pins σ (upd H x o) { s with heap:=h',toks:=t' }:=I.un (Un.write mu he k heo) (I.hok.write mu he k heo new)
theorem Inv.pins_of {pins':List (Addr×Obj)} (I:Inv X pins σ H s) (h:∀ p∈pins',s.heap.get? p.1=some p.2/\H p.1=none/\p.1≠X.env.locals/\p.1∉X.fs/\∀ v,p.2.data ≠ .cell v):Inv X pins' σ H s :=
 ⟨I.ok,I.os,I.bare,I.base,I.loc,I.cell,I.free,I.freeC,fun p hp=>(List.mem_append.mp hp).elim (fun z=>I.pin p (List.mem_append_left _ z)) (h p),I.hok,I.len⟩
theorem wc {N:List Str} (hN:N.Nodup) {i j:Nat} {x:Str} (a:N[i]? = some x) (b:N[j]? = some x):i=j:=by
 obtain ⟨h1,e1⟩:=List.getElem?_eq_some_iff.mp a
 obtain ⟨h2,e2⟩:=List.getElem?_eq_some_iff.mp b
 exact (List.getElem_inj hN).mp (e1.trans e2.symm)
theorem zL {M:Model} {A:Around} {E:Value->Shared->Prop} {i:Nat} {x:Str} {v:V} {u:Value} {Q:Unit->Shared->Prop} (I:Inv X pins σ H s) (hN:X.N.Nodup) (hi:X.N[i]? = some x) (hx:Loc X.env.scope x) (r:RelV v u)
  (h:∀ s',Inv X pins (σ.set i (some v)) H s'->(∃ a,Heap.SameBut a s.heap s'.heap/\(a=X.env.locals\/X.env.cells.lookup x=some a))->Q () s') (hf:X.fn x=true\/X.env.scope.names.lookup x=some .local:=by first | exact .inl rfl | exact .inr rfl | assumption):wpAny M A (storeName X.env x u) Q E s:=by
 obtain ⟨m,hn,hl⟩:=id I.loc
 have hcls:(X.env.scope.kind == .class||(X.env.scope.kind == .module&&X.env.locals != X.env.globals))=false:=by rw [I.ok.kind];rfl
 have hiσ:i<σ.length:=by rw [I.len];exact (List.getElem?_eq_some_iff.mp hi).1
 have cne:=I.cne
 have tracked:∀ {a:Addr} {h':Heap},(∃ o,s.heap.get? a=some o/\H a=none)->Heap.SameBut a s.heap h'->HOk X.prog X.w H h':=fun {a h'} ha hs b ob e=>by
  obtain ⟨_,_,hfree⟩:=ha
  refine (I.hok b ob e).stay (fun c w' hc q=>(hs.2 c ?_).trans q) (fun _ q=>q) fun _ _ q=>q
  rintro rfl
  rcases hc with rfl | hc
  ·rw [hfree] at e;cases e
  ·rw [hfree] at hc;cases hc
 rcases hx with hk | hk
 ·refine wpAny_storeName_local hk hn (fun h' hn' hs => ?_) hcls
  obtain ⟨oL,_,_,hoL,_⟩:=id hn
  refine h _ ⟨I.ok,I.os,I.bare,⟨fun b o e n hb hx => ?_,fun b o e n hb hx => ?_,I.base.free,fun b o e hx => ?_,I.base.tups,I.base.frzs,I.base.tbls⟩,⟨_,hn',fun j y v' e1 e2 e3 => ?_⟩,fun y c e => ?_,I.free,I.freeC,fun p hp => ?_,tracked ⟨oL,hoL,I.free⟩ hs,by simpa using I.len⟩ ⟨_,hs,.inl rfl⟩
  ·exact (hs.2 b (Nat.ne_of_lt (Nat.lt_of_lt_of_le (Heap.lt_size e) I.ok.above))).trans (I.base.keep b o e n hb hx)
  ·obtain ⟨sl,e1⟩:=I.base.slot b o e n hb hx
   exact ⟨sl,(hs.2 b (Nat.ne_of_lt (Nat.lt_of_lt_of_le (Heap.lt_size e) I.ok.above))).trans e1⟩
  ·obtain ⟨o',e1⟩:=I.base.there b o e hx
   exact ⟨o',(hs.2 b (Nat.ne_of_lt (Nat.lt_of_lt_of_le (Heap.lt_size e) I.ok.above))).trans e1⟩
  ·by_cases hj:j=i
   ·subst hj
    rw [hi] at e1;cases e1
    rw [List.getElem?_set_self hiσ] at e2
    cases e2
    exact ⟨u,r,.inl ⟨hk,by simp⟩⟩
   ·rw [List.getElem?_set_ne (Ne.symm hj)] at e2
    obtain ⟨u',r',q⟩:=hl j y v' e1 e2 e3
    refine ⟨u',r',?_⟩
    rcases q with ⟨k,e⟩ | ⟨k,c,e,z⟩
    ·refine .inl ⟨k,?_⟩
     have:y≠x:=fun e=>hj (wc hN e1 (e▸hi))
     simp [this,e]
    ·exact .inr ⟨k,c,e,z.sameBut hs (cne y c e)⟩
  ·obtain ⟨w',z⟩:=I.cell y c e
   exact ⟨w',z.sameBut hs (cne y c e)⟩
  ·obtain ⟨e,n,ne,nf,d⟩:=I.pin p hp
   exact ⟨(hs.2 p.1 ne).trans e,n,ne,nf,d⟩
 ·have hfn:X.fn x=true:=by
   rcases hf with z | z
   ·exact z
   ·rw [z] at hk;cases hk
  obtain ⟨c,hc⟩:=I.ok.has x (.inl hk)
  obtain ⟨w',z⟩:=I.cell x c hc
  refine wpAny_storeName_cell I.ok.kind hk hc z (fun h' hc' hs => ?_)
  obtain ⟨oc,hoc,hocd⟩:=id z
  refine h { s with heap:=h' } ⟨I.ok,I.os,I.bare,⟨fun b o e n hb hx => ?_,fun b o e n hb hx => ?_,I.base.free,fun b o e hx => ?_,I.base.tups,I.base.frzs,I.base.tbls⟩,⟨m,hn.sameBut hs (Ne.symm (cne x c hc)),fun j y v' e1 e2 e3 => ?_⟩,fun y c' e => ?_,I.free,I.freeC,fun p hp => ?_,tracked ⟨oc,hoc,I.freeC x c hc⟩ hs,by simpa using I.len⟩ ⟨c,hs,.inr hc⟩
  ·exact (hs.2 b (Nat.ne_of_lt (Nat.lt_of_lt_of_le (Heap.lt_size e) (I.ok.cab x c hfn hc)))).trans (I.base.keep b o e n hb hx)
  ·obtain ⟨sl,e1⟩:=I.base.slot b o e n hb hx
   exact ⟨sl,(hs.2 b (Nat.ne_of_lt (Nat.lt_of_lt_of_le (Heap.lt_size e) (I.ok.cab x c hfn hc)))).trans e1⟩
  ·obtain ⟨o',e1⟩:=I.base.there b o e hx
   exact ⟨o',(hs.2 b (Nat.ne_of_lt (Nat.lt_of_lt_of_le (Heap.lt_size e) (I.ok.cab x c hfn hc)))).trans e1⟩
  ·by_cases hj:j=i
   ·subst hj
    rw [hi] at e1;cases e1
    rw [List.getElem?_set_self hiσ] at e2
    cases e2
    exact ⟨u,r,.inr ⟨.inl hk,c,hc,hc'⟩⟩
   ·rw [List.getElem?_set_ne (Ne.symm hj)] at e2
    obtain ⟨u',r',q⟩:=hl j y v' e1 e2 e3
    refine ⟨u',r',?_⟩
    rcases q with q | ⟨k,c',e,z'⟩
    ·exact .inl q
    ·refine .inr ⟨k,c',e,z'.sameBut hs ?_⟩
     rintro rfl
     exact hj (wc hN e1 (I.ok.inj _ _ _ e hc▸hi))
  ·by_cases hcc:c'=c
   ·subst hcc;exact ⟨_,hc'⟩
   ·obtain ⟨w2,z2⟩:=I.cell y c' e
    exact ⟨w2,z2.sameBut hs hcc⟩
  ·obtain ⟨e,n,ne,nf,d⟩:=I.pin p hp
   refine ⟨(hs.2 p.1 ?_).trans e,n,ne,nf,d⟩
   intro q
   rw [q,hoc] at e
   have q':oc=p.2:=Option.some.inj e
   exact d w' (by rw [<- q'];exact hocd)
theorem vb {M:Model} {A:Around} {E:Value->Shared->Prop} {i:Nat} {x:Str} {v:V} {u:Value} {Q:Unit->Shared->Prop} (I:Inv X pins σ H s) (hN:X.N.Nodup) (hi:X.N[i]? = some x) (hx:Loc X.env.scope x) (r:RelV v u)
  (h:∀ s',Inv X pins (σ.set i (some v)) H s'->Q () s') (hf:X.fn x=true\/X.env.scope.names.lookup x=some .local:=by first | exact .inl rfl | exact .inr rfl | assumption):wpAny M A (storeName X.env x u) Q E s :=
 zL I hN hi hx r (fun s' I' _=>h s' I') hf
theorem Inv.call' {s':Shared} {ch:List Addr} (I:Inv X pins σ H s) (ho:s'.os=s.os) (u:Un (frs X.stack) ch H H' s.heap s'.heap) (hok:HOk X.prog X.w H' s'.heap) (hg:AllBare s'.gens)
  (hch:∀ b∈ch,(b∈X.ex\/X.s₀.heap.objs.size<=b)/\b≠X.env.locals/\(∀ x c,X.env.cells.lookup x=some c->c≠b)/\∀ p∈X.pn++pins,p.1≠b):Inv X pins σ H' s':=by
 obtain ⟨h',g',d',t',o'⟩:=s'
 have e:o'=s.os:=ho
 subst e
 exact I.call (g':=g') (t':=t') (d':=d') u hok hg hch
end
noncomputable abbrev XK:=Value->Option Addr->Hp->Prop
noncomputable abbrev St:=List (Option V)
noncomputable abbrev VK:=V->Hp->Prop
noncomputable abbrev TE:=St->Hp->VK->Prop
noncomputable abbrev TT:=St->Hp->(Bool->Hp->Prop)->Prop
noncomputable abbrev TA:=St->Hp->(List V->Hp->Prop)->Prop
structure Ends where
 nx:St->Hp->Prop
 rt:VK
 bk:St->Hp->Prop:=fun _ _=>False
 ct:St->Hp->Prop:=fun _ _=>False
noncomputable abbrev TS:=Ends->St->Hp->Prop
def EP (X:Cx) (pins:List (Addr×Obj)) (σ:St) (Q:VK) (u:Value) (s':Shared):Prop:=∃ v H',Inv X pins σ H' s'/\RelV v u/\Q v H'
def TP (X:Cx) (pins:List (Addr×Obj)) (σ:St) (Q:Bool->Hp->Prop) (b:Bool) (s':Shared):Prop:=∃ H',Inv X pins σ H' s'/\Q b H'
def AP (X:Cx) (pins:List (Addr×Obj)) (σ:St) (Q:List V->Hp->Prop) (us:List Value) (s':Shared):Prop:=∃ vs H',Inv X pins σ H' s'/\Vals vs us/\Q vs H'
def SP (X:Cx) (pins:List (Addr×Obj)) (D:Ends) (f:Flow) (s':Shared):Prop :=
 match f with
 | .next=>∃ σ' H',Inv X pins σ' H' s'/\D.nx σ' H'
 | .brk=>∃ σ' H',Inv X pins σ' H' s'/\D.bk σ' H'
 | .cont=>∃ σ' H',Inv X pins σ' H' s'/\D.ct σ' H'
 | .ret u=>∃ v σ' H',Inv X pins σ' H' s'/\RelV v u/\D.rt v H'
def PE (X:Cx) (e:Expr) (t:TE):Prop :=
 ∀ (pins:List (Addr×Obj)) (s:Shared) (σ:St) (H:Hp) (Q:VK),Inv X pins σ H s->t σ H Q->wpAny (model X.prog X.w) X.A (eval e X.env) (EP X pins σ Q) X.xe s
def PT (X:Cx) (e:Expr) (t:TT):Prop :=
 ∀ (pins:List (Addr×Obj)) (s:Shared) (σ:St) (H:Hp) (Q:Bool->Hp->Prop),Inv X pins σ H s->t σ H Q->wpAny (model X.prog X.w) X.A (isTrue e X.env (eval e X.env)) (TP X pins σ Q) X.xe s
def PW (X:Cx) (e:Expr) (t:TT):Prop :=
 ∀ (whole:Sem Value) (pins:List (Addr×Obj)) (s:Shared) (σ:St) (H:Hp) (Q:Bool->Hp->Prop),Inv X pins σ H s->t σ H Q->wpAny (model X.prog X.w) X.A (isTrue e X.env whole) (TP X pins σ Q) X.xe s
theorem PW.pt {X:Cx} {e:Expr} {t:TT} (h:PW X e t):PT X e t:=h _
def PA (X:Cx) (es:List Expr) (t:TA):Prop :=
 ∀ (pos:Pos) (pins:List (Addr×Obj)) (s:Shared) (σ:St) (H:Hp) (Q:List V->Hp->Prop),Inv X pins σ H s->t σ H Q->wpAny (model X.prog X.w) X.A (spliced (backTo pos (starEach es X.env))) (AP X pins σ Q) X.xe s
def PS (X:Cx) (st:Stmt) (t:TS):Prop :=
 ∀ (pins:List (Addr×Obj)) (s:Shared) (σ:St) (H:Hp) (D:Ends),Inv X pins σ H s->t D σ H->wpAny (model X.prog X.w) X.A (exec st X.env) (SP X pins D) X.xe s
def PSs (X:Cx) (st:List Stmt) (t:TS):Prop :=
 ∀ (pins:List (Addr×Obj)) (s:Shared) (σ:St) (H:Hp) (D:Ends),Inv X pins σ H s->t D σ H->wpAny (model X.prog X.w) X.A (execs st X.env) (SP X pins D) X.xe s
theorem thn {α:Type} {t:Sem α} {Q Q':α->Shared->Prop} {M:Model} {A:Around} {E:Value->Shared->Prop} {s:Shared} (h:wpAny M A t Q E s) (hQ:∀ a s,Q a s->Q' a s):wpAny M A t Q' E s:=wpAny_mono h hQ fun _ _ x=>x
end L2
namespace L2
open PySem PySem.Spec PyProof.Rows
section
variable {X:Cx}
theorem bin {a b:Expr} {ta tb:TE} (ha:PE X a ta) (hb:PE X b tb) {pins:List (Addr×Obj)} {s:Shared} {σ:St} {H:Hp} {R:V->V->Hp->Prop} (I:Inv X pins σ H s) (h:ta σ H fun x H1=>tb σ H1 fun y H2=>R x y H2)
  {α:Type} {Q:α->Shared->Prop} {f:Value->Value->Sem α}
  (hf:∀ v u s2 x y H2,Inv X pins σ H2 s2->RelV x v->RelV y u->R x y H2->wpAny (model X.prog X.w) X.A (f v u) Q X.xe s2) :
  wpAny (model X.prog X.w) X.A (eval a X.env) (fun v s₁=>wpAny (model X.prog X.w) X.A (eval b X.env) (fun u s₂=>wpAny (model X.prog X.w) X.A (f v u) Q X.xe s₂) X.xe s₁) X.xe s:=by
 refine thn (ha pins s σ H _ I h) fun v s1 ⟨x,H1,I1,r1,q1⟩ => ?_
 refine thn (hb pins s1 σ H1 _ I1 q1) fun u s2 ⟨y,H2,I2,r2,q2⟩ => ?_
 exact hf v u s2 x y H2 I2 r1 r2 q2
noncomputable def Ql (i:Nat):TE:=fun σ H Q=>∃ v,σ[i]? = some (some v)/\Q v H
noncomputable def tC (v:V):TE:=fun _ H Q=>Q v H
theorem Ak {i:Nat} {x:Str} {pos:Pos} (hN:X.N[i]? = some x) (hv:Vis X.env.scope x) (hd:(x == ("__debug__":Str))=false:=by decide) (hcd:(x == ("__classdict__":Str))=false:=by decide):PE X (.Name x pos) (Ql i):=by
 intro pins s σ H Q I h
 obtain ⟨v,e,h⟩:=h
 obtain ⟨m,hn,hl⟩:=I.loc
 obtain ⟨u,r,l⟩:=hl i x v hN e hv
 have fin:EP X pins σ Q u s:=⟨v,H,I,r,h⟩
 rcases l with ⟨hk,hm⟩ | ⟨hk,c,hc,hcell⟩
 ·exact wpAny_Name (wpAny_loadName_local I.ok.kind hk hn hm fin) hd
 ·rcases hk with hk | hk
  ·exact wpAny_Name (wpAny_loadName_cell I.ok.kind hk hc hcell fin) hd
  ·exact wpAny_Name (wpAny_loadName_free I.ok.kind hk hc hcell fin hcd) hd
theorem Ja {i j pos}:PE X (.Constant (.int i) j pos) (tC (.int i)):=fun _ _ _ H _ I h=>wpAny_Constant_int ⟨.int i,H,I.tok _,⟨_,rfl⟩,h⟩
theorem K8 {b j pos}:PE X (.Constant (.bool b) j pos) (tC (.bl b)):=fun _ _ _ H _ I h=>Constant_bool ⟨.bl b,H,I,rfl,h⟩
theorem IY {j pos}:PE X (.Constant .none j pos) (tC .non):=fun _ _ _ H _ I h=>Constant_none ⟨.non,H,I,rfl,h⟩
theorem Ep {x j pos}:PE X (.Constant (.str x) j pos) (tC (.str x)):=fun _ _ _ H _ I h=>Calls.Constant_str ⟨.str x,H,I.tok _,⟨_,rfl⟩,h⟩
def Gl (X:Cx) (x:Str):Prop:=X.env.kindOf x=some .globalImplicit
theorem pT {E:Value->Shared->Prop} {pins:List (Addr×Obj)} {s:Shared} {σ:St} {H:Hp} {x:Str} {u:Value} {pos:Pos} {Q:Value->Shared->Prop} (I:Inv X pins σ H s) (hg:Gl X x) (hm:X.mg x=some u) (h:Q u s)
  (hd:(x == ("__debug__":Str))=false:=by decide):wpAny (model X.prog X.w) X.A (eval (.Name x pos) X.env) Q E s :=
 Calls.Name_function_global I.ok.kind hg (Calls.loadGlobal_global (by rw [I.ok.glob];exact I.mod.glob.keeps I.bk) hm h) hd
theorem AZ {E:Value->Shared->Prop} {pins:List (Addr×Obj)} {s:Shared} {σ:St} {H:Hp} {x:Str} {u:Value} {pos:Pos} {Q:Value->Shared->Prop} (I:Inv X pins σ H s) (hg:Gl X x) (hm:X.mg x=none) (hv:bootBuiltins x=some u) (h:Q u s)
  (hn:x≠"__name__":=by decide) (hd:(x == ("__debug__":Str))=false:=by decide):wpAny (model X.prog X.w) X.A (eval (.Name x pos) X.env) Q E s:=by
 obtain ⟨mb,h1,h2⟩:=I.mod.blt
 exact Calls.Name_function_global I.ok.kind hg (Calls.loadGlobal_builtin (by rw [I.ok.glob];exact I.mod.glob.keeps I.bk) hm (by rw [I.ok.blt];exact h1.keeps I.bk) ((h2 x hn).trans hv) h) hd
theorem tZ {x:Str} {v:V} {u:Value} {pos:Pos} (hg:Gl X x) (hm:X.mg x=some u) (r:RelV v u) (hd:(x == ("__debug__":Str))=false:=by decide):PE X (.Name x pos) (tC v) :=
 fun _ _ _ H _ I h=>pT I hg hm ⟨v,H,I,r,h⟩ hd
theorem Gd {x:Str} {v:V} {u:Value} {pos:Pos} (hg:Gl X x) (hm:X.mg x=none) (hv:bootBuiltins x=some u) (r:RelV v u) (hn:x≠"__name__":=by decide) (hd:(x == ("__debug__":Str))=false:=by decide):PE X (.Name x pos) (tC v) :=
 fun _ _ _ H _ I h=>AZ I hg hm hv ⟨v,H,I,r,h⟩ hn hd
variable {a b:Expr} {ta tb:TE} {pos:Pos}
noncomputable def tB (t:TE):TT:=fun σ H Q=>t σ H fun x H1=>∃ c,x=.bl c/\Q c H1
theorem II {e:Expr} {t:TE} (h:PE X e t) (he:∀ whole,isTrue e X.env whole=(do let v<-whole;standAt e.pos;holding [v] (truthy v)):=by intro _;rfl):PT X e (tB t):=by
 intro pins s σ H Q I hw
 refine isTrue_plain (thn (h pins s σ H _ I hw) fun v s1 ⟨x,H1,I1,r1,q1⟩ => ?_) (he _)
 obtain ⟨d,rfl,q⟩:=q1
 cases r1
 exact wpAny_truthy_bool ⟨H1,I1,q⟩
variable {tA tB':TT} {rest:List Expr}
noncomputable def Qy (t u:TT):TT:=fun σ H Q=>t σ H fun c H1=>if c=true then u σ H1 Q else Q false H1
noncomputable def tOr (t u:TT):TT:=fun σ H Q=>t σ H fun c H1=>if c=true then Q true H1 else u σ H1 Q
noncomputable def Qq (t:TT):TT:=fun σ H Q=>t σ H fun c H1=>Q (!c) H1
theorem F0 (ha:PT X a tA):PW X (.BoolOp .And [a] pos) tA:=by
 intro wh pins s σ H Q I h
 refine isTrue_and (thn (ha pins s σ H Q I h) fun c s1 e => ?_)
 cases c with
 | true=>exact isTrue_and_nil e
 | false=>exact e
theorem ID (ha:PT X a tA):PW X (.BoolOp .Or [a] pos) tA:=by
 intro wh pins s σ H Q I h
 refine isTrue_or (thn (ha pins s σ H Q I h) fun c s1 e => ?_)
 cases c with
 | false=>exact isTrue_or_nil e
 | true=>exact e
theorem IE (ha:PT X a tA) (hb:PW X (.BoolOp .And (b::rest) pos) tB'):PW X (.BoolOp .And (a::b::rest) pos) (Qy tA tB'):=by
 intro wh pins s σ H Q I h
 refine isTrue_and (thn (ha pins s σ H _ I h) fun c s1 ⟨H1,I1,q1⟩ => ?_)
 cases c with
 | true=>exact hb wh pins s1 σ H1 Q I1 q1
 | false=>exact ⟨H1,I1,q1⟩
theorem K0 (ha:PT X a tA) (hb:PW X (.BoolOp .Or (b::rest) pos) tB'):PW X (.BoolOp .Or (a::b::rest) pos) (tOr tA tB'):=by
 intro wh pins s σ H Q I h
 refine isTrue_or (thn (ha pins s σ H _ I h) fun c s1 ⟨H1,I1,q1⟩ => ?_)
 cases c with
 | true=>exact ⟨H1,I1,q1⟩
 | false=>exact hb wh pins s1 σ H1 Q I1 q1
theorem IJ (ha:PT X a tA):PT X (.UnaryOp .Not a pos) (Qq tA):=by
 intro pins s σ H Q I h
 exact isTrue_not (ha pins s σ H (fun c H1=>Q (!c) H1) I h)
noncomputable def KQ (ta tb:TE):TE:=fun σ H Q=>ta σ H fun x H1=>∃ c,x=.bl c/\if c=true then tb σ H1 Q else Q (.bl false) H1
noncomputable def Qp (ta tb:TE):TE:=fun σ H Q=>ta σ H fun x H1=>∃ c,x=.bl c/\if c=true then Q (.bl true) H1 else tb σ H1 Q
noncomputable def KJ (ta:TE):TE:=fun σ H Q=>ta σ H fun x H1=>∃ c,x=.bl c/\Q (.bl (!c)) H1
theorem IW {op} {t:TE} (h:PE X a t):PE X (.BoolOp op [a] pos) t:=fun pins s σ H Q I hw=>BoolOp_one (h pins s σ H Q I hw)
theorem Jd (ha:PE X a ta) (hb:PE X (.BoolOp .And (b::rest) pos) tb):PE X (.BoolOp .And (a::b::rest) pos) (KQ ta tb):=by
 intro pins s σ H Q I h
 refine BoolOp_and (thn (ha pins s σ H _ I h) fun v s1 ⟨x,H1,I1,r1,q1⟩ => ?_)
 obtain ⟨c,rfl,q1⟩:=q1
 cases r1
 refine wpAny_truthy_bool ?_
 cases c with
 | true=>exact hb pins s1 σ H1 Q I1 q1
 | false=>exact ⟨.bl false,H1,I1,rfl,q1⟩
theorem K4 (ha:PE X a ta) (hb:PE X (.BoolOp .Or (b::rest) pos) tb):PE X (.BoolOp .Or (a::b::rest) pos) (Qp ta tb):=by
 intro pins s σ H Q I h
 refine BoolOp_or (thn (ha pins s σ H _ I h) fun v s1 ⟨x,H1,I1,r1,q1⟩ => ?_)
 obtain ⟨c,rfl,q1⟩:=q1
 cases r1
 refine wpAny_truthy_bool ?_
 cases c with
 | false=>exact hb pins s1 σ H1 Q I1 q1
 | true=>exact ⟨.bl true,H1,I1,rfl,q1⟩
theorem IX (ha:PE X a ta):PE X (.UnaryOp .Not a pos) (KJ ta):=by
 intro pins s σ H Q I h
 refine UnaryOp_ (thn (ha pins s σ H _ I h) fun v s1 ⟨x,H1,I1,r1,q1⟩ => ?_)
 obtain ⟨c,rfl,q1⟩:=q1
 cases r1
 exact not_of (wpAny_truthy_bool ⟨.bl (!c),H1,I1,rfl,q1⟩)
noncomputable def tIf (t:TT) (ta tb:TE):TE:=fun σ H Q=>t σ H fun c H1=>if c=true then ta σ H1 Q else tb σ H1 Q
theorem Cy {c:Expr} (hc:PT X c tA) (ha:PE X a ta) (hb:PE X b tb):PE X (.IfExp c a b pos) (tIf tA ta tb):=by
 intro pins s σ H Q I h
 refine wpAny_IfExp (thn (hc pins s σ H _ I h) fun d s1 ⟨H1,I1,q1⟩ => ?_)
 cases d with
 | true=>exact ha pins s1 σ H1 Q I1 q1
 | false=>exact hb pins s1 σ H1 Q I1 q1
end
end L2
namespace L2
open PySem PySem.Spec PyProof.Rows
def SqL (K:PySem.W.Frag) (H:Hp) (a:Addr) (xs:List V):Prop :=
 Rd H a (.lst xs) \/
  ∃ (o:Obj) (its:Array Value) (n:Nat),K.lookup a=some o/\o.cls=.type "list"/\o.dict=none/\o.data=.seq its n/\its.size<=sizeLine/\Vals xs its.toList
def SqT (K:PySem.W.Frag) (H:Hp) (a:Addr) (xs:List V):Prop :=
 Rd H a (.tup xs) \/
  ∃ (o:Obj) (its:Array Value) (n:Nat),K.lookup a=some o/\o.cls=.type "tuple"/\o.data=.seq its n/\its.size<=sizeLine/\Vals xs its.toList
noncomputable def SK:Value->Option V
 | .none=>some .non
 | .bool b=>some (.bl b)
 | .int i _=>some (.int i)
 | .str x _=>some (.str x)
 | .bytes b _=>some (.byt b)
 | .float b _=>some (.flt b)
 | .ref a=>some (.ref a)
 | .type n=>some (.ty n)
 | _=>none
theorem RelV.abs {x:V} {u:Value} (r:RelV x u):SK u=some x:=by
 cases x with
 | non=>cases r;rfl
 | bl _=>cases r;rfl
 | int _=>obtain ⟨t,rfl⟩:=r;rfl
 | str _=>obtain ⟨t,rfl⟩:=r;rfl
 | byt _=>obtain ⟨t,rfl⟩:=r;rfl
 | flt _=>obtain ⟨t,rfl⟩:=r;rfl
 | ref _=>cases r;rfl
 | ty _=>cases r;rfl
theorem RelV.inj {x y:V} {u:Value} (r:RelV x u) (q:RelV y u):x=y:=Option.some.inj (r.abs.symm.trans q.abs)
theorem Vals.inj:∀ {xs ys:List V} {us:List Value},Vals xs us->Vals ys us->xs=ys
 | _,_,_,.nil,.nil=>rfl
 | _,_,_,.cons r t,.cons r' t'=>by rw [r.inj r',Vals.inj t t']
section
variable {X:Cx} {pins:List (Addr×Obj)} {σ:St} {H:Hp} {s:Shared} {a:Addr} {xs ys:List V}
theorem SqL.of {K:PySem.W.Frag} (h:H a=some (.lst xs)):SqL K H a xs:=.inl (.inl h)
theorem SqT.of {K:PySem.W.Frag} (h:H a=some (.tup xs)):SqT K H a xs:=.inl (.inl h)
theorem Inv.list (I:Inv X pins σ H s) (h:SqL X.K H a xs):∃ its:List Value,Vals xs its/\PlainL s.heap a its.toArray/\xs.length<=sizeLine:=by
 rcases h with h | ⟨o,its,n,hk,hc,hd,hs,hz,r⟩
 ·obtain ⟨z,its,n,r,e⟩:=h.ok I.hok
  exact ⟨its,r,⟨_,n,e,rfl,rfl,rfl⟩,z⟩
 ·refine ⟨its.toList,r,⟨o,n,I.kIn a o hk,hc,hd,by simpa using hs⟩,?_⟩
  have e:=r.length
  simp only [Array.length_toList] at e
  omega
theorem Inv.tuple (I:Inv X pins σ H s) (h:SqT X.K H a xs):∃ its:List Value,Vals xs its/\IsTup s.heap a its.toArray/\xs.length<=sizeLine:=by
 rcases h with h | ⟨o,its,n,hk,hc,hs,hz,r⟩
 ·obtain ⟨z,its,r,p⟩:=h.ok I.hok
  exact ⟨its,r,p,z⟩
 ·refine ⟨its.toList,r,⟨o,I.kIn a o hk,hc,n,by simpa using hs⟩,?_⟩
  have e:=r.length
  simp only [Array.length_toList] at e
  omega
theorem Inv.list_inj (I:Inv X pins σ H s) (h:SqL X.K H a xs) (h':SqL X.K H a ys):xs=ys:=by
 obtain ⟨its,r,⟨o,n,e,_,_,d⟩,_⟩:=I.list h
 obtain ⟨its',r',⟨o',n',e',_,_,d'⟩,_⟩:=I.list h'
 rw [e] at e';cases e'
 rw [d] at d'
 injection d' with d1 _
 have:its=its':=by simpa using congrArg Array.toList d1
 subst this
 exact r.inj r'
theorem Inv.tuple_inj (I:Inv X pins σ H s) (h:SqT X.K H a xs) (h':SqT X.K H a ys):xs=ys:=by
 obtain ⟨its,r,⟨o,e,_,n,d⟩,_⟩:=I.tuple h
 obtain ⟨its',r',⟨o',e',_,n',d'⟩,_⟩:=I.tuple h'
 rw [e] at e';cases e'
 rw [d] at d'
 injection d' with d1 _
 have:its=its':=by simpa using congrArg Array.toList d1
 subst this
 exact r.inj r'
end
noncomputable abbrev Cx.wish (X:Cx) (E:Value->Shared->Prop):Cx:={ X with xe:=E }
noncomputable abbrev Cx.nox (X:Cx):Cx:=X.wish fun _ _=>False
theorem Cx.Ok.wish {X:Cx} (ok:X.Ok) (E:Value->Shared->Prop):(X.wish E).Ok :=
 ⟨ok.mod,ok.kind,ok.glob,ok.blt,ok.above,ok.inj,ok.has,ok.cab,ok.hd,ok.frames,ok.stk,ok.exf,ok.bs,ok.bsz,ok.noex,ok.exfs,ok.funs,ok.frf⟩
theorem Cx.Ok.unwish {X:Cx} {E:Value->Shared->Prop} (ok:(X.wish E).Ok):X.Ok :=
 ⟨ok.mod,ok.kind,ok.glob,ok.blt,ok.above,ok.inj,ok.has,ok.cab,ok.hd,ok.frames,ok.stk,ok.exf,ok.bs,ok.bsz,ok.noex,ok.exfs,ok.funs,ok.frf⟩
section
variable {X:Cx} {pins:List (Addr×Obj)} {σ:St} {H:Hp} {s:Shared} {E:Value->Shared->Prop}
theorem Inv.wish (I:Inv X pins σ H s) (E:Value->Shared->Prop):Inv (X.wish E) pins σ H s:=⟨I.ok.wish E,I.os,I.bare,I.base,I.loc,I.cell,I.free,I.freeC,I.pin,I.hok,I.len⟩
theorem Inv.unwish (I:Inv (X.wish E) pins σ H s):Inv X pins σ H s:=⟨I.ok.unwish,I.os,I.bare,I.base,I.loc,I.cell,I.free,I.freeC,I.pin,I.hok,I.len⟩
theorem SP.unwish {D:Ends} {f:Flow} {s':Shared} (h:SP (X.wish E) pins D f s'):SP X pins D f s':=by
 cases f with
 | next=>obtain ⟨σ',H',I,q⟩:=h;exact ⟨σ',H',I.unwish,q⟩
 | brk=>obtain ⟨σ',H',I,q⟩:=h;exact ⟨σ',H',I.unwish,q⟩
 | cont=>obtain ⟨σ',H',I,q⟩:=h;exact ⟨σ',H',I.unwish,q⟩
 | ret u=>obtain ⟨v,σ',H',I,r,q⟩:=h;exact ⟨v,σ',H',I.unwish,r,q⟩
theorem PSs.nox {st:List Stmt} {t:TS} (h:PSs X.nox st t):PSs X st t:=fun pins s σ H D I hw =>
 wpAny_mono (h pins s σ H D (I.wish _) hw) (fun _ _ q=>q.unwish) fun _ _ z=>False.elim z
end
section
variable {X:Cx} {st:Stmt} {rest:List Stmt} {t u:TS} {e:Expr} {te:TE} {pos:Pos}
noncomputable def KL:TS:=fun D σ H=>D.nx σ H
noncomputable def Qn (t u:TS):TS:=fun D σ H=>t { D with nx:=u D } σ H
theorem F3:PSs X [] KL:=fun _ _ σ H _ I h=>wpAny_execs_nil ⟨σ,H,I,h⟩
theorem Cu (h1:PS X st t) (h2:PSs X rest u):PSs X (st::rest) (Qn t u):=by
 intro pins s σ H D I h
 refine wpAny_execs_cons (thn (h1 pins s σ H { D with nx:=u D } I h) fun f s1 q => ?_)
 cases f with
 | next =>
  obtain ⟨σ',H',I',q⟩:=q
  exact h2 pins s1 σ' H' D I' q
 | ret v=>exact q
 | brk=>exact q
 | cont=>exact q
theorem Ag (h1:PS X st t):PSs X [st] t:=by
 intro pins s σ H D I h
 refine wpAny_execs_cons (thn (h1 pins s σ H D I h) fun f s1 q => ?_)
 cases f with
 | next=>exact wpAny_execs_nil q
 | ret v=>exact q
 | brk=>exact q
 | cont=>exact q
theorem Inv.quiet {pins:List (Addr×Obj)} {σ:St} {H:Hp} {s:Shared} (I:Inv X pins σ H s):interactive X.env=false:=by simp [interactive,I.ok.kind]
noncomputable def KO (te:TE):TS:=fun D σ H=>te σ H fun _ H1=>D.nx σ H1
theorem F4 (he:PE X e te) (hs:swapsWith e none pos.line X.env=pure false:=by rfl):PS X (.Expr e pos) (KO te):=by
 intro pins s σ H D I h
 exact wpAny_Expr_any (thn (he pins s σ H _ I h) fun v s1 ⟨x,H1,I1,r1,q1⟩=>⟨σ,H1,I1,q1⟩) I.quiet hs
noncomputable def Qo (te:TE):TS:=fun D σ H=>te σ H D.rt
theorem IL (he:PE X e te):PS X (.Return (some e) pos) (Qo te):=by
 intro pins s σ H D I h
 exact wpAny_Return_some (thn (he pins s σ H _ I h) fun v s1 ⟨x,H1,I1,r1,q1⟩=>⟨x,σ,H1,I1,r1,q1⟩)
noncomputable def Qt (c:TT) (t u:TS):TS:=fun D σ H=>c σ H fun b H1=>if b=true then t D σ H1 else u D σ H1
theorem K1 {c:Expr} {a b:List Stmt} {tc:TT} (hc:PT X c tc) (ha:PSs X a t) (hb:PSs X b u):PS X (.If c a b pos) (Qt tc t u):=by
 intro pins s σ H D I h
 refine wpAny_If (thn (hc pins s σ H _ I h) fun d s1 ⟨H1,I1,q1⟩ => ?_)
 cases d with
 | true=>exact ha pins s1 σ H1 D I1 q1
 | false=>exact hb pins s1 σ H1 D I1 q1
end
noncomputable abbrev TG:=V->St->Hp->(St->Hp->Prop)->Prop
noncomputable abbrev TGs:=List V->St->Hp->(St->Hp->Prop)->Prop
def PG (X:Cx) (target:Expr) (t:TG):Prop :=
 ∀ (pins:List (Addr×Obj)) (s:Shared) (σ:St) (H:Hp) (v:V) (u:Value) (Q:St->Hp->Prop),Inv X pins σ H s->RelV v u->t v σ H Q ->
  wpAny (model X.prog X.w) X.A (assign target X.env u) (fun _ s'=>∃ σ' H',Inv X pins σ' H' s'/\Q σ' H') X.xe s
section
variable {X:Cx} {pos:Pos}
noncomputable def C6 (i:Nat):TG:=fun v σ H Q=>Q (σ.set i (some v)) H
theorem Aj {i:Nat} {x:Str} (hN:X.N.Nodup) (hi:X.N[i]? = some x) (hx:Loc X.env.scope x) (hf:X.fn x=true\/X.env.scope.names.lookup x=some .local:=by first | exact .inl rfl | exact .inr rfl | assumption):PG X (.Name x pos) (C6 i):=by
 intro pins s σ H v u Q I r h
 exact wpAny_assign_Name (vb I hN hi hx r (fun s' I'=>⟨_,H,I',h⟩) hf)
noncomputable def Sw:TGs:=fun vs σ H Q=>vs=[]/\Q σ H
noncomputable def Lx (t:TG) (u:TGs):TGs:=fun vs σ H Q=>∃ v r,vs=v::r/\t v σ H fun σ' H'=>u r σ' H' Q
noncomputable def Qx (te:TE) (g:TG):TS:=fun D σ H=>te σ H fun x H1=>g x σ H1 D.nx
theorem IK {i:Nat} {x:Str} {e:Expr} {te:TE} {pos':Pos} (hN:X.N.Nodup) (hi:X.N[i]? = some x) (hx:Loc X.env.scope x) (he:PE X e te) (hs:swapsWith e (some (.Name x pos')) pos.line X.env=pure false:=by rfl) (hf:X.fn x=true\/X.env.scope.names.lookup x=some .local:=by first | exact .inl rfl | exact .inr rfl | assumption) :
  PS X (.Assign [.Name x pos'] e pos) (Qx te (C6 i)):=by
 intro pins s σ H D I h
 refine wpAny_Assign_Name (thn (he pins s σ H _ I h) fun v s1 ⟨y,H1,I1,r1,q1⟩ => ?_) hs
 exact vb I1 hN hi hx r1 (fun s2 I2=>⟨_,H1,I2,q1⟩) hf
end
section
variable {X:Cx} {pos:Pos}
noncomputable def Ee (c:TT) (tb:TS):TS:=fun D σ H=>∃ W:Nat->St->Hp->Prop,(∃ m,W m σ H)/\∀ m σ H,W m σ H ->
 c σ H fun b H1=>if b=true then ∃ N:St->Hp->Prop,(∀ σ' H',N σ' H'->∃ m',m'<m/\W m' σ' H')/\tb { D with nx:=N,ct:=N,bk:=D.nx } σ H1 else D.nx σ H1
theorem Cv {c:Expr} {body:List Stmt} {tc:TT} {tb:TS} (hp:PassesOwn (model X.prog X.w) X.A X.env X.xe) (hc:PT X c tc) (hb:PSs X body tb):PS X (.While c body [] pos) (Ee tc tb):=by
 intro pins s σ H D I h
 obtain ⟨W,⟨m0,w0⟩,turn⟩:=h
 refine wpAny_While (codeAny_whileLoop (fun n s'=>∃ σ' H',Inv X pins σ' H' s'/\W n σ' H') ?_ m0 ⟨σ,H,I,w0⟩)
 rintro n s1 ⟨σ1,H1,I1,w1⟩
 refine wpAny_passesOwn hp (thn (hc pins s1 σ1 H1 _ I1 (turn n σ1 H1 w1)) fun b s2 ⟨H2,I2,q2⟩ => ?_)
 cases b with
 | true =>
  obtain ⟨N,hN,q2⟩:=q2
  rw [if_pos rfl]
  refine wpAny_passesOwn hp (thn (hb pins s2 σ1 H2 _ I2 q2) fun f s3 q3 => ?_)
  cases f with
  | next =>
   obtain ⟨σ3,H3,I3,n3⟩:=q3
   obtain ⟨m',hm,w3⟩:=hN σ3 H3 n3
   exact ⟨m',hm,σ3,H3,I3,w3⟩
  | cont =>
   obtain ⟨σ3,H3,I3,n3⟩:=q3
   obtain ⟨m',hm,w3⟩:=hN σ3 H3 n3
   exact ⟨m',hm,σ3,H3,I3,w3⟩
  | brk=>exact q3
  | ret v=>exact q3
 | false =>
  rw [if_neg Bool.false_ne_true]
  exact wpAny_execs_nil ⟨σ1,H2,I2,q2⟩
end
structure It where
 go:Nat->Hp->Prop
 yld:Nat->Hp->V->Hp->Prop
 stop:Nat->Hp->Prop
def B7 (X:Cx) (pins:List (Addr×Obj)) (H:Hp) (b:Addr):Prop :=
 H b=none/\b≠X.env.locals/\b∉X.fs/\(b∈X.ex\/X.s₀.heap.objs.size<=b)/\(∀ x c,X.env.cells.lookup x=some c->c≠b)/\∀ p∈X.pn++pins,p.1≠b
theorem Inv.fpOk {X:Cx} {pins:List (Addr×Obj)} {σ:St} {H H':Hp} {s:Shared} {b:Addr} (I:Inv X pins σ H s) (hb:s.heap.objs.size<=b) (hn:H' b=none):B7 X pins H' b:=by
 refine ⟨hn,Nat.ne_of_gt (Nat.lt_of_lt_of_le I.lt hb),I.nofs hb,.inr (Nat.le_trans I.sz hb),fun x c e z => ?_,fun p hp z => ?_⟩
 ·obtain ⟨v,q⟩:=I.cell x c e
  exact absurd (Nat.lt_of_lt_of_le q.lt (by rw [z];exact hb)) (Nat.lt_irrefl _)
 ·exact absurd (Nat.lt_of_lt_of_le (Heap.lt_size (I.pin p hp).1) (by rw [z];exact hb)) (Nat.lt_irrefl _)
structure Turn (P:Program) (w:World) (K:PySem.W.Frag) (tg:Expr) (J:It) (fp:List Addr) (it:Addr) (tn:Nat->Heap->Prop):Prop where
 mem:it∈fp
 obj:∀ i h,tn i h->∀ b∈fp,∃ o,h.get? b=some o/\∀ v,o.data ≠ .cell v
 keep:∀ i h h',tn i h->(∀ b∈fp,∀ o,h.get? b=some o->h'.get? b=some o)->tn i h'
 item:∀ (X:Cx),X.prog=P->X.w=w->X.K=K->X.calm=true->∀ (i:Nat) (pins:List (Addr×Obj)) (s:Shared) (σ:St) (H:Hp) (E:Value->Shared->Prop),Inv X pins σ H s->(∀ b∈fp,B7 X pins H b)->tn i s.heap->J.go i H ->
  wpAny (model P w) X.A (pyNext (.ref it)) (fun r s1=>∃ u,r=some u /\
   wpAny (model P w) X.A (letOwnedTupleGo tg (.ref it) u) (fun _ s2=>∃ x H',Inv X pins σ H' s2/\RelV x u/\J.yld i H x H'/\tn (i+1) s2.heap/\∀ b∈fp,H' b=none) E s1) E s
 done:∀ (X:Cx),X.prog=P->X.w=w->X.K=K->X.calm=true->∀ (i:Nat) (pins:List (Addr×Obj)) (s:Shared) (σ:St) (H:Hp) (E:Value->Shared->Prop),Inv X pins σ H s->(∀ b∈fp,B7 X pins H b)->tn i s.heap->J.stop i H ->
  wpAny (model P w) X.A (pyNext (.ref it)) (fun r s1=>r=none/\Inv X pins σ H s1) E s
 self:∀ (A:Around) (i:Nat) (s:Shared) (Q:Value->Shared->Prop) (E:Value->Shared->Prop),tn i s.heap->Q (.ref it) s->wpAny (model P w) A (pyIter (.ref it)) Q E s
noncomputable abbrev TI:=St->Hp->(It->Hp->Prop)->Prop
def PIE (X:Cx) (pins:List (Addr×Obj)) (σ:St) (tg:Expr) (R:It->Hp->Prop) (itv:Value) (s2:Shared):Prop :=
 ∃ (it:Addr) (fp:List Addr) (tn:Nat->Heap->Prop) (J:It) (H':Hp),itv=.ref it/\Inv X pins σ H' s2/\Turn X.prog X.w X.K tg J fp it tn/\tn 0 s2.heap/\(∀ b∈fp,B7 X pins H' b)/\R J H'
def PI (X:Cx) (tg iter:Expr) (wi:TI):Prop :=
 ∀ (pins:List (Addr×Obj)) (s:Shared) (σ:St) (H:Hp) (R:It->Hp->Prop),Inv X pins σ H s->wi σ H R ->
  wpAny (model X.prog X.w) X.A (eval iter X.env) (fun v s1=>wpAny (model X.prog X.w) X.A (pyIter v) (PIE X pins σ tg R) X.xe s1) X.xe s
theorem C1 {M:Model} {A:Around} {E:Value->Shared->Prop} {s:Shared} {tg:Expr} {it:Addr} {u:Value} {o:Obj} {n:String} {vs:Array Value} {Q:Unit->Shared->Prop} (ho:s.heap.get? it=some o) (hc:o.cls=.type n) (hd:o.data=.fields vs)
  (hn:["enumerate","zip","dict_itemiterator","dict_reverseitemiterator","odict_iterator","itertools.zip_longest","itertools.pairwise"].contains n=false) (hQ:Q () s):wpAny M A (letOwnedTupleGo tg (.ref it) u) Q E s:=by
 unfold letOwnedTupleGo
 cases tg<;>first
  | exact wpAny_pure hQ
  | (cases u<;>first
    | exact wpAny_pure hQ
    | (refine wpAny_bind (wpAny_load ho ?_)
       rw [hc,hd]
       show wpAny M A (if (["enumerate","zip","dict_itemiterator","dict_reverseitemiterator","odict_iterator","itertools.zip_longest","itertools.pairwise"].contains n&&vs[0]? == some (rawInt _))=true then _ else _) Q E s
       rw [if_neg (by intro h;rw [hn,Bool.false_and] at h;cases h)]
       exact wpAny_pure hQ))
noncomputable def Itl (K:PySem.W.Frag) (a:Addr):It :=
 ⟨fun i H=>∃ xs x,SqL K H a xs/\xs[i]? = some x,fun i H x H'=>H'=H/\∀ xs,SqL K H a xs->xs[i]? = some x,fun i H=>∃ xs,SqL K H a xs/\xs.length<=i⟩
noncomputable def Itt (K:PySem.W.Frag) (a:Addr):It :=
 ⟨fun i H=>∃ xs x,SqT K H a xs/\xs[i]? = some x,fun i H x H'=>H'=H/\∀ xs,SqT K H a xs->xs[i]? = some x,fun i H=>∃ xs,SqT K H a xs/\xs.length<=i⟩
theorem zq {P:Program} {w:World} {K:PySem.W.Frag} {tg:Expr} (a it:Addr):Turn P w K tg (Itl K a) [it] it (fun i h=>h.IsListIter it a i) where
 mem:=by simp
 obj:=fun i h st b hb=>by
  have e:b=it:=by simpa using hb
  subst e
  obtain ⟨o,e,c,d⟩:=st
  exact ⟨o,e,fun v z=>by rw [d] at z;cases z⟩
 keep:=fun i h h' st k=>st.at fun o e=>k it (by simp) o e
 item:=by
  intro X hP hw hK hc i pins s σ H E I hf st hg
  subst hP hw hK
  obtain ⟨xs,x,hq,hx⟩:=hg
  obtain ⟨its,rv,p,hz⟩:=I.list hq
  obtain ⟨u,hu,ru⟩:=rv.get hx
  obtain ⟨f0,f1,f2,f3,f4,f5⟩:=hf it (by simp)
  refine wpAny_pyNext_list_item st p.isList (x:=u) (by simpa using hu) fun h' st' sb => ?_
  have I1:Inv X pins σ H { s with heap:=h' }:=I.turned (t':=s.toks) (fun b o hb e=>(sb.2 b hb).trans e) f0 f1 f3 f4 f5
  obtain ⟨o,e,c,d⟩:=id st'
  exact ⟨u,rfl,C1 (s:={ s with heap:=h' }) e c d (by decide) ⟨x,H,I1,ru,⟨rfl,fun ys hy=>by rw [I.list_inj hy hq];exact hx⟩,st',fun b hb=>(hf b hb).1⟩⟩
 done:=by
  intro X hP hw hK hc i pins s σ H E I hf st hg
  subst hP hw hK
  obtain ⟨xs,hq,hx⟩:=hg
  obtain ⟨its,rv,p,hz⟩:=I.list hq
  obtain ⟨f0,f1,f2,f3,f4,f5⟩:=hf it (by simp)
  have hl:=rv.length
  exact wpAny_pyNext_list_end (I.ok.hd hc) st p.isList (by simp;omega) fun h' eb=>⟨rfl,I.turned (t':=s.toks) (fun b o hb e=>eb b o hb e) f0 f1 f3 f4 f5⟩
 self:=fun _ _ _ _ _ st h=>wpAny_pyIter_listiter st h
theorem xI {P:Program} {w:World} {K:PySem.W.Frag} {tg:Expr} (a it:Addr):Turn P w K tg (Itt K a) [it] it (fun i h=>h.IsTupleIter it a i) where
 mem:=by simp
 obj:=fun i h st b hb=>by
  have e:b=it:=by simpa using hb
  subst e
  obtain ⟨o,e,c,d⟩:=st
  exact ⟨o,e,fun v z=>by rw [d] at z;cases z⟩
 keep:=fun i h h' st k=>st.at fun o e=>k it (by simp) o e
 item:=by
  intro X hP hw hK hc i pins s σ H E I hf st hg
  subst hP hw hK
  obtain ⟨xs,x,hq,hx⟩:=hg
  obtain ⟨its,rv,p,hz⟩:=I.tuple hq
  obtain ⟨u,hu,ru⟩:=rv.get hx
  obtain ⟨f0,f1,f2,f3,f4,f5⟩:=hf it (by simp)
  refine wpAny_pyNext_tuple_item st (show s.heap.IsTuple a its.toArray from p) (x:=u) (by simpa using hu) fun h' st' sb => ?_
  have I1:Inv X pins σ H { s with heap:=h' }:=I.turned (t':=s.toks) (fun b o hb e=>(sb.2 b hb).trans e) f0 f1 f3 f4 f5
  obtain ⟨o,e,c,d⟩:=id st'
  exact ⟨u,rfl,C1 (s:={ s with heap:=h' }) e c d (by decide) ⟨x,H,I1,ru,⟨rfl,fun ys hy=>by rw [I.tuple_inj hy hq];exact hx⟩,st',fun b hb=>(hf b hb).1⟩⟩
 done:=by
  intro X hP hw hK hc i pins s σ H E I hf st hg
  subst hP hw hK
  obtain ⟨xs,hq,hx⟩:=hg
  obtain ⟨its,rv,p,hz⟩:=I.tuple hq
  obtain ⟨f0,f1,f2,f3,f4,f5⟩:=hf it (by simp)
  have hl:=rv.length
  exact wpAny_pyNext_tuple_end (I.ok.hd hc) st (show s.heap.IsTuple a its.toArray from p) (by simp;omega) fun h' eb=>⟨rfl,I.turned (t':=s.toks) (fun b o hb e=>eb b o hb e) f0 f1 f3 f4 f5⟩
 self:=fun _ _ _ _ _ st h=>wpAny_pyIter_tupleiter st h
end L2
namespace L2
open PySem PySem.Spec PyProof.Rows
section
variable {X:Cx} {tg:Expr}
noncomputable def Lw (K:PySem.W.Frag) (tl:TE):TI:=fun σ H R=>tl σ H fun x H1=>∃ a,x=.ref a/\(∃ xs,SqL K H1 a xs)/\R (Itl K a) H1
noncomputable def Su (K:PySem.W.Frag) (tl:TE):TI:=fun σ H R=>tl σ H fun x H1=>∃ a,x=.ref a/\(∃ xs,SqT K H1 a xs)/\R (Itt K a) H1
theorem F8 {l:Expr} {tl:TE} (hl:PE X l tl):PI X tg l (Lw X.K tl):=by
 intro pins s σ H R I h
 refine thn (hl pins s σ H _ I h) fun v s1 ⟨x,H1,I1,r1,q1⟩ => ?_
 obtain ⟨a,e,⟨xs,hq⟩,q⟩:=q1
 subst e
 cases r1
 obtain ⟨its,rv,p,hz⟩:=I1.list hq
 refine wpAny_pyIter_list p.isList ?_
 refine ⟨s1.heap.objs.size,[s1.heap.objs.size],_,_,H1,rfl,I1.kept (t':=s1.toks) fun b o e=>Heap.get?_push_of_some _ e,zq a _,⟨_,Heap.get?_push_size _ rfl,rfl,rfl⟩,fun b hb => ?_,q⟩
 have e:b=s1.heap.objs.size:=by simpa using hb
 subst e
 exact I1.fpOk (Nat.le_refl _) (I1.hok.fresh (Nat.le_refl _))
theorem IS {l:Expr} {tl:TE} (hl:PE X l tl):PI X tg l (Su X.K tl):=by
 intro pins s σ H R I h
 refine thn (hl pins s σ H _ I h) fun v s1 ⟨x,H1,I1,r1,q1⟩ => ?_
 obtain ⟨a,e,⟨xs,hq⟩,q⟩:=q1
 subst e
 cases r1
 obtain ⟨its,rv,p,hz⟩:=I1.tuple hq
 refine wpAny_pyIter_tuple (show s1.heap.IsTuple a its.toArray from p) ?_
 refine ⟨s1.heap.objs.size,[s1.heap.objs.size],_,_,H1,rfl,I1.kept (t':=s1.toks) fun b o e=>Heap.get?_push_of_some _ e,xI a _,⟨_,Heap.get?_push_size _ rfl,rfl,rfl⟩,fun b hb => ?_,q⟩
 have e:b=s1.heap.objs.size:=by simpa using hb
 subst e
 exact I1.fpOk (Nat.le_refl _) (I1.hok.fresh (Nat.le_refl _))
noncomputable def Qu (wi:TI) (g:TG) (tb:TS):TS:=fun D σ H=>wi σ H fun J H1=>∃ W:Nat->Nat->St->Hp->Prop,(∃ m,W 0 m σ H1)/\∀ i m σ H,W i m σ H ->
 (J.stop i H/\D.nx σ H)\/(J.go i H/\∃ N:St->Hp->Prop,(∀ σ' H',N σ' H'->∃ m',m'<m/\W (i+1) m' σ' H')/\∀ x H',J.yld i H x H'->g x σ H' fun σ2 H2=>tb { D with nx:=N,ct:=N,bk:=D.nx } σ2 H2)
noncomputable def ot (fp:List Addr) (h:Heap):List (Addr×Obj):=fp.filterMap fun b=>(h.get? b).map fun o=>(b,o)
theorem fI {fp:List Addr} {h:Heap} {b:Addr} {o:Obj} (hb:b∈fp) (e:h.get? b=some o):(b,o)∈ot fp h:=List.mem_filterMap.mpr ⟨b,hb,by rw [e];rfl⟩
theorem qU {fp:List Addr} {h:Heap} {p:Addr×Obj} (hp:p∈ot fp h):p.1∈fp/\h.get? p.1=some p.2:=by
 obtain ⟨b,hb,e⟩:=List.mem_filterMap.mp hp
 cases q:h.get? b with
 | none=>rw [q] at e;cases e
 | some o =>
  rw [q] at e
  have e':(b,o)=p:=Option.some.inj e
  subst e'
  exact ⟨hb,q⟩
theorem Inv.pinned {pins:List (Addr×Obj)} {σ:St} {H:Hp} {s:Shared} {fp:List Addr} (I:Inv X pins σ H s) (hf:∀ b∈fp,B7 X pins H b) (ho:∀ b∈fp,∃ o,s.heap.get? b=some o/\∀ v,o.data ≠ .cell v):Inv X (pins++ot fp s.heap) σ H s :=
 I.pins_of fun p hp=>(List.mem_append.mp hp).elim (fun z=>I.pin p (List.mem_append_right _ z)) fun z=>by
  obtain ⟨hb,e⟩:=qU z
  obtain ⟨f0,f1,f2,_⟩:=hf p.1 hb
  obtain ⟨o,e',d⟩:=ho p.1 hb
  rw [e] at e';cases e'
  exact ⟨e,f0,f1,f2,d⟩
theorem Inv.unpinned {pins pl:List (Addr×Obj)} {σ:St} {H:Hp} {s:Shared} (I:Inv X (pins++pl) σ H s):Inv X pins σ H s:=I.pins_of fun p hp=>I.pin p (List.mem_append_right _ (List.mem_append_left _ hp))
theorem IM {iter:Expr} {body:List Stmt} {wi:TI} {g:TG} {tb:TS} {pos:Pos} (hp:PassesOwn (model X.prog X.w) X.A X.env X.xe) (hc:X.calm=true) (hi:PI X tg iter wi) (hg:PG X tg g) (hb:PSs X body tb)
  (hs:∀ x,foldedSetIterable iter X.env x=pure x:=by intro _;rfl):PS X (.For tg iter body [] pos) (Qu wi g tb):=by
 intro pins s σ H D I h
 refine wpAny_For (thn (hi pins s σ H _ I h) fun v s1 h1=>thn h1 fun itv s2 h2 => ?_) hs
 obtain ⟨it,fp,tn,J,H2,e,I2,T,st2,f2,W,⟨m0,w0⟩,turn⟩:=h2
 subst e
 have stat:∀ {H':Hp},(∀ b∈fp,H' b=none)->∀ b∈fp,B7 X pins H' b:=fun hn b hb=>⟨hn b hb,(f2 b hb).2⟩
 refine codeAny_forLoop_any (fun n s'=>∃ i σ' H',Inv X pins σ' H' s'/\tn i s'.heap/\(∀ b∈fp,H' b=none)/\W i n σ' H') ?_ m0 ⟨0,σ,H2,I2,st2,fun b hb=>(f2 b hb).1,w0⟩
 rintro n s3 ⟨i,σ3,H3,I3,st3,fr3,w3⟩
 rcases turn i n σ3 H3 w3 with ⟨stop,qn⟩ | ⟨go,N,hN,step⟩
 ·refine wpAny_passesOwn hp (thn (T.done X rfl rfl rfl hc i pins s3 σ3 H3 X.xe I3 (stat fr3) st3 stop) fun r s4 ⟨hr,I4⟩ => ?_)
  subst hr
  exact wpAny_execs_nil ⟨σ3,H3,I4,qn⟩
 ·refine wpAny_passesOwn hp (thn (T.item X rfl rfl rfl hc i pins s3 σ3 H3 X.xe I3 (stat fr3) st3 go) fun r s4 ⟨u,hr,h4⟩ => ?_)
  subst hr
  refine wpAny_passesOwn hp (thn h4 fun _ s5 ⟨x,H5,I5,r5,y5,st5,fr5⟩ => ?_)
  have I5':=I5.pinned (stat fr5) (T.obj _ _ st5)
  refine wpAny_passesOwn hp (thn (hg _ s5 σ3 H5 x u _ I5' r5 (step x H5 y5)) fun _ s6 ⟨σ6,H6,I6,q6⟩ => ?_)
  refine wpAny_passesOwn hp (thn (hb _ s6 σ6 H6 _ I6 q6) fun f s7 q7 => ?_)
  have again:∀ {σ7:St} {H7:Hp},Inv X (pins++ot fp s5.heap) σ7 H7 s7->N σ7 H7->∃ m,m<n/\∃ i σ' H',Inv X pins σ' H' s7/\tn i s7.heap/\(∀ b∈fp,H' b=none)/\W i m σ' H':=fun {σ7 H7} I7 n7=>by
   obtain ⟨m',hm,w7⟩:=hN σ7 H7 n7
   refine ⟨m',hm,i+1,σ7,H7,I7.unpinned,T.keep _ _ _ st5 fun b hb o e=>(I7.pin (b,o) (List.mem_append_right _ (List.mem_append_right _ (fI hb e)))).1,fun b hb => ?_,w7⟩
   obtain ⟨o,e,d⟩:=T.obj _ _ st5 b hb
   exact (I7.pin (b,o) (List.mem_append_right _ (List.mem_append_right _ (fI hb e)))).2.1
  cases f with
  | next=>obtain ⟨σ7,H7,I7,n7⟩:=q7;exact again I7 n7
  | cont=>obtain ⟨σ7,H7,I7,n7⟩:=q7;exact again I7 n7
  | brk=>obtain ⟨σ7,H7,I7,q7⟩:=q7;exact ⟨σ7,H7,I7.unpinned,q7⟩
  | ret v=>obtain ⟨x7,σ7,H7,I7,r7,q7⟩:=q7;exact ⟨x7,σ7,H7,I7.unpinned,r7,q7⟩
end
theorem iX {c:TT} {tb:TS} {D:Ends} {σ:St} {H:Hp} (Pv:St->Hp->Prop) (μ:St->Hp->Nat) (h0:Pv σ H)
  (hs:∀ σ H,Pv σ H->c σ H fun b H1=>if b=true then tb { D with nx:=fun σ' H'=>Pv σ' H'/\μ σ' H'<μ σ H,ct:=fun σ' H'=>Pv σ' H'/\μ σ' H'<μ σ H,bk:=D.nx } σ H1 else D.nx σ H1)
  (mono:∀ σ H Q Q',(∀ b H1,Q b H1->Q' b H1)->c σ H Q->c σ H Q'):Ee c tb D σ H:=by
 refine ⟨fun m σ H=>m=μ σ H/\Pv σ H,⟨_,rfl,h0⟩,?_⟩
 rintro m σ H ⟨rfl,p⟩
 refine mono σ H _ _ (fun b H1 q => ?_) (hs σ H p)
 cases b with
 | true=>exact ⟨_,fun σ' H' ⟨p',l⟩=>⟨_,l,rfl,p'⟩,q⟩
 | false=>exact q
end L2
namespace L2
open PySem PySem.Spec PyProof.Rows
noncomputable abbrev R2:=V->V->Hp->VK->Prop
def OpR (X:Cx) (f:Value->Value->Sem Value) (r:R2):Prop :=
 ∀ (pins:List (Addr×Obj)) (s:Shared) (σ:St) (H:Hp) (x y:V) (v u:Value) (Q:VK),Inv X pins σ H s->RelV x v->RelV y u->r x y H Q ->
  wpAny (model X.prog X.w) X.A (f v u) (EP X pins σ Q) X.xe s
def UnR (X:Cx) (f:Value->Sem Value) (r:V->Hp->VK->Prop):Prop :=
 ∀ (pins:List (Addr×Obj)) (s:Shared) (σ:St) (H:Hp) (x:V) (v:Value) (Q:VK),Inv X pins σ H s->RelV x v->r x H Q ->
  wpAny (model X.prog X.w) X.A (f v) (EP X pins σ Q) X.xe s
def gJ (X:Cx) (f:Value) (r:List V->Hp->VK->Prop):Prop :=
 ∀ (pins:List (Addr×Obj)) (s:Shared) (σ:St) (H:Hp) (xs:List V) (us:List Value) (Q:VK),Inv X pins σ H s->Vals xs us->r xs H Q ->
  wpAny (model X.prog X.w) X.A (call f us) (EP X pins σ Q) X.xe s
noncomputable def tOp (r:R2) (ta tb:TE):TE:=fun σ H Q=>ta σ H fun x H1=>tb σ H1 fun y H2=>r x y H2 Q
noncomputable def tUn (r:V->Hp->VK->Prop) (ta:TE):TE:=fun σ H Q=>ta σ H fun x H1=>r x H1 Q
noncomputable def rI (C:Int->Int->Prop) (g:Int->Int->V):R2:=fun x y H Q=>∃ i j,x=.int i/\y=.int j/\C i j/\Q (g i j) H
noncomputable def rI0 (g:Int->Int->V):R2:=fun x y H Q=>∃ i j,x=.int i/\y=.int j/\Q (g i j) H
noncomputable def rU (g:Int->V):V->Hp->VK->Prop:=fun x H Q=>∃ i,x=.int i/\Q (g i) H
section
variable {X:Cx} {a b c:Expr} {ta tb tc:TE} {pos:Pos}
theorem LL (ha:PE X a ta) (hb:PE X b tb) {pins:List (Addr×Obj)} {s:Shared} {σ:St} {H:Hp} {R:V->V->Hp->Prop} (I:Inv X pins σ H s)
  (h:ta σ H fun x H1=>tb σ H1 fun y H2=>R x y H2) {Q:Value->Shared->Prop} {f:Value->Value->Sem Value}
  (hf:∀ v u s2 x y H2,Inv X pins σ H2 s2->RelV x v->RelV y u->R x y H2->wpAny (model X.prog X.w) X.A (f v u) Q X.xe s2) :
  wpAny (model X.prog X.w) X.A (eval a X.env) (fun v s₁=>wpAny (model X.prog X.w) X.A (eval b X.env) (fun u s₂=>wpAny (model X.prog X.w) X.A (f v u) Q X.xe s₂) X.xe s₁) X.xe s:=by
 refine thn (ha pins s σ H _ I h) fun v s1 ⟨x,H1,I1,r1,q1⟩ => ?_
 refine thn (hb pins s1 σ H1 _ I1 q1) fun u s2 ⟨y,H2,I2,r2,q2⟩ => ?_
 exact hf v u s2 x y H2 I2 r1 r2 q2
theorem K5 {op:Operator} {r:R2} (ho:OpR X (binaryOp op) r) (ha:PE X a ta) (hb:PE X b tb):PE X (.BinOp a op b pos) (tOp r ta tb):=by
 intro pins s σ H Q I h
 exact wpAny_BinOp (LL ha hb I h fun v u s2 x y H2 I2 rx ry q=>ho pins s2 σ H2 x y v u Q I2 rx ry q)
theorem K3 {op:UnaryOp} {r:V->Hp->VK->Prop} (ho:UnR X (unaryOp op) r) (ha:PE X a ta):PE X (.UnaryOp op a pos) (tUn r ta):=by
 intro pins s σ H Q I h
 exact UnaryOp_ (thn (ha pins s σ H _ I h) fun v s1 ⟨x,H1,I1,r1,q1⟩=>ho pins s1 σ H1 x v Q I1 r1 q1)
theorem opI {f:Value->Value->Sem Value} {C:Int->Int->Prop} {g:Int->Int->Int}
  (rule:∀ (i j:Int) (t u:Tok) (s:Shared) (Q:Value->Shared->Prop) (E:Value->Shared->Prop),C i j->Q (.int (g i j) s.toks) { s with toks:=s.toks+1 }->wpAny (model X.prog X.w) X.A (f (.int i t) (.int j u)) Q E s) :
  OpR X f (rI C fun i j=>.int (g i j)):=by
 intro pins s σ H x y v u Q I rx ry h
 obtain ⟨i,j,rfl,rfl,hc,q⟩:=h
 obtain ⟨t,rfl⟩:=rx
 obtain ⟨t',rfl⟩:=ry
 exact rule i j t t' s _ _ hc ⟨.int (g i j),H,I.tok _,⟨_,rfl⟩,q⟩
theorem Lg {f:Value->Value->Sem Value} {g:Int->Int->Int}
  (rule:∀ (i j:Int) (t u:Tok) (s:Shared) (Q:Value->Shared->Prop) (E:Value->Shared->Prop),Q (.int (g i j) s.toks) { s with toks:=s.toks+1 }->wpAny (model X.prog X.w) X.A (f (.int i t) (.int j u)) Q E s) :
  OpR X f (rI0 fun i j=>.int (g i j)):=by
 intro pins s σ H x y v u Q I rx ry h
 obtain ⟨i,j,rfl,rfl,q⟩:=h
 obtain ⟨t,rfl⟩:=rx
 obtain ⟨t',rfl⟩:=ry
 exact rule i j t t' s _ _ ⟨.int (g i j),H,I.tok _,⟨_,rfl⟩,q⟩
theorem Kl {f:Value->Value->Sem Value} {g:Int->Int->Bool}
  (rule:∀ (i j:Int) (t u:Tok) (s:Shared) (Q:Value->Shared->Prop) (E:Value->Shared->Prop),Q (.bool (g i j)) s->wpAny (model X.prog X.w) X.A (f (.int i t) (.int j u)) Q E s) :
  OpR X f (rI0 fun i j=>.bl (g i j)):=by
 intro pins s σ H x y v u Q I rx ry h
 obtain ⟨i,j,rfl,rfl,q⟩:=h
 obtain ⟨t,rfl⟩:=rx
 obtain ⟨t',rfl⟩:=ry
 exact rule i j t t' s _ _ ⟨.bl (g i j),H,I,rfl,q⟩
theorem xH (k:Nat):(0:Int)<=2^k:=by
 rw [two_pow_cast]
 exact Int.natCast_nonneg _
theorem Jo:OpR X (binaryOp .Add) (rI0 fun i j=>.int (i+j)):=Lg fun _ _ _ _ _ _ _ q=>add_int q
theorem Jj:OpR X (binaryOp .Sub) (rI0 fun i j=>.int (i - j)):=Lg fun _ _ _ _ _ _ _ q=>sub_int q
theorem Jl:OpR X (binaryOp .Mod) (rI (fun _ j=>0<j) fun i j=>.int (i%j)):=opI fun i j _ _ _ _ _ hc q=>by
 have h1:(0:Int)<j:=hc
 exact mod_int' (by omega) (by rw [Int.fmod_eq_emod_of_nonneg i (by omega)];exact q)
theorem Jk:OpR X (binaryOp .RShift) (rI (fun _ j=>0<=j) fun i j=>.int (i / 2^j.toNat)):=opI fun i j _ _ _ _ _ hc q =>
 rshift_int hc (by rw [Int.fdiv_eq_ediv_of_nonneg i (xH _)];exact q)
theorem Jn:OpR X (binaryOp .BitAnd) (rI0 fun i j=>.int (Builtin.bitAnd i j)):=Lg fun _ _ _ _ _ _ _ q=>and_int q
theorem unI {f:Value->Sem Value} {g:Int->Int}
  (rule:∀ (i:Int) (t:Tok) (s:Shared) (Q:Value->Shared->Prop) (E:Value->Shared->Prop),Q (.int (g i) s.toks) { s with toks:=s.toks+1 }->wpAny (model X.prog X.w) X.A (f (.int i t)) Q E s) :
  UnR X f (rU fun i=>.int (g i)):=by
 intro pins s σ H x v Q I rx h
 obtain ⟨i,rfl,q⟩:=h
 obtain ⟨t,rfl⟩:=rx
 exact rule i t s _ _ ⟨.int (g i),H,I.tok _,⟨_,rfl⟩,q⟩
theorem HG:UnR X (unaryOp .USub) (rU fun i=>.int (-i)):=unI fun _ _ _ _ _ q=>neg_int q
end
noncomputable def Kk:V->V->Bool
 | .non,.non=>true | .non,.int _=>true | .int _,.non=>true | .non,.bl _=>true | .bl _,.non=>true | .non,.str _=>true | .str _,.non=>true
 | .int _,.int _=>true | .bl _,.bl _=>true | .str _,.str _=>true | .byt _,.byt _=>true
 | .int _,.str _=>true | .str _,.int _=>true | .bl _,.str _=>true | .str _,.bl _=>true
 | _,_=>false
noncomputable def rEq:R2:=fun x y H Q=>Kk x y=true/\Q (.bl (decide (x=y))) H
noncomputable def rNe:R2:=fun x y H Q=>Kk x y=true/\Q (.bl (!decide (x=y))) H
theorem ur {i j:Int}:decide (V.int i=V.int j)=(i == j):=by
 rw [Bool.eq_iff_iff]
 simp
theorem Br {i j:Bool}:decide (V.bl i=V.bl j)=(i == j):=by
 rw [Bool.eq_iff_iff]
 simp
theorem uq {i j:Str}:decide (V.str i=V.str j)=(i == j):=by
 rw [Bool.eq_iff_iff]
 simp
theorem Bq {i j:Array UInt8}:decide (V.byt i=V.byt j)=(i.toList == j.toList):=by
 rw [Bool.eq_iff_iff]
 cases i
 cases j
 simp
section
variable {X:Cx} {a b c:Expr} {ta tb tc:TE} {pos:Pos}
theorem aN {pins:List (Addr×Obj)} {σ:St} {H:Hp} {s:Shared} {Q:VK} {k k':Bool} (I:Inv X pins σ H s) (q:Q (.bl k) H) (e:k=k'):EP X pins σ Q (.bool k') s:=by
 subst e
 exact ⟨.bl k,H,I,rfl,q⟩
theorem Lf:OpR X (compareOp .Eq) rEq:=by
 intro pins s σ H x y v u Q I rx ry h
 obtain ⟨hs,q⟩:=h
 cases x with
 | non =>
  cases rx
  cases y with
  | non=>cases ry;exact PySem.EqNone.eq_none_none (aN I q (by simp))
  | bl j=>cases ry;exact PySem.EqNone.eq_none_bool (aN I q (by simp))
  | int j=>obtain ⟨t',rfl⟩:=ry;exact PySem.EqNone.eq_none_int (aN I q (by simp))
  | str j=>obtain ⟨t',rfl⟩:=ry;exact PySem.EqNone.eq_none_str (aN I q (by simp))
  | _=>exact absurd (show false=true from hs) Bool.false_ne_true
 | bl i =>
  cases rx
  cases y with
  | non=>cases ry;exact PySem.EqNone.eq_bool_none (aN I q (by simp))
  | bl j=>cases ry;exact eq_bool (aN I q Br)
  | str j=>obtain ⟨t',rfl⟩:=ry;exact PySem.EqMixed.eq_bool_str (aN I q (by simp))
  | _=>exact absurd (show false=true from hs) Bool.false_ne_true
 | int i =>
  obtain ⟨t,rfl⟩:=rx
  cases y with
  | non=>cases ry;exact PySem.EqNone.eq_int_none (aN I q (by simp))
  | int j=>obtain ⟨t',rfl⟩:=ry;exact eq_int (aN I q ur)
  | str j=>obtain ⟨t',rfl⟩:=ry;exact PySem.EqMixed.eq_int_str (aN I q (by simp))
  | _=>exact absurd (show false=true from hs) Bool.false_ne_true
 | str i =>
  obtain ⟨t,rfl⟩:=rx
  cases y with
  | non=>cases ry;exact PySem.EqNone.eq_str_none (aN I q (by simp))
  | bl j=>cases ry;exact PySem.EqMixed.eq_str_bool (aN I q (by simp))
  | int j=>obtain ⟨t',rfl⟩:=ry;exact PySem.EqMixed.eq_str_int (aN I q (by simp))
  | str j=>obtain ⟨t',rfl⟩:=ry;exact eq_str (aN I q uq)
  | _=>exact absurd (show false=true from hs) Bool.false_ne_true
 | byt i =>
  obtain ⟨t,rfl⟩:=rx
  cases y with
  | byt j=>obtain ⟨t',rfl⟩:=ry;exact PySem.W.eq_bytes (aN I q Bq)
  | _=>exact absurd (show false=true from hs) Bool.false_ne_true
 | _=>cases y<;>exact absurd (show false=true from hs) Bool.false_ne_true
theorem La:OpR X (compareOp .NotEq) rNe:=by
 intro pins s σ H x y v u Q I rx ry h
 obtain ⟨hs,q⟩:=h
 cases x with
 | non =>
  cases rx
  cases y with
  | non=>cases ry;exact PySem.EqNone.ne_none_none (aN I q (by simp))
  | bl j=>cases ry;exact PySem.EqNone.ne_none_bool (aN I q (by simp))
  | int j=>obtain ⟨t',rfl⟩:=ry;exact PySem.EqNone.ne_none_int (aN I q (by simp))
  | str j=>obtain ⟨t',rfl⟩:=ry;exact PySem.EqNone.ne_none_str (aN I q (by simp))
  | _=>exact absurd (show false=true from hs) Bool.false_ne_true
 | bl i =>
  cases rx
  cases y with
  | non=>cases ry;exact PySem.EqNone.ne_bool_none (aN I q (by simp))
  | bl j=>cases ry;exact ne_bool (aN I q (congrArg not Br))
  | str j=>obtain ⟨t',rfl⟩:=ry;exact PySem.EqMixed.ne_bool_str (aN I q (by simp))
  | _=>exact absurd (show false=true from hs) Bool.false_ne_true
 | int i =>
  obtain ⟨t,rfl⟩:=rx
  cases y with
  | non=>cases ry;exact PySem.EqNone.ne_int_none (aN I q (by simp))
  | int j=>obtain ⟨t',rfl⟩:=ry;exact ne_int (aN I q (congrArg not ur))
  | str j=>obtain ⟨t',rfl⟩:=ry;exact PySem.EqMixed.ne_int_str (aN I q (by simp))
  | _=>exact absurd (show false=true from hs) Bool.false_ne_true
 | str i =>
  obtain ⟨t,rfl⟩:=rx
  cases y with
  | non=>cases ry;exact PySem.EqNone.ne_str_none (aN I q (by simp))
  | bl j=>cases ry;exact PySem.EqMixed.ne_str_bool (aN I q (by simp))
  | int j=>obtain ⟨t',rfl⟩:=ry;exact PySem.EqMixed.ne_str_int (aN I q (by simp))
  | str j=>obtain ⟨t',rfl⟩:=ry;exact ne_str (aN I q (congrArg not uq))
  | _=>exact absurd (show false=true from hs) Bool.false_ne_true
 | byt i =>
  obtain ⟨t,rfl⟩:=rx
  cases y with
  | byt j=>obtain ⟨t',rfl⟩:=ry;exact PySem.W.ne_bytes (aN I q (congrArg not Bq))
  | _=>exact absurd (show false=true from hs) Bool.false_ne_true
 | _=>cases y<;>exact absurd (show false=true from hs) Bool.false_ne_true
theorem Lb:OpR X (compareOp .Lt) (rI0 fun i j=>.bl (decide (i<j))):=Kl fun _ _ _ _ _ _ _ q=>lt_int q
theorem Lc:OpR X (compareOp .LtE) (rI0 fun i j=>.bl (decide (i<=j))):=Kl fun _ _ _ _ _ _ _ q=>le_int q
theorem Ld:OpR X (compareOp .Gt) (rI0 fun i j=>.bl (decide (j<i))):=Kl fun _ _ _ _ _ _ _ q=>gt_int q
theorem Le:OpR X (compareOp .GtE) (rI0 fun i j=>.bl (decide (j<=i))):=Kl fun _ _ _ _ _ _ _ q=>ge_int q
theorem Aq:OpR X (compareOp .In) (fun x y H Q=>∃ i j,x=.str i/\y=.str j/\Q (.bl (!(Builtin.Str.occurrences j i 0 j.length 1).isEmpty)) H):=by
 intro pins s σ H x y v u Q I rx ry h
 obtain ⟨i,j,rfl,rfl,q⟩:=h
 obtain ⟨t,rfl⟩:=rx
 obtain ⟨t',rfl⟩:=ry
 exact in_str (aN I q rfl)
theorem Jm:OpR X (compareOp .Is) (fun x y H Q=>y=.non/\Q (.bl (decide (x=.non))) H):=by
 intro pins s σ H x y v u Q I rx ry h
 obtain ⟨rfl,q⟩:=h
 cases ry
 refine is_none_gen (aN I q ?_)
 cases x<;>first
  | (cases rx;rfl)
  | (obtain ⟨t,rfl⟩:=rx;rfl)
noncomputable def isObj:HO->Bool
 | .lst _=>true
 | .ins _ _ _=>true
 | _=>false
theorem qW {pins:List (Addr×Obj)} {s:Shared} {σ:St} {H:Hp} {a:Addr} {o:HO} (I:Inv X pins σ H s) (h:H a=some o) (p:isObj o=true):∃ ob,s.heap.get? a=some ob/\ob.cls ≠ .type "tuple":=by
 cases o with
 | lst xs =>
  obtain ⟨_,its,n,_,e⟩:xs.length<=sizeLine/\∃ (its:List Value) (n:Nat),Vals xs its/\s.heap.get? a=some { cls:=.type "list",data:=.seq its.toArray n }:=I.hok a _ h
  exact ⟨_,e,(by show Value.type "list" ≠ .type "tuple";decide +kernel)⟩
 | ins C dx fs =>
  have x:=I.hok a _ h
  obtain ⟨_,_,_,e,_⟩:=x
  exact ⟨_,e,(by show Value.ref C ≠ .type "tuple";exact fun z=>by cases z)⟩
 | _=>exact absurd (show false=true from p) Bool.false_ne_true
theorem gn (b:Expr) {op:CmpOp} (h:op ≠ .In:=by decide) (h2:op ≠ .NotIn:=by decide):behindInMarks op b=false:=by
 have e1:(op == CmpOp.In)=false:=by cases op<;>first | rfl | exact absurd rfl h
 have e2:(op == CmpOp.NotIn)=false:=by cases op<;>first | rfl | exact absurd rfl h2
 cases b<;>simp [behindInMarks,e1,e2]
theorem Ga {op:CmpOp} {r:R2} (ho:OpR X (compareOp op) r) (ha:PE X a ta) (hb:PE X b tb) (hm:behindInMarks op b=false):PE X (.Compare a [op] [b] pos) (tOp r ta tb):=by
 intro pins s σ H Q I h
 exact wpAny_Compare1 (LL ha hb I h fun v u s2 x y H2 I2 rx ry q=>ho pins s2 σ H2 x y v u Q I2 rx ry q) hm
noncomputable def Ih (t:TE):TT:=fun σ H Q=>t σ H fun x H'=>∃ k,x=.bl k/\Q k H'
theorem Af {op:CmpOp} {r:R2} (ho:OpR X (compareOp op) r) (ha:PE X a ta) (hb:PE X b tb) (hm:behindInMarks op b=false):PT X (.Compare a [op] [b] pos) (Ih (tOp r ta tb)):=by
 intro pins s σ H Q I h
 refine wpAny_isTrue_Compare1 (thn (ha pins s σ H _ I h) fun v s1 ⟨x,H1,I1,r1,q1⟩=>thn (hb pins s1 σ H1 _ I1 q1) fun u s2 ⟨y,H2,I2,r2,q2⟩ =>
  thn (ho pins s2 σ H2 x y v u _ I2 r1 r2 q2) fun c s3 ⟨z,H3,I3,r3,k,e,q3⟩ => ?_) hm
 subst e
 cases r3
 exact wpAny_truthy_bool ⟨H3,I3,q3⟩
noncomputable def Ef (r r':R2) (ta tb tc:TE):TE:=fun σ H Q=>ta σ H fun x H1=>tb σ H1 fun y H2=>r x y H2 fun z H3=>∃ k,z=.bl k /\
 (if k=true then tc σ H3 fun w' H4=>r' y w' H4 Q else Q (.bl false) H3)
theorem Cz {op op':CmpOp} {r r':R2} (ho:OpR X (compareOp op) r) (ho':OpR X (compareOp op') r') (ha:PE X a ta) (hb:PE X b tb) (hc:PE X c tc)
  (hm:lastMarks [op,op'] [b,c]=false:=by with_unfolding_all rfl):PE X (.Compare a [op,op'] [b,c] pos) (Ef r r' ta tb tc):=by
 intro pins s σ H Q I h
 refine Compare_chain (thn (ha pins s σ H _ I h) fun v s1 ⟨x,H1,I1,r1,q1⟩=>chain_link (thn (hb pins s1 σ H1 _ I1 q1) fun u s2 ⟨y,H2,I2,r2,q2⟩ =>
  thn (ho pins s2 σ H2 x y v u _ I2 r1 r2 q2) fun d s3 ⟨z,H3,I3,r3,k,e,q3⟩ => ?_)) hm
 subst e
 cases r3
 refine wpAny_truthy_bool ?_
 cases k with
 | false=>exact ite_ff ⟨.bl false,H3,I3,rfl,q3⟩
 | true=>exact ite_tt (chain_last (thn (hc pins s3 σ H3 _ I3 q3) fun w' s4 ⟨z',H4,I4,r4,q4⟩=>ho' pins s4 σ H4 y z' u w' Q I4 r2 r4 q4))
theorem Ct {op op':CmpOp} {r r':R2} (ho:OpR X (compareOp op) r) (ho':OpR X (compareOp op') r') (ha:PE X a ta) (hb:PE X b tb) (hc:PE X c tc)
  (hm:lastMarks [op,op'] [b,c]=false:=by with_unfolding_all rfl):PT X (.Compare a [op,op'] [b,c] pos) (Ih (Ef r r' ta tb tc)):=by
 intro pins s σ H Q I h
 refine isTrue_chain (thn (ha pins s σ H _ I h) fun v s1 ⟨x,H1,I1,r1,q1⟩=>test_link (thn (hb pins s1 σ H1 _ I1 q1) fun u s2 ⟨y,H2,I2,r2,q2⟩ =>
  thn (ho pins s2 σ H2 x y v u _ I2 r1 r2 q2) fun d s3 ⟨z,H3,I3,r3,k,e,q3⟩ => ?_)) hm
 subst e
 cases r3
 refine wpAny_truthy_bool ?_
 cases k with
 | false =>
  obtain ⟨k',e',q'⟩:=q3
  cases e'
  exact ite_ff ⟨H3,I3,q'⟩
 | true =>
  refine ite_tt (test_last (thn (hc pins s3 σ H3 _ I3 q3) fun w' s4 ⟨z',H4,I4,r4,q4⟩=>thn (ho' pins s4 σ H4 y z' u w' _ I4 r2 r4 q4) fun d' s5 ⟨z2,H5,I5,r5,k2,e2,q5⟩ => ?_))
  subst e2
  cases r5
  exact wpAny_truthy_bool ⟨H5,I5,q5⟩
theorem rK:(sizeLine:Nat)<2^63:=by rw [sizeLine_eq];decide
theorem yd:OpR X (binaryOp .Add) (fun x y H Q=>∃ i j,x=.str i/\y=.str j/\i.length+j.length<=sizeLine/\Q (.str (i++j)) H):=by
 intro pins s σ H x y v u Q I rx ry h
 obtain ⟨i,j,rfl,rfl,hz,q⟩:=h
 obtain ⟨t,rfl⟩:=rx
 obtain ⟨t',rfl⟩:=ry
 exact add_str (fun t' tk=>⟨.str (i++j),H,I.tok _,⟨_,rfl⟩,q⟩) hz
theorem vals1 {x:V} {us:List Value} (r:Vals [x] us):∃ u,us=[u]/\RelV x u:=by
 cases r with
 | cons r1 r2=>cases r2;exact ⟨_,rfl,r1⟩
theorem vals2 {x y:V} {us:List Value} (r:Vals [x,y] us):∃ u w',us=[u,w']/\RelV x u/\RelV y w':=by
 cases r with
 | cons r1 r2 =>
  cases r2 with
  | cons r3 r4=>cases r4;exact ⟨_,_,rfl,r1,r3⟩
theorem Dg:gJ X (.builtin "abs") (fun xs H Q=>∃ i,xs=[.int i]/\Q (.int (if i<0 then -i else i)) H):=by
 intro pins s σ H xs us Q I r h
 obtain ⟨i,rfl,q⟩:=h
 obtain ⟨u,rfl,t,rfl⟩:=vals1 r
 exact call_abs_int fun u tk=>⟨.int (if i<0 then -i else i),H,I.tok _,⟨_,rfl⟩,q⟩
theorem Bv (hc:X.calm=true):gJ X (.builtin "max") (fun xs H Q=>∃ i j,xs=[.int i,.int j]/\Q (.int (if j>i then j else i)) H):=by
 intro pins s σ H xs us Q I r h
 obtain ⟨i,j,rfl,q⟩:=h
 obtain ⟨u,w',rfl,⟨t,rfl⟩,⟨t',rfl⟩⟩:=vals2 r
 refine max_two_ints (I.ok.hd hc) fun h' tk k=>⟨_,H,I.kept k,?_,q⟩
 by_cases hj:j>i
 ·rw [if_pos hj,if_pos hj];exact ⟨_,rfl⟩
 ·rw [if_neg hj,if_neg hj];exact ⟨_,rfl⟩
theorem rY:gJ X (.type "int") (fun xs H Q=>(∃ i,xs=[.int i]/\Q (.int i) H)\/∃ k,xs=[.bl k]/\Q (.int (if k then 1 else 0)) H):=by
 intro pins s σ H xs us Q I r h
 rcases h with ⟨i,rfl,q⟩ | ⟨k,rfl,q⟩
 ·obtain ⟨u,rfl,t,rfl⟩:=vals1 r
  exact call_int_int ⟨.int i,H,I,⟨_,rfl⟩,q⟩
 ·obtain ⟨u,rfl,r1⟩:=vals1 r
  cases r1
  exact call_int_bool ⟨.int (if k then 1 else 0),H,I.tok _,⟨_,rfl⟩,q⟩
theorem rW:gJ X (.type "str") (fun xs H Q=>∃ i,xs=[.int i]/\i.natAbs.log2<1920/\Q (.str (toString i)) H):=by
 intro pins s σ H xs us Q I r h
 obtain ⟨i,rfl,hz,q⟩:=h
 obtain ⟨u,rfl,t,rfl⟩:=vals1 r
 exact PySem.P.str_of_int hz ⟨.str _,H,I.tok _,⟨_,rfl⟩,q⟩
end
end L2
namespace L2
open PySem PySem.Spec PyProof.Rows
structure ObjM (h:Heap) (x dx C:Addr) (mA:Str->Option Value):Prop where
 obj:h.get? x=some (PySem.W.instObj C dx)
 ns:h.Ns1 dx mA
 ne:dx≠x
theorem AV {h:Heap} {dx:Addr} {mA:Str->Option Value} (n:h.Ns1 dx mA):∃ od,h.get? dx=some od/\∀ name,PySem.W.lookIn name od=some (mA name):=by
 obtain ⟨o,es,ep,ho,hd,hk,_,hm⟩:=n
 refine ⟨o,ho,fun name => ?_⟩
 have e:=hm name
 unfold nsFind findBy at e
 rw [<- Array.find?_toList] at e
 unfold PySem.W.lookIn
 rw [hd]
 dsimp only
 split
 ·rename_i y q
  rw [q] at e
  exact congrArg some e
 ·rename_i q
  rw [q] at e
  have a:es.toList.any (·.refKey)=false:=by
   rw [List.any_eq_false]
   intro y hy
   obtain ⟨z,t,hkey⟩:=hk y (Array.mem_toList_iff.mp hy)
   simp [DictEntry.refKey,hkey]
  have a':¬ es.toList.any (·.refKey)=true:=by rw [a];exact Bool.false_ne_true
  rw [if_neg a']
  exact congrArg some e
theorem ObjM.look {h:Heap} {x dx C:Addr} {mA:Str->Option Value} (I:ObjM h x dx C mA):∃ od,PySem.W.InstAt h x (PySem.W.instObj C dx) C (some od)/\∀ name,PySem.W.lookIn name od=some (mA name) :=
 let ⟨od,ho,hl⟩:=AV I.ns
 ⟨od,⟨I.obj,rfl,rfl,ho⟩,hl⟩
section
variable {prog:Program} {w:World} {A:Around} {E:Value->Shared->Prop} {s:Shared} {K:PySem.W.Frag} {x dx C f:Addr} {mA:Str->Option Value} {name:Str} {v:Value}
theorem get_map {expr:Bool} {Q:Value->Shared->Prop} (X:K.In s.heap) (I:ObjM s.heap x dx C mA) (hg:PySem.W.plainGet K C name=true) (hh:PySem.W.hasDictIn K C=true)
  (ha:PySem.W.findIn K (.ref C) name=some none) (hv:mA name=some v) (hv':PySem.W.handedIn v=true) (h:Q v { s with toks:=s.toks+1 }) :
  wpAny (model prog w) A (getAttr (.ref x) name expr) Q E s:=by
 obtain ⟨od,J,hl⟩:=I.look
 exact PySem.W.get_value X J (PySem.W.plainGet_of hg).1 (PySem.W.findObj_own hh ha rfl (by rw [hl,hv])) hv' h
theorem C2 {pl:Sem Bool} {Q:Value×List Value->Shared->Prop} (X:K.In s.heap) (I:ObjM s.heap x dx C mA) (hg:PySem.W.plainGet K C name=true)
  (hf:PySem.W.findIn K (.ref C) name=some (some (.ref f))) (ht:PySem.W.isFn K (.ref f)=true) (hv:mA name=none) (h:Q (.ref f,[.ref x]) s) :
  wpAny (model prog w) A (getMethod (.ref x) name pl) Q E s:=by
 obtain ⟨od,J,hl⟩:=I.look
 exact PySem.W.method_fn X J (PySem.W.plainGet_of hg).1 (PySem.W.plainGet_of hg).2 hf (beq_iff_eq.mp ht) (by show (PySem.W.lookIn name od).map (·.isSome)=some false;rw [hl,hv];rfl) h
theorem FR {ns:List Str} {Q:Unit->Shared->Prop} (X:K.In s.heap) (I:ObjM s.heap x dx C mA)
  (hs:PySem.W.findIn K (.ref C) "__setattr__"=some (some (.builtin "object.__setattr__"))) (hp:PySem.W.plainOver K C=true) (ht:PySem.W.takerIn K C name=some none) (hh:PySem.W.hasDictIn K C=true)
  (hw:PySem.Within mA ns) (hsz:ns.length<=sizeLine)
  (h:∀ h',ObjM h' x dx C (fun y=>if y=name then some v else mA y)->Heap.SameBut dx s.heap h'->Q () { s with heap:=h',toks:=s.toks+2 }) :
  wpAny (model prog w) A (setAttr (.ref x) name v) Q E s:=by
 obtain ⟨od,J,hl⟩:=I.look
 refine PySem.W.set_plain X J hs (PySem.W.osa_open (s:={ s with toks:=s.toks+1 }) (r:=none) X J hp ht fun b => ?_)
 obtain ⟨cd,hc,hd'⟩:=PySem.W.any_some hh
 have hx:s.heap.get? x=some ⟨.ref C,some dx,.plain,#[]⟩:=I.obj
 refine wpAny_bind (wpAny_pure (wpAny_bind (wpAny_bind (wpAny_loadPart hx (wpAny_bind (PySem.W.Looks.here (s:={ s with toks:=s.toks+1 }) (PySem.W.looks_clsIn X hc) ?_))))))
 rw [hd']
 refine wpAny_pure (a:=some dx) (wpAny_bind (wpAny_pure (wpAny_bind ?_)))
 refine wpAny_nsSet1 (s:={ s with toks:=s.toks+1 }) I.ns fun h' hn2 hs2 => ?_
 obtain ⟨oD,esD,epD,hoD,hdD,hcD⟩:=hn2.count (PySem.Within.cons name v hw)
 refine wpAny_bind (wpAny_lookBehind hoD (by rw [hdD];exact pastItsLine_dict (Nat.le_trans hcD (by rw [List.length_cons];omega))) ?_)
 exact wpAny_pure (h _ ⟨(hs2.2 _ (Ne.symm I.ne)).trans I.obj,hn2,I.ne⟩ hs2)
theorem CQ {R:Result->Shared->Prop} {vs:List Value} {kw:List (Str×Value)} (X:K.In s.heap) (hm:PySem.W.makesIn K C=true)
  (hi:PySem.W.findIn K (.ref C) "__init__"=some (some (.ref f))) (hf:PySem.W.typeIn K (.ref f)=some (.type "function"))
  (h:codeAny (model prog w) (A.under (.builtin "type.__call__" ⟨.ref C::vs,kw⟩)) (.call (.ref f) ⟨.ref (s.heap.objs.size+1)::vs,kw⟩) (PySem.W.InitBack (s.heap.objs.size+1) R)
   { s with heap:=(s.heap.push PySem.W.emptyDict).push (PySem.W.instObj C s.heap.objs.size) }) :
  codeAny (model prog w) A (.call (.ref C) ⟨vs,kw⟩) R s:=by
 obtain ⟨hh,g,d,t,os⟩:=s
 exact PySem.W.make_core (PySem.W.makes_of X hm) (PySem.W.looks_findIn X hi) (fun self=>PySem.W.bind_fn X self hf) (.inl rfl) h
end
noncomputable def tD (f:Str) (v:V):List (Str×V)->List (Str×V)
 | []=>[(f,v)]
 | (g,x)::r=>if g=f then (g,v)::r else (g,x)::tD f v r
theorem mn (f g:Str) (v:V):∀ fs:List (Str×V),(tD f v fs).lookup g=if g=f then some v else fs.lookup g
 | []=>by
  show List.lookup g [(f,v)]=_
  by_cases h:g=f
  ·have hb:(g == f)=true:=beq_iff_eq.mpr h
   simp only [List.lookup,hb,if_pos h]
  ·have hb:(g == f)=false:=beq_eq_false_iff_ne.mpr h
   simp only [List.lookup,hb,if_neg h]
 | (k,x)::r=>by
  have ih:=mn f g v r
  rw [show tD f v ((k,x)::r)=(if k=f then (k,v)::r else (k,x)::tD f v r) from rfl]
  by_cases hk:k=f
  ·rw [if_pos hk]
   by_cases h:g=k
   ·have hb:(g == k)=true:=beq_iff_eq.mpr h
    simp only [List.lookup,hb,if_pos (h.trans hk)]
   ·have hb:(g == k)=false:=beq_eq_false_iff_ne.mpr h
    simp only [List.lookup,hb,if_neg (fun e:g=f=>h (e.trans hk.symm))]
  ·rw [if_neg hk]
   by_cases h:g=k
   ·have hb:(g == k)=true:=beq_iff_eq.mpr h
    simp only [List.lookup,hb,if_neg (fun e:g=f=>hk (h.symm.trans e))]
   ·have hb:(g == k)=false:=beq_eq_false_iff_ne.mpr h
    simp only [List.lookup,hb]
    exact ih
theorem mw (f:Str) (v:V):∀ fs:List (Str×V),f∈(tD f v fs).map (·.1)/\∀ g,g∈fs.map (·.1)->g∈(tD f v fs).map (·.1)
 | []=>⟨by simp [tD],fun g h=>by simp at h⟩
 | (k,x)::r=>by
  obtain ⟨i1,i2⟩:=mw f v r
  rw [show tD f v ((k,x)::r)=(if k=f then (k,v)::r else (k,x)::tD f v r) from rfl]
  by_cases hk:k=f
  ·rw [if_pos hk]
   subst hk
   exact ⟨by simp,fun g h=>by simpa using h⟩
  ·rw [if_neg hk]
   refine ⟨?_,fun g h => ?_⟩
   ·rw [List.map_cons]
    exact List.mem_cons_of_mem _ i1
   ·rw [List.map_cons] at h ⊢
    rcases List.mem_cons.mp h with e | e
    ·exact List.mem_cons.mpr (.inl e)
    ·exact List.mem_cons_of_mem _ (i2 g e)
theorem mr (f:Str) (v:V):∀ fs:List (Str×V),(tD f v fs).length<=fs.length+1
 | []=>by simp [tD]
 | (k,x)::r=>by
  have ih:=mr f v r
  rw [show tD f v ((k,x)::r)=(if k=f then (k,v)::r else (k,x)::tD f v r) from rfl]
  by_cases hk:k=f
  ·rw [if_pos hk,List.length_cons,List.length_cons];omega
  ·rw [if_neg hk,List.length_cons,List.length_cons];omega
theorem B6.some_of {v:V} {o:Option Value} (r:B6 (some v) o):∃ u,o=some u/\RelV v u:=by
 cases o with
 | none=>exact (show False from r).elim
 | some u=>exact ⟨u,rfl,r⟩
theorem B6.none_of {o:Option Value} (r:B6 none o):o=none:=by
 cases o with
 | none=>rfl
 | some u=>exact (show False from r).elim
theorem Bc {v:V} {u:Value} (r:RelV v u):PySem.W.handedIn u=true:=by
 cases v with
 | non=>cases (show u=Value.none from r);rfl
 | bl b=>cases (show u=Value.bool b from r);rfl
 | int i=>obtain ⟨t,e⟩:=(show ∃ t,u=Value.int i t from r);cases e;rfl
 | str x=>obtain ⟨t,e⟩:=(show ∃ t,u=Value.str x t from r);cases e;rfl
 | byt b=>obtain ⟨t,e⟩:=(show ∃ t,u=Value.bytes b t from r);cases e;rfl
 | flt b=>obtain ⟨t,e⟩:=(show ∃ t,u=Value.float b t from r);cases e;rfl
 | ref a=>cases (show u=Value.ref a from r);rfl
 | ty n=>cases (show u=Value.type n from r);rfl
section
variable {P:Program} {w:World} {H H':Hp} {h h':Heap} {a C dx:Addr} {fs fs':List (Str×V)}
theorem ug (hok:HOk P w H h) (e:H a=some (.ins C dx fs)):∃ mA,ObjM h a dx C mA/\(∀ f,B6 (fs.lookup f) (mA f))/\PySem.Within mA (fs.map (·.1))/\fs.length<=1000/\H dx=some (.own a):=by
 obtain ⟨d,z,ne,ob,mA,n,r,q⟩:=(show jt P w H h a (.ins C dx fs) from hok a _ e)
 exact ⟨mA,⟨ob,n,ne⟩,r,q,z,d⟩
end
structure Cls (K:PySem.W.Frag) (C:Addr):Prop where
 pg:PySem.W.plainGet K C Str.empty=true
 hd:PySem.W.hasDictIn K C=true
 po:PySem.W.plainOver K C=true
 sa:PySem.W.findIn K (.ref C) "__setattr__"=some (some (.builtin "object.__setattr__"))
theorem Cls.get {K:PySem.W.Frag} {C:Addr} (c:Cls K C) (f:Str):PySem.W.plainGet K C f=true:=c.pg
def ju (K:PySem.W.Frag) (C:Addr) (f:Str):Prop:=PySem.W.findIn K (.ref C) f=some none
theorem ju.taker {K:PySem.W.Frag} {C:Addr} {f:Str} (n:ju K C f):PySem.W.takerIn K C f=some none:=by
 unfold PySem.W.takerIn
 rw [show PySem.W.findIn K (.ref C) f=some none from n]
 rfl
structure Con (K:PySem.W.Frag) (C:Addr) (f:Str) (v:V) (u:Value):Prop where
 at_:PySem.W.findIn K (.ref C) f=some (some u)
 rel:RelV v u
 get:PySem.W.specialIn K u "__get__"=some none
 cp:PySem.W.copiedNames.contains f=false
structure Meth (K:PySem.W.Frag) (C:Addr) (m:Str) (f:Addr):Prop where
 at_:PySem.W.findIn K (.ref C) m=some (some (.ref f))
 fn:PySem.W.isFn K (.ref f)=true
 kp:PySem.W.keepIn K (.ref f)=true
section
variable {X:Cx} {pins:List (Addr×Obj)} {σ:St} {H:Hp} {s:Shared} {a C dx:Addr} {fs:List (Str×V)} {f:Str} {v:V} {A:Around} {E:Value->Shared->Prop}
theorem yk {b:Bool} {Q:Value->Shared->Prop} (I:Inv X pins σ H s) (e:H a=some (.ins C dx fs)) (c:Cls X.K C) (n:ju X.K C f) (l:fs.lookup f=some v)
  (h:∀ u s',Inv X pins σ H s'->RelV v u->Q u s'):wpAny (model X.prog X.w) A (getAttr (.ref a) f b) Q E s:=by
 obtain ⟨mA,O,r,_,_,_⟩:=ug I.hok e
 obtain ⟨u,hu,ru⟩:=B6.some_of (v:=v) (o:=mA f) (by rw [<- l];exact r f)
 exact get_map I.kIn O (c.get f) c.hd n hu (Bc ru) (h u _ (I.tok _) ru)
theorem yj {m:Str} {g:Addr} {pl:Sem Bool} {Q:Value×List Value->Shared->Prop} (I:Inv X pins σ H s) (e:H a=some (.ins C dx fs)) (c:Cls X.K C) (k:Meth X.K C m g) (l:fs.lookup m=none)
  (h:Q (.ref g,[.ref a]) s):wpAny (model X.prog X.w) A (getMethod (.ref a) m pl) Q E s:=by
 obtain ⟨mA,O,r,_,_,_⟩:=ug I.hok e
 have hn:mA m=none:=B6.none_of (by rw [<- l];exact r m)
 exact C2 I.kIn O (c.get m) k.at_ k.fn hn h
theorem xS {y:V} {u:Value} {Q:Unit->Shared->Prop} (I:Inv X pins σ H s) (e:H a=some (.ins C dx fs)) (c:Cls X.K C) (n:ju X.K C f) (hl:fs.length<1000) (ry:RelV y u)
  (h:∀ s',Inv X pins σ (upd H a (.ins C dx (tD f y fs))) s'->Q () s'):wpAny (model X.prog X.w) A (setAttr (.ref a) f u) Q E s:=by
 obtain ⟨mA,O,r,wi,_,ho⟩:=ug I.hok e
 have hz:(fs.map (·.1)).length<=sizeLine:=by rw [List.length_map,sizeLine_eq];omega
 refine FR I.kIn O c.sa c.po n.taker c.hd wi hz fun h' O' sb=>h _ ?_
 have hd:∃ o,h'.get? dx=some o:=let ⟨o,_,_,e',_⟩:=O'.ns;⟨o,e'⟩
 refine I.write (x:=a) (e:=dx) (by rw [e];exact True.intro) (.inr ho) (fun b q hb z=>(sb.2 b hb).trans z) hd ?_
 refine ⟨by rw [bI O.ne];exact ho,?_,O.ne,O'.obj,_,O'.ns,fun g => ?_,fun g hg => ?_⟩
 ·have:=mr f y fs;omega
 ·show B6 ((tD f y fs).lookup g) (if g=f then some u else mA g)
  rw [mn]
  by_cases q:g=f
  ·rw [if_pos q,if_pos q];exact ry
  ·rw [if_neg q,if_neg q];exact r g
 ·by_cases q:g=f
  ·rw [q];exact (mw f y fs).1
  ·refine (mw f y fs).2 g (wi g fun z=>hg ?_)
   show (if g=f then some u else mA g)=none
   rw [if_neg q];exact z
theorem Inv.made (I:Inv X pins σ H s):Inv X pins σ (upd (upd H s.heap.objs.size (.own (s.heap.objs.size+1))) (s.heap.objs.size+1) (.ins C s.heap.objs.size []))
  { s with heap:=(s.heap.push PySem.W.emptyDict).push (PySem.W.instObj C s.heap.objs.size) }:=by
 have e1:(s.heap.push PySem.W.emptyDict).get? s.heap.objs.size=some PySem.W.emptyDict:=Heap.get?_push_size s.heap rfl
 have e2:((s.heap.push PySem.W.emptyDict).push (PySem.W.instObj C s.heap.objs.size)).get? (s.heap.objs.size+1)=some (PySem.W.instObj C s.heap.objs.size):=by
  have:=Heap.get?_push_size (s.heap.push PySem.W.emptyDict) (o:=PySem.W.instObj C s.heap.objs.size) rfl
  rwa [Heap.size_push] at this
 have e3:(s.heap.push PySem.W.emptyDict).Ns s.heap.objs.size (fun _=>none):=⟨PySem.W.emptyDict,#[],_,e1,rfl,(fun e he=>absurd he (by simp)),fun _=>rfl⟩
 have I1:=I.laid (a:=s.heap.objs.size) (o:=.own (s.heap.objs.size+1)) (h':=s.heap.push PySem.W.emptyDict) (t':=s.toks) (fun b u q=>Heap.get?_push_of_some _ q) (Nat.le_refl _) ⟨_,e1⟩
 refine I1.laid (a:=s.heap.objs.size+1) (o:=.ins C s.heap.objs.size []) (t':=s.toks) (fun b u q=>Heap.get?_push_of_some _ q) (Nat.le_of_eq (Heap.size_push _ _)) ?_
 have ne:s.heap.objs.size≠s.heap.objs.size+1:=Nat.ne_of_lt (Nat.lt_succ_self _)
 refine ⟨by rw [bI ne,bG],Nat.zero_le _,ne,e2,fun _=>none,(Heap.Ns1.of_empty e3).at fun o q=>Heap.get?_push_of_some _ q,fun _=>True.intro,fun y hy=>absurd rfl hy⟩
theorem Hr {prog:Program} {w:World} {env:Env} {e:Expr} {f:Str} {pos:Pos} {s:Shared} {Q:Value->Shared->Prop} (hb:attributeBase e f env (eval e env)=eval e env)
  (h:wpAny (model prog w) A (eval e env) (fun o s₁=>wpAny (model prog w) A (getAttr o f true) Q E s₁) E s):wpAny (model prog w) A (eval (.Attribute e f pos) env) Q E s :=
 Attribute_any_ h (by rw [arm_eval_Attribute,hb])
end
noncomputable def Qv (K:PySem.W.Frag) (ta:TE) (f:Str):TE:=fun σ H Q=>ta σ H fun x H1=>∃ a C dx fs v,x=.ref a/\H1 a=some (.ins C dx fs)/\Cls K C/\ju K C f/\fs.lookup f=some v/\Q v H1
noncomputable def QC (K:PySem.W.Frag) (ta tv:TE) (f:Str):TS:=fun D σ H=>tv σ H fun y H1=>ta σ H1 fun x H2=>∃ a C dx fs,x=.ref a/\H2 a=some (.ins C dx fs)/\Cls K C/\ju K C f/\fs.length<1000 /\
 D.nx σ (upd H2 a (.ins C dx (tD f y fs)))
section
variable {X:Cx} {o e value:Expr} {f:Str} {pos pos' tpos:Pos} {ta tv:TE}
theorem Jb (he:PE X e ta) (hb:attributeBase e f X.env (eval e X.env)=eval e X.env):PE X (.Attribute e f pos) (Qv X.K ta f):=by
 intro pins s σ H Q I h
 refine Hr hb (thn (he pins s σ H _ I h) fun u s1 ⟨x,H1,I1,rx,a,C,dx,fs,v,ex,ea,c,n,l,q⟩ => ?_)
 subst ex
 obtain rfl:u=Value.ref a:=rx
 exact yk I1 ea c n l fun u' s2 I2 ru=>⟨v,H1,I2,ru,q⟩
theorem IP (ha:PE X o ta) (hv:PE X value tv) (hs:swapsWith value (some (.Attribute o f pos')) pos.line X.env=pure false):PS X (.Assign [.Attribute o f pos'] value pos) (QC X.K ta tv f):=by
 intro pins s σ H D I h
 refine plainObj_wpAny_Assign_Attribute (thn (hv pins s σ H _ I h) fun u s1 ⟨y,H1,I1,ry,q⟩=>thn (ha pins s1 σ H1 _ I1 q) fun ov s2 ⟨x,H2,I2,rx,a,C,dx,fs,ex,ea,c,n,l,q2⟩ => ?_) hs
 subst ex
 obtain rfl:ov=Value.ref a:=rx
 exact xS I2 ea c n l ry fun s3 I3=>⟨σ,_,I3,q2⟩
end
section
variable {X:Cx} {pins:List (Addr×Obj)} {σ:St} {H:Hp} {s:Shared} {A:Around} {E:Value->Shared->Prop} {Q:Value->Shared->Prop} {c:Value} {b:Bool}
inductive TyOf (K:PySem.W.Frag) (H:Hp):V->Value->Prop where
 | non:TyOf K H .non (.type "NoneType")
 | bl (x:Bool):TyOf K H (.bl x) (.type "bool")
 | int (i:Int):TyOf K H (.int i) (.type "int")
 | str (x:Str):TyOf K H (.str x) (.type "str")
 | flt (x:UInt64):TyOf K H (.flt x) (.type "float")
 | lst {a:Addr} {xs:List V} (e:H a=some (.lst xs)):TyOf K H (.ref a) (.type "list")
 | frz {a:Addr} {o:Obj} {xs:List V} (e:H a=some (.frz o (.lst xs))):TyOf K H (.ref a) (.type "list")
 | tup {a:Addr} {xs:List V} (e:H a=some (.tup xs)):TyOf K H (.ref a) (.type "tuple")
 | dK {a:Addr} {kvs:List (Key×V)} (e:H a=some (.dK kvs)):TyOf K H (.ref a) (.type "dict")
 | dT {a:Addr} {kvs:List (List Key×V)} (e:H a=some (.dT kvs)):TyOf K H (.ref a) (.type "dict")
 | ins {a C dx:Addr} {fs:List (Str×V)} (e:H a=some (.ins C dx fs)) (cl:Cls K C) (ha:PySem.W.findIn K (.ref C) "__class__"=some (some (.builtin "object.__class__")))
   (hn:PySem.W.specialIn K (.builtin "object.__class__") "__get__"=some (some (.builtin "getset_descriptor.__get__"))) (htk:PySem.W.takesIn K (.builtin "object.__class__")=some true)
   (hm:PySem.W.mroIn K C (.type "object")=some true):TyOf K H (.ref a) (.ref C)
end
end L2
namespace L2
open PySem PySem.Spec PyProof.Rows
structure Room (k:Nat) (A:Around):Prop where
 hd:A.handled=none
 dp:A.depth+3*k+5<recursionLimit
 un:A.units+16*k+200<cLine
theorem Room.mono {j k:Nat} {A:Around} (r:Room k A) (h:j<=k):Room j A:=⟨r.hd,by have:=r.dp;omega,by have:=r.un;omega⟩
theorem Room.deeper {k:Nat} {A:Around} (r:Room (k+1) A) (env:Env):Room k (A.deeper env) :=
 ⟨r.hd,by have:=r.dp;show A.depth+1+3*k+5<_;omega,by have:=r.un;show A.units+3+16*k+200<_;omega⟩
theorem yh {A:Around} {C:Addr} {us:List Value} {kw:List (Str×Value)}:(A.under (.builtin "type.__call__" ⟨.ref C::us,kw⟩)).depth=A.depth+1:=by
 first | rfl | simp [Around.under,Code.weight,Code.isCreation,Code.isGuard,Code.isCaller,Code.frames,Code.isFrame,guardIds]
theorem yg {A:Around} {C:Addr} {us:List Value} {kw:List (Str×Value)}:(A.under (.builtin "type.__call__" ⟨.ref C::us,kw⟩)).units=A.units+1:=by
 first | rfl | simp [Around.under,Code.cUnits,Code.frames,Code.isFrame]
theorem Room.make {k:Nat} {A:Around} (r:Room (k+1) A) (C:Addr) (us:List Value) (kw:List (Str×Value)):Room k (A.under (.builtin "type.__call__" ⟨.ref C::us,kw⟩)) :=
 ⟨r.hd,by have:=r.dp;rw [yh];omega,by have:=r.un;rw [yg];omega⟩
theorem Room.depth {k:Nat} {A:Around} (r:Room k A):A.depth<recursionLimit:=by have:=r.dp;omega
theorem Room.units {k:Nat} {A:Around} (r:Room k A):A.units+64<cLine:=by have:=r.un;omega
noncomputable def Qr:TA:=fun _ H Q=>Q [] H
noncomputable def KP (ta:TE) (tr:TA):TA:=fun σ H Q=>ta σ H fun x H1=>tr σ H1 fun xs H2=>Q (x::xs) H2
section
variable {X:Cx} {e:Expr} {es:List Expr} {te:TE} {t:TA} {pos:Pos}
theorem An:PA X [] Qr:=fun _ _ _ _ H Q I h=>Calls.spliced_nil ⟨[],H,I,.nil,h⟩
theorem t6 (ha:PE X e te) (hr:PA X es t) (hs:starEach (e::es) X.env=(false,eval e X.env)::starEach es X.env:=by rfl):PA X (e::es) (KP te t):=by
 intro pos pins s σ H Q I h
 rw [hs]
 show wpAny _ _ (spliced ((false,eval e X.env)::backTo pos (starEach es X.env))) _ _ s
 refine Calls.spliced_cons (thn (ha pins s σ H _ I h) fun u s1 ⟨x,H1,I1,r1,q1⟩ => ?_)
 exact thn (hr pos pins s1 σ H1 _ I1 q1) fun us s2 ⟨xs,H2,I2,r2,q2⟩=>⟨x::xs,H2,I2,.cons r1 r2,q2⟩
noncomputable def Qm (t:TA):TE:=fun σ H Q=>t σ H fun xs H1=>xs.length<=sizeLine/\∀ p,H1 p=none->Q (.ref p) (upd H1 p (.tup xs))
noncomputable def Qs (t:TA):TE:=fun σ H Q=>t σ H fun xs H1=>xs.length<=sizeLine/\∀ p,H1 p=none->Q (.ref p) (upd H1 p (.lst xs))
theorem IV {x1} (h:PA X es t):PE X (.Tuple es x1 pos) (Qm t):=by
 intro pins s σ H Q I hq
 refine wpAny_Tuple_spliced (thn (h pos pins s σ H _ I hq) fun us s1 ⟨xs,H1,I1,r,z,q⟩=>⟨by rw [<- r.length];exact z,?_⟩)
 have hf:H1 s1.heap.objs.size=none:=I1.hok.fresh (Nat.le_refl _)
 refine ⟨.ref s1.heap.objs.size,upd H1 s1.heap.objs.size (.tup xs),I1.laid (t':=s1.toks) (fun b u e=>Heap.get?_push_of_some _ e) (Nat.le_refl _) ?_,rfl,q _ hf⟩
 exact ⟨z,us,r,⟨_,Heap.get?_push_size _ rfl,rfl,_,rfl⟩⟩
theorem IZ (h:PA X es t):PE X (.List es pos) (Qs t):=by
 intro pins s σ H Q I hq
 refine wpAny_List_spliced (thn (h pos pins s σ H _ I hq) fun us s1 ⟨xs,H1,I1,r,z,q⟩=>⟨by rw [<- r.length];exact z,?_⟩)
 have hf:H1 s1.heap.objs.size=none:=I1.hok.fresh (Nat.le_refl _)
 refine ⟨.ref s1.heap.objs.size,upd H1 s1.heap.objs.size (.lst xs),I1.laid (t':=s1.toks) (fun b u e=>Heap.get?_push_of_some _ e) (Nat.le_refl _) ?_,rfl,q _ hf⟩
 exact ⟨z,us,0,r,Heap.get?_push_size _ rfl⟩
end
noncomputable abbrev Sp:=List V->Hp->VK->XK->Prop
noncomputable abbrev CXT:=List Env->Hp->Shared->XK->Value->Shared->Prop
structure Env0 (P:Program) (w:World) (K:PySem.W.Frag) (mg:Str->Option Value) (base:Heap) (A:Around) (outer:List Env) (s:Shared) (H:Hp):Prop where
 frames:A.frames=some outer
 mod:Mod K mg base
 bs:∀ b o,base.get? b=some o->s.heap.get? b=some o/\H b=none
 bsz:base.objs.size<=s.heap.objs.size
 funs:s.heap.FunFrames base outer
 frf:∀ b∈frs outer,H b=none
 hok:HOk P w H s.heap
 bare:AllBare s.gens
def CE (outer:List Env) (P:Program) (w:World) (H:Hp) (s:Shared) (Q:VK) (u:Value) (s':Shared):Prop :=
 ∃ v H',s'.os=s.os/\AllBare s'.gens/\Un (frs outer) [] H H' s.heap s'.heap/\HOk P w H' s'.heap/\RelV v u/\Q v H'
def CR (CX:CXT) (outer:List Env) (P:Program) (w:World) (H:Hp) (s:Shared) (Q:VK) (E:XK) (r:Result) (s':Shared):Prop :=
 match r with
 | .ok (.ret u)=>CE outer P w H s Q u s'
 | .ok _=>False
 | .error e=>CX outer H s E e s'
structure FnOk (P:Program) (w:World) (K:PySem.W.Frag) (mg:Str->Option Value) (base:Heap) (CX:CXT) (k:Nat) (f:Addr) (fd:FuncData) (ps:List Str) (sp:Sp):Prop where
 len:∀ vs H Q E,sp vs H Q E->vs.length=ps.length
 run:∀ (A:Around) (outer:List Env) (s:Shared) (H:Hp) (args:Args) (us:List Value) (vs:List V) (Q:VK) (E:XK),Room k A->Env0 P w K mg base A outer s H->BindsTo s fd args (ps.zip us)->Vals vs us->sp vs H Q E ->
  codeAny (model P w) A (.call (.ref f) args) (CR CX outer P w H s Q E) s
theorem FnOk.mono {P:Program} {w:World} {K:PySem.W.Frag} {mg:Str->Option Value} {base:Heap} {CX:CXT} {j k:Nat} {f:Addr} {fd:FuncData} {ps:List Str} {sp:Sp} (F:FnOk P w K mg base CX j f fd ps sp) (h:j<=k) :
  FnOk P w K mg base CX k f fd ps sp:=⟨F.len,fun A outer s H args us vs Q E hr=>F.run A outer s H args us vs Q E (hr.mono h)⟩
theorem Env0.make {P:Program} {w:World} {K:PySem.W.Frag} {mg:Str->Option Value} {base:Heap} {A:Around} {outer:List Env} {s:Shared} {H:Hp} (e:Env0 P w K mg base A outer s H) (C:Addr) (us:List Value) (kw:List (Str×Value)) :
  Env0 P w K mg base (A.under (.builtin "type.__call__" ⟨.ref C::us,kw⟩)) outer s H:=⟨by first | exact e.frames | (simpa [Around.under,Code.envs,Code.isFrame,pushEnvs] using e.frames),e.mod,e.bs,e.bsz,e.funs,e.frf,e.hok,e.bare⟩
section
variable {X:Cx} {pins:List (Addr×Obj)} {σ:St} {H:Hp} {s s':Shared}
theorem Inv.env0 (I:Inv X pins σ H s):Env0 X.prog X.w X.K X.mg X.base X.A X.stack s H :=
 ⟨I.ok.frames,I.ok.mod,I.bs,Nat.le_trans I.ok.bsz I.sz,I.stack,I.stkFree,I.hok,I.bare⟩
theorem Inv.after {Q:VK} {u:Value} (I:Inv X pins σ H s) (h:CE X.stack X.prog X.w H s Q u s'):EP X pins σ Q u s':=by
 obtain ⟨v,H',os,bare,un,hok,r,q⟩:=h
 obtain ⟨hh,g,d,t,os'⟩:=s'
 obtain rfl:os'=s.os:=os
 exact ⟨v,H',I.call (h':=hh) (g':=g) (d':=d) (t':=t) (ch:=[]) un hok bare (fun b z=>absurd z (by simp)),r,q⟩
end
noncomputable def KN (C:Addr) (sp:Sp) (dvs:List V) (E:XK) (t:TA):TE:=fun σ H Q=>t σ H fun vs H1=>∀ x dx,H1 x=none->H1 dx=none->dx≠x ->
 sp (.ref x::(vs++dvs)) (upd (upd H1 dx (.own x)) x (.ins C dx [])) (fun v H2=>v=.non/\Q (.ref x) H2) E
def Binds (K:PySem.W.Frag) (fd:FuncData) (ps:List Str) (ds:List Value):Prop :=
 ∀ (s:Shared) (us:List Value),K.In s.heap->(us++ds).length=ps.length->BindsTo s fd ⟨us,[]⟩ (ps.zip (us++ds))
theorem Binds.all {K:PySem.W.Frag} {fd:FuncData} {ps:List Str} (h:∀ us:List Value,us.length=ps.length->bindArgs fd ⟨us,[]⟩=pure (ps.zip us)):Binds K fd ps []:=fun s us _ hl=>by
 rw [List.append_nil] at hl ⊢
 exact .of_eq (h us hl)
def Passes (CX:CXT) (X:Cx) (E:XK):Prop:=∀ (pins:List (Addr×Obj)) (σ:St) (H:Hp) (s:Shared) (e:Value) (s':Shared),Inv X pins σ H s->CX X.stack H s E e s'->X.xe e s'
section
variable {X:Cx} {CX:CXT} {k:Nat} {f C:Addr} {fd:FuncData} {ps:List Str} {sp:Sp} {dvs:List V} {ds:List Value} {E:XK} {x m:Str} {p pos apos:Pos} {e o:Expr} {es:List Expr} {ta:TE} {t:TA}
structure Mk (K:PySem.W.Frag) (C f:Addr):Prop where
 makes:PySem.W.makesIn K C=true
 init:PySem.W.findIn K (.ref C) "__init__"=some (some (.ref f))
 fn:PySem.W.isFn K (.ref f)=true
 kp:PySem.W.keepIn K (.ref C)=true
theorem Cq {pins:List (Addr×Obj)} {σ:St} {H:Hp} {s:Shared} {Q:VK} {us:List Value} {vs:List V} (M:Mk X.K C f) (F:FnOk X.prog X.w X.K X.mg X.base CX k f fd ps sp) (hr:Room (k+1) X.A) (hb:Binds X.K fd ps ds) (hd:Vals dvs ds)
  (hx:Passes CX X E) (I:Inv X pins σ H s) (r:Vals vs us)
  (h:∀ x dx,H x=none->H dx=none->dx≠x->sp (.ref x::(vs++dvs)) (upd (upd H dx (.own x)) x (.ins C dx [])) (fun v H2=>v=.non/\Q (.ref x) H2) E) :
  wpAny (model X.prog X.w) X.A (call (.ref C) us) (EP X pins σ Q) X.xe s:=by
 have hq:=h (s.heap.objs.size+1) s.heap.objs.size (I.hok.fresh (Nat.le_succ _)) (I.hok.fresh (Nat.le_refl _)) (Nat.ne_of_lt (Nat.lt_succ_self _))
 have I2:=Inv.made (C:=C) I
 have r2:Vals (V.ref (s.heap.objs.size+1)::(vs++dvs)) (Value.ref (s.heap.objs.size+1)::(us++ds)):=.cons rfl (r.append hd)
 have hl:(Value.ref (s.heap.objs.size+1)::us++ds).length=ps.length:=by
  have e:=r2.length
  rw [F.len _ _ _ _ hq] at e
  exact e.symm
 refine wpAny_call (CQ (f:=f) I.kIn M.makes M.init (beq_iff_eq.mp M.fn) (codeAny_mono (F.run _ X.stack _ _ ⟨Value.ref (s.heap.objs.size+1)::us,[]⟩ (Value.ref (s.heap.objs.size+1)::(us++ds)) _ _ E (hr.make C us [])
  (I2.env0.make C us []) (hb _ (Value.ref (s.heap.objs.size+1)::us) I2.kIn hl) r2 hq) fun r s' hq' => ?_))
 cases r with
 | error e=>exact hx pins σ _ _ e s' I2 hq'
 | ok fl =>
  cases fl with
  | ret u =>
   obtain ⟨v,H',I3,rv,ev,q3⟩:=I2.after hq'
   subst ev
   exact ⟨rv,⟨V.ref (s.heap.objs.size+1),H',I3,rfl,q3⟩⟩
  | next=>exact False.elim hq'
  | brk=>exact False.elim hq'
  | cont=>exact False.elim hq'
theorem F9 (M:Mk X.K C f) (F:FnOk X.prog X.w X.K X.mg X.base CX k f fd ps sp) (hr:Room (k+1) X.A) (hg:Gl X x) (hm:X.mg x=some (.ref C)) (hb:Binds X.K fd ps ds) (hd:Vals dvs ds) (hx:Passes CX X E)
  (ha:PA X (e::es) t) (hdb:(x == ("__debug__":Str))=false:=by decide) (he:starEach (e::es) X.env=(false,eval e X.env)::starEach es X.env:=by rfl) (hpl:(backTo pos (starEach es X.env)).any (·.1)=false:=by rfl) :
  PE X (.Call (.Name x p) (e::es) [] pos) (KN C sp dvs E t):=by
 intro pins s σ H Q I h
 refine wpAny_Call_Name_kw (pT I hg hm ?_ hdb)
 refine PySem.W.callWith_K (h₀:=X.base) I.ok.mod.kin M.kp (thn (ha pos pins s σ H _ I h) fun us s1 ⟨vs,H1,I1,r,q⟩=>⟨I1.kIn,?_⟩) he hpl
 exact Cq M F hr hb hd hx I1 r q
end
section
variable {X:Cx} {CX:CXT} {k:Nat} {f C:Addr} {fd:FuncData} {ps ks:List Str} {sp:Sp} {E:XK} {x m:Str} {p pos apos kpos:Pos} {e o:Expr} {es:List Expr} {kws:List Keyword} {te ta:TE} {t tk:TA} {nm:Option Str}
structure KBinds (K:PySem.W.Frag) (fd:FuncData) (ps ks:List Str) (g:List Value->List Value->List Value) (gV:List V->List V->List V):Prop where
 to:∀ (s:Shared) (us ws:List Value),K.In s.heap->(g us ws).length=ps.length->BindsTo s fd ⟨us,ks.zip ws⟩ (ps.zip (g us ws))
 rel:∀ {vs:List V} {us:List Value} {zs:List V} {ws:List Value},Vals vs us->Vals zs ws->Vals (gV vs zs) (g us ws)
variable {g:List Value->List Value->List Value} {gV:List V->List V->List V}
end
structure FnScope (N P:List Str) (sc:Scope):Prop where
 kind:sc.kind=.function
 co:sc.isCoroutine=false
 gen:sc.isGenerator=false
 nd:N.Nodup
 pre:N.take P.length=P
 par:∀ x∈P,sc.names.lookup x=some .local\/sc.names.lookup x=some .cell
 nofree:∀ y∈sc.names,y.2 ≠ .free
theorem sk {kindOf:Str->Option NameKind} {x:Str}:∀ {binds:List (Str×Value)} {m:Str->Option Value},(∀ v,(x,v)∉binds)->bindL kindOf binds m x=m x
 | [],_,_=>rfl
 | (n,v)::r,m,h=>by
  unfold bindL
  rw [sk fun w hw=>h w (List.mem_cons_of_mem _ hw)]
  split
  ·have:x≠n:=by rintro rfl;exact h v List.mem_cons_self
   simp [this]
  ·rfl
theorem sr {kindOf:Str->Option NameKind} {x:Str}:∀ {binds:List (Str×Value)} {m:Str->Option Value},(∀ v,(x,v)∉binds)->bindC kindOf binds m x=m x
 | [],_,_=>rfl
 | (n,v)::r,m,h=>by
  unfold bindC
  rw [sr fun w hw=>h w (List.mem_cons_of_mem _ hw)]
  split
  ·rfl
  ·have:x≠n:=by rintro rfl;exact h v List.mem_cons_self
   simp [this]
theorem sq {kindOf:Str->Option NameKind} {x:Str} {v:Value}:∀ {P:List Str} {vs:List Value} {i:Nat} {m:Str->Option Value},P.Nodup->P[i]? = some x->vs[i]? = some v->kindOf x=some .local ->
  bindL kindOf (P.zip vs) m x=some v
 | [],_,_,_,_,h,_,_=>by simp at h
 | _::_,[],_,_,_,_,h,_=>by simp at h
 | p::P,w::vs,0,m,nd,h1,h2,hk=>by
  simp at h1 h2;subst h1;subst h2
  show bindL kindOf ((p,w)::P.zip vs) m p=_
  unfold bindL
  rw [sk fun v hv=>(List.nodup_cons.mp nd).1 (List.of_mem_zip hv).1,if_pos hk]
  simp
 | p::P,w::vs,i+1,m,nd,h1,h2,hk=>by
  show bindL kindOf ((p,w)::P.zip vs) m x=_
  unfold bindL
  exact sq (i:=i) (List.nodup_cons.mp nd).2 (by simpa using h1) (by simpa using h2) hk
theorem su {kindOf:Str->Option NameKind} {x:Str} {v:Value}:∀ {P:List Str} {vs:List Value} {i:Nat} {m:Str->Option Value},P.Nodup->P[i]? = some x->vs[i]? = some v->kindOf x≠some .local ->
  bindC kindOf (P.zip vs) m x=some v
 | [],_,_,_,_,h,_,_=>by simp at h
 | _::_,[],_,_,_,_,h,_=>by simp at h
 | p::P,w::vs,0,m,nd,h1,h2,hk=>by
  simp at h1 h2;subst h1;subst h2
  show bindC kindOf ((p,w)::P.zip vs) m p=_
  unfold bindC
  rw [sr fun v hv=>(List.nodup_cons.mp nd).1 (List.of_mem_zip hv).1,if_neg hk]
  simp
 | p::P,w::vs,i+1,m,nd,h1,h2,hk=>by
  show bindC kindOf ((p,w)::P.zip vs) m x=_
  unfold bindC
  exact su (i:=i) (List.nodup_cons.mp nd).2 (by simpa using h1) (by simpa using h2) hk
noncomputable def start (N:List Str) (vs:List V):St:=vs.map some++List.replicate (N.length - vs.length) none
noncomputable def B4 (CX:CXT) (P:Program) (w:World) (K:PySem.W.Frag) (mg:Str->Option Value) (base:Heap) (N:List Str) (qual:Str) (scope:Scope) (f:Addr) (cd:Value) (A:Around) (outer:List Env) (s:Shared) (H:Hp) (E:XK):Cx where
 prog:=P
 w:=w
 K:=K
 mg:=mg
 base:=base
 A:=A.deeper (envOfC qual scope s.heap.objs.size f cd)
 N:=N
 s₀:=s
 H₀:=H
 env:=envOfC qual scope s.heap.objs.size f cd
 outer:=outer
 stack:=envOfC qual scope s.heap.objs.size f cd::outer
 ex:=[]
 calm:=true
 fn:=fun _=>true
 pn:=[]
 xe:=fun e s'=>wpAny (model P w) (A.deeper (envOfC qual scope s.heap.objs.size f cd)) (leaving (envOfC qual scope s.heap.objs.size f cd) e) (fun _ s''=>CX outer H s E e s'') (fun e' s''=>CX outer H s E e' s'') s'
theorem wW {sc:Scope} {n:Nat} {x:Str} (h:sc.names.lookup x=some .cell):∃ c,(cellsFrom n sc.names []).lookup x=some c:=by
 have q:=PySem.W.cellsFrom_some sc.names n [] (.inl h)
 exact Option.isSome_iff_exists.mp q
theorem A3 {CX:CXT} {P:Program} {w:World} {K:PySem.W.Frag} {mg:Str->Option Value} {base:Heap} {N ps:List Str} {qual:Str} {scope:Scope} {f:Addr} {cd:Value} {A:Around} {outer:List Env} {s s1:Shared} {H:Hp} {E:XK} {us:List Value} {vs:List V}
  (S:FnScope N ps scope) (hd:A.handled=none) (e0:Env0 P w K mg base A outer s H) (hl:vs.length=ps.length) (r:Vals vs us)
  (x:InCallC s s.heap.objs.size (bindL (envOfC qual scope s.heap.objs.size f cd).kindOf (ps.zip us) fun _=>none) (cellsFrom (s.heap.objs.size+1) scope.names []) (bindC (envOfC qual scope s.heap.objs.size f cd).kindOf (ps.zip us) fun _=>none) s1) :
  Inv (B4 CX P w K mg base N qual scope f cd A outer s H E) [] (start N vs) H s1:=by
 have hpl:ps.length<=N.length:=by have:=congrArg List.length S.pre;rw [List.length_take] at this;omega
 obtain ⟨h1,tk,rfl,hk⟩:=x.done
 have noA:∀ b:Addr,b∉(B4 CX P w K mg base N qual scope f cd A outer s H E).ex:=fun b z=>absurd (show b∈([]:List Addr) from z) (by simp)
 refine ⟨⟨e0.mod,S.kind,rfl,rfl,Nat.le_refl _,fun y z c h1 h2 => ?_,fun y hy => ?_,fun y c _ h => ?_,fun _=>hd,Around.frames_deeper e0.frames,.inr ⟨rfl,rfl⟩,fun b z=>absurd z (noA b),e0.bs,e0.bsz,fun b _ _=>noA b,fun b z=>absurd z (noA b),e0.funs,e0.frf⟩,
  rfl,e0.bare,Un.kept hk,⟨_,x.toInCall.ns,fun i y v h1 h2 h3 => ?_⟩,fun y c h=>⟨_,x.cell y c h⟩,e0.hok.fresh (Nat.le_refl _),fun y c h => ?_,fun p hp=>absurd (show p∈([]:List (Addr×Obj)) from hp) (by simp),e0.hok.kept hk,?_⟩
 ·exact name_of_addr x.apart (PySem.mem_of_lookup h1) (PySem.mem_of_lookup h2)
 ·have hy:scope.names.lookup y=some .cell\/scope.names.lookup y=some .free:=hy
  rcases hy with hy | hy
  ·exact wW hy
  ·exact absurd rfl (S.nofree _ (PySem.mem_of_lookup hy))
 ·exact Nat.le_of_lt (x.above y c (PySem.mem_of_lookup h))
 ·have hi:i<vs.length:=by
   unfold start at h2
   by_cases hi:i<vs.length
   ·exact hi
   ·rw [List.getElem?_append_right (by simpa using hi)] at h2
    rw [List.getElem?_replicate] at h2
    split at h2<;>cases h2
  have ha:vs[i]? = some v:=by
   unfold start at h2
   rw [List.getElem?_append_left (by simpa using hi),List.getElem?_map] at h2
   cases e:vs[i]? with
   | none=>rw [e] at h2;cases h2
   | some a=>rw [e] at h2;cases h2;rfl
  obtain ⟨u,hu,rv⟩:=r.get ha
  have hp:ps[i]? = some y:=by
   rw [<- S.pre,List.getElem?_take_of_lt (by omega)];exact h1
  have ndP:ps.Nodup:=by rw [<- S.pre];exact S.nd.sublist (List.take_sublist _ _)
  refine ⟨u,rv,?_⟩
  rcases S.par y (List.mem_of_getElem? hp) with k | k
  ·exact .inl ⟨k,sq ndP hp hu k⟩
  ·obtain ⟨c,e⟩:=wW (n:=s.heap.objs.size+1) k
   refine .inr ⟨.inl k,c,e,?_⟩
   have q:=x.cell y c e
   rw [su ndP hp hu (by show scope.names.lookup y≠_;rw [k];decide)] at q
   exact q
 ·exact e0.hok.fresh (Nat.le_of_lt (x.above y c (PySem.mem_of_lookup h)))
 ·unfold start
  show _=N.length
  rw [List.length_append,List.length_map,List.length_replicate]
  omega
theorem JM {CX:CXT} {P:Program} {w:World} {K:PySem.W.Frag} {mg:Str->Option Value} {base:Heap} {k:Nat} {f:Addr} {name qual:Str} {params:Arguments} {body:List Stmt} {scope:Scope} {dV kV doc pm cdv ct oc:Value} {an od:Option Addr}
  {osl:Array (Option Value)} {N ps:List Str} {sp:Sp} (lk:K.lookup f=some ⟨oc,od,.func (PySem.W.fnOf name qual params body scope dV kV doc pm an cdv ct),osl⟩) (hcd:PySem.W.codeIn K cdv qual=true) (S:FnScope N ps scope)
  (len:∀ vs H Q E,sp vs H Q E->vs.length=ps.length)
  (hbody:∀ (A:Around) (outer:List Env) (s:Shared) (H:Hp) (vs:List V) (Q:VK) (E:XK),Room k (A.deeper (envOfC qual scope s.heap.objs.size f cdv))->sp vs H Q E ->
   ∃ t,PSs (B4 CX P w K mg base N qual scope f cdv A outer s H E) body t/\t { nx:=fun _ H'=>Q .non H',rt:=Q } (start N vs) H) :
  FnOk P w K mg base CX (k+1) f (PySem.W.fnOf name qual params body scope dV kV doc pm an cdv ct) ps sp:=by
 refine ⟨len,fun A outer s H args us vs Q E hr e0 hb r hsp => ?_⟩
 have hl:=len _ _ _ _ hsp
 have KX:K.In s.heap:=e0.mod.kin.keeps fun b o e=>(e0.bs b o e).1
 have lim:s.heap.NoLimit:=e0.mod.nolimit.keeps fun b o e=>(e0.bs b o e).1
 have hkind:∀ y∈ps.zip us,scope.names.lookup y.1=some .local\/(scope.names.lookup y.1=some .cell/\((cellsFrom (s.heap.objs.size+1) scope.names []).lookup y.1).isSome=true):=fun ⟨n,v⟩ hy=>by
  rcases S.par n (List.of_mem_zip hy).1 with q | q
  ·exact .inl q
  ·exact .inr ⟨q,PySem.W.cellsFrom_some _ _ _ (.inl q)⟩
 refine codeAny_call_function hr.depth (KX _ _ lk) rfl S.co S.gen rfl (PySem.W.codeRec_of KX hcd) (hb _ _ _ _ ?_)
 refine wpAny_newFunctionEnv_cells S.kind hkind fun env he s1 x => ?_
 subst he
 refine ⟨lim.keeps x.toInCall.keep,codeAny_func ?_⟩
 obtain ⟨t,ht,hq⟩:=hbody A outer s H vs Q E (hr.deeper _) hsp
 have I:Inv (B4 CX P w K mg base N qual scope f cdv A outer s H E) [] (start N vs) H s1:=A3 S hr.hd e0 hl r x
 refine wpAny_mono (ht [] s1 (start N vs) H _ I hq) (fun fl s' hs => ?_) fun e s' hs=>hs
 have fin:∀ {σ':St} {H':Hp} {v:V} {u:Value},Inv (B4 CX P w K mg base N qual scope f cdv A outer s H E) [] σ' H' s'->RelV v u->Q v H'->CE outer P w H s Q u s' :=
  fun {σ' H' v u} J rv q=>⟨v,H',J.os,J.bare,J.base,J.hok,rv,q⟩
 cases fl with
 | ret u =>
  obtain ⟨v,σ',H',J,rv,q⟩:=hs
  exact fin J rv q
 | next =>
  obtain ⟨σ',H',J,q⟩:=hs
  exact fin (v:=V.non) (u:=Value.none) J rfl q
 | brk =>
  obtain ⟨_,_,_,q⟩:=hs
  exact False.elim q
 | cont =>
  obtain ⟨_,_,_,q⟩:=hs
  exact False.elim q
end L2
namespace L2
open PySem PySem.Spec PyProof.Rows
section
variable {X:Cx} {x:Str} {p pos:Pos} {e:Expr} {es:List Expr} {t:TA} {id T:String} {r:List V->Hp->VK->Prop}
noncomputable def tCB (r:List V->Hp->VK->Prop) (t:TA):TE:=fun σ H Q=>t σ H fun vs H1=>r vs H1 Q
theorem vx (hc:gJ X (.builtin id) r) (hg:Gl X x) (hm:X.mg x=none) (hv:bootBuiltins x=some (.builtin id)) (ha:PA X (e::es) t) (hn:x≠"__name__":=by decide) (hdb:(x == ("__debug__":Str))=false:=by decide)
  (he:starEach (e::es) X.env=(false,eval e X.env)::starEach es X.env:=by rfl) (hpl:(backTo pos (starEach es X.env)).any (·.1)=false:=by rfl):PE X (.Call (.Name x p) (e::es) [] pos) (tCB r t):=by
 intro pins s σ H Q I h
 refine wpAny_Call_Name_kw (AZ I hg hm hv ?_ hn hdb)
 exact PyProof.Rows.callWith_builtin1 (thn (ha pos pins s σ H _ I h) fun us s1 ⟨vs,H1,I1,r1,q1⟩=>hc pins s1 σ H1 vs us Q I1 r1 q1) he hpl
theorem Al (hc:gJ X (.type T) r) (hg:Gl X x) (hm:X.mg x=none) (hv:bootBuiltins x=some (.type T)) (ha:PA X (e::es) t) (hn:x≠"__name__":=by decide) (hdb:(x == ("__debug__":Str))=false:=by decide)
  (he:starEach (e::es) X.env=(false,eval e X.env)::starEach es X.env:=by rfl) (hpl:(backTo pos (starEach es X.env)).any (·.1)=false:=by rfl):PE X (.Call (.Name x p) (e::es) [] pos) (tCB r t):=by
 intro pins s σ H Q I h
 refine wpAny_Call_Name_kw (AZ I hg hm hv ?_ hn hdb)
 exact PyProof.Rows.callWith_type1 (thn (ha pos pins s σ H _ I h) fun us s1 ⟨vs,H1,I1,r1,q1⟩=>hc pins s1 σ H1 vs us Q I1 r1 q1) he hpl
end
end L2
namespace HT
open PySem PyProof.Rows
section
open PySem.SeqAt
open PySem.AutoSeq1 (wpAny_loadPart')
open PySem.MeetsSeq PySem.MeetsSeq2 PySem.MeetsSeq3
end
section
variable {prog:Program} {w:World} {A:Around} {E:Value->Shared->Prop} {s:Shared}
theorem Hf {t b:Addr} {vs ws:List Value} {Q:Value->Shared->Prop} (ht:IsTup s.heap t vs.toArray) (hb:IsTup s.heap b ws.toArray) (hv:vs≠[])
  (h1:ws=[]->Q (.ref t) s) (h2:ws≠[]->Q (.ref s.heap.objs.size) { s with heap:=s.heap.push { cls:=.type "tuple",data:=.seq (vs++ws).toArray } })
  (hsz:vs.length+ws.length<=sizeLine):wpAny (model prog w) A (binaryOp .Add (.ref t) (.ref b)) Q E s:=by
 obtain ⟨⟨cls,dd,data,sl⟩,ho,hc,n,hd⟩:=id ht
 obtain ⟨⟨cls2,dd2,data2,sl2⟩,ho2,hc2,n2,hd2⟩:=id hb
 simp only at hc hd hc2 hd2
 subst hc hd hc2 hd2
 have e:vs.toArray++ws.toArray=(vs++ws).toArray:=by simp
 by_cases hw:ws=[]
 ·exact concat_meets ⟨_,ho,rfl⟩ ⟨_,ho2,rfl⟩ noFill_tuple_add seq_tuple_add PySem.F.slot_tuple_add PySem.F.entry_tuple_add (PySem.F.args_tuple_add_2 _ _)
   (tuple_addW1 t b vs.toArray ws.toArray n n2 dd dd2 sl sl2 (by simpa using hv) (by simp [hw])) ⟨ho,ho2,h1 hw⟩
 ·refine concat_meets ⟨_,ho,rfl⟩ ⟨_,ho2,rfl⟩ noFill_tuple_add seq_tuple_add PySem.F.slot_tuple_add PySem.F.entry_tuple_add (PySem.F.args_tuple_add_2 _ _)
   (tuple_addW2 t b vs.toArray ws.toArray n n2 dd dd2 sl sl2 (by simpa using hv) (by simpa using hw) (by rw [List.size_toArray,List.size_toArray];exact hsz)) ⟨ho,ho2,?_⟩
  rw [e]
  exact h2 hw
noncomputable def sIx (n d:Nat):Option Int->Nat
 | none=>d
 | some v=>if v<0 then (v+(n:Int)).toNat else min v.toNat n
theorem Iy (n d:Nat) (hd:d<=n) (o:Option Int):sIx n d o<=n:=by
 cases o with
 | none=>exact hd
 | some v =>
  show (if v<0 then (v+(n:Int)).toNat else min v.toNat n)<=n
  by_cases hv:v<0
  ·rw [if_pos hv];omega
  ·rw [if_neg hv];exact Nat.min_le_right _ _
theorem Bt (v:Int) (n d:Nat):(if v<0 then max (v+(n:Int)) 0 else min v (n:Int))=((sIx n d (some v):Nat):Int):=by
 show (if v<0 then max (v+(n:Int)) 0 else min v (n:Int))=(((if v<0 then (v+(n:Int)).toNat else min v.toNat n):Nat):Int)
 by_cases hv:v<0
 ·simp only [if_pos hv];omega
 ·simp only [if_neg hv];omega
theorem yy (lo hi:Option Int) (n:Nat):Builtin.Slice.sliceAdjust lo hi 1 (n:Int)=(((sIx n 0 lo:Nat):Int),((sIx n n hi:Nat):Int)):=by
 have h1:¬ ((1:Int)<0):=by omega
 unfold Builtin.Slice.sliceAdjust
 simp only [h1,if_false]
 refine Prod.ext ?_ ?_
 ·cases lo with
  | none=>rfl
  | some v=>exact Bt v n 0
 ·cases hi with
  | none=>rfl
  | some v=>exact Bt v n n
theorem yb (i j:Nat):Builtin.Slice.slicePlaces (i:Int) (j:Int) 1=j - i:=by
 unfold Builtin.Slice.slicePlaces
 have h1:(1:Int)>0:=by omega
 simp only [h1,if_true,Int.ediv_one]
 split<;>omega
theorem og {v:Value} {o:Option Int} {Q:Option Int->Shared->Prop} (p:IsPart v o) (h:Q o s):wpAny (model prog w) A (Builtin.Slice.slicePartIndex v) Q E s:=by
 cases p with
 | none=>exact slicePart_none h
 | int i t=>exact slicePart_int h
theorem kO {sl:Addr} {vl vu:Value} {lo hi:Option Int} {n:Nat} {Q:Int×Int×Nat->Shared->Prop} (hs:s.heap.IsSliceOf sl vl vu .none) (pl:IsPart vl lo) (pu:IsPart vu hi)
  (h:Q (((sIx n 0 lo:Nat):Int),1,sIx n n hi - sIx n 0 lo) s):wpAny (model prog w) A (Builtin.Slice.sliceApplied (.ref sl) (pure (n:Int))) Q E s:=by
 obtain ⟨os,hos,hcs,hds⟩:=id hs
 unfold Builtin.Slice.sliceApplied Builtin.Slice.sliceFields
 refine wpAny_bind (wpAny_bind (wpAny_field hos hds (x:=vl) rfl (wpAny_bind (wpAny_field hos hds (x:=vu) rfl (wpAny_bind (wpAny_field hos hds (x:=.none) rfl (wpAny_pure ?_)))))))
 refine wpAny_bind (slicePart_none ?_)
 show wpAny _ _ (if ((1:Int) == 0)=true then _ else _) _ _ s
 rw [if_neg (by decide)]
 refine wpAny_bind (og pl (wpAny_bind (og pu (wpAny_bind (wpAny_pure ?_)))))
 show wpAny _ _ (match Builtin.Slice.sliceAdjust lo hi 1 (n:Int) with | (lo,hi)=>pure (lo,(1:Int),Builtin.Slice.slicePlaces lo hi 1)) _ _ s
 rw [yy lo hi n]
 show wpAny _ _ (pure (((sIx n 0 lo:Nat):Int),(1:Int),Builtin.Slice.slicePlaces ((sIx n 0 lo:Nat):Int) ((sIx n n hi:Nat):Int) 1)) _ _ s
 rw [yb]
 exact wpAny_pure h
theorem Cw (xs:Array Value) (i k:Nat):((List.range k).filterMap fun (m:Nat)=>xs[((i:Int)+(m:Int)*1).toNat]?).toArray=((xs.toList.drop i).take k).toArray:=by
 have e:(fun (m:Nat)=>xs[((i:Int)+(m:Int)*1).toNat]?)=fun m=>xs[i+m]? := by
  funext m
  have:((i:Int)+(m:Int)*1).toNat=i+m:=by omega
  rw [this]
 rw [e]
 have:=pick_run xs i k
 rw [List.filterMap_map] at this
 have e2:((fun x=>xs[x]?) ∘ fun x=>i+x)=fun m=>xs[i+m]? := rfl
 rw [e2] at this
 rw [this]
theorem jS {t sl:Addr} {items:Array Value} {vl vu:Value} {lo hi:Option Int} {Q:Value->Shared->Prop} (ht:IsTup s.heap t items) (hs:s.heap.IsSliceOf sl vl vu .none) (pl:IsPart vl lo) (pu:IsPart vu hi)
  (hw:¬ (sIx items.size 0 lo=0/\sIx items.size items.size hi=items.size))
  (h:Q (.ref s.heap.objs.size) { s with heap:=s.heap.push { cls:=.type "tuple",data:=.seq ((items.toList.drop (sIx items.size 0 lo)).take (sIx items.size items.size hi - sIx items.size 0 lo)).toArray } })
  (hsz:items.size<=sizeLine):wpAny (model prog w) A (getItem (.ref t) (.ref sl)) Q E s:=by
 have htake:sizeOk (.seq ((items.toList.drop (sIx items.size 0 lo)).take (sIx items.size items.size hi - sIx items.size 0 lo)).toArray):=by
  show ((items.toList.drop (sIx items.size 0 lo)).take (sIx items.size items.size hi - sIx items.size 0 lo)).toArray.size<=sizeLine
  rw [List.size_toArray,List.length_take,List.length_drop,Array.length_toList]
  omega
 have hj:sIx items.size items.size hi<=items.size:=Iy _ _ (Nat.le_refl _) hi
 obtain ⟨os,hos,hcs,hds⟩:=id hs
 have hTs:s.TypeIs (.ref sl) "slice":=⟨os,hos,hcs⟩
 unfold getItem
 try with_reducible refine wpAny_holding ?_
 first | refine wpAny_bind (wpAny_pure ?_) | skip
 refine wpAny_bind (wpAny_sequenceKey ht.typeIs (by decide) ?_)
 refine wpAny_bind (wpAny_callSpecial?_slot (name:=Str.ofString "__getitem__") ht.typeIs PyProof.Rows.slot_tuple_getitem
  (wpAny_call_entry PyProof.Rows.slot_tuple_getitem ht.typeIs entry_tuple_getitem ?_ (args_tuple_getitem _ _)))
 show wpAny _ _ (Builtin.Tuple.tupleItemsOf (.ref t) >>= _) _ _ s
 refine wpAny_bind (tupleItemsOf_ ht ?_)
 refine wpAny_bind (wpAny_typeOf hTs ?_)
 rw [if_pos (by decide)]
 refine wpAny_bind (kO hs pl pu ?_)
 have hno:¬ ((((sIx items.size 0 lo:Nat):Int) == 0&&(1:Int) == 1&&(sIx items.size items.size hi - sIx items.size 0 lo) == items.size)=true):=by
  intro q
  rw [Bool.and_eq_true,Bool.and_eq_true] at q
  have q1:((sIx items.size 0 lo:Nat):Int)=0:=eq_of_beq q.1.1
  have q2:sIx items.size items.size hi - sIx items.size 0 lo=items.size:=eq_of_beq q.2
  exact hw ⟨by omega,by omega⟩
 show wpAny _ _ (if (((sIx items.size 0 lo:Nat):Int) == 0&&(1:Int) == 1&&(sIx items.size items.size hi - sIx items.size 0 lo) == items.size)=true then _ else _) _ _ s
 rw [if_neg hno,Cw]
 first
  | exact wpAny_bind (m:=Builtin.Tuple.tupleExact _) (wpAny_newObj_type (wpAny_pure ⟨_,rfl,wpAny_pure h⟩) htake)
  | exact wpAny_bind (m:=Builtin.Tuple.tupleExact _) (wpAny_newObj_type (wpAny_bind (wpAny_pure (wpAny_pure ⟨_,rfl,wpAny_pure h⟩))) htake)
  | exact wpAny_bind (wpAny_bind (m:=Builtin.Tuple.tupleExact _) (wpAny_newObj_type (wpAny_pure (wpAny_pure ⟨_,rfl,wpAny_pure h⟩)) htake))
  | exact wpAny_bind (wpAny_bind (m:=Builtin.Tuple.tupleExact _) (wpAny_newObj_type (wpAny_pure ⟨_,rfl,wpAny_pure h⟩) htake))
end
end HT
namespace L2
open PySem PySem.Spec PyProof.Rows
noncomputable abbrev TO:=St->Hp->(Option Int->Hp->Prop)->Prop
def PO (X:Cx) (e:Option Expr) (t:TO):Prop :=
 ∀ (pins:List (Addr×Obj)) (s:Shared) (σ:St) (H:Hp) (Q:Option Int->Hp->Prop),Inv X pins σ H s->t σ H Q ->
  wpAny (model X.prog X.w) X.A (evalPart e X.env) (fun u s'=>∃ o H',Inv X pins σ H' s'/\IsPart u o/\Q o H') X.xe s
noncomputable def Fy:TO:=fun _ H Q=>Q none H
noncomputable def KI (t:TE):TO:=fun σ H Q=>t σ H fun x H1=>∃ i,x=.int i/\Q (some i) H1
section
variable {X:Cx} {e:Expr} {te:TE} {lo hi:Option Expr} {tl th:TO} {pos p2:Pos}
theorem F7:PO X none Fy:=by
 intro pins s σ H Q I h
 rw [evalPart_none]
 exact wpAny_pure ⟨none,H,I,.none,h⟩
theorem F6 (h:PE X e te):PO X (some e) (KI te):=by
 intro pins s σ H Q I hw
 rw [evalPart_some]
 refine thn (h pins s σ H _ I hw) fun u s1 ⟨x,H1,I1,r1,q1⟩ => ?_
 obtain ⟨i,rfl,q⟩:=q1
 obtain ⟨t,rfl⟩:=r1
 exact ⟨some i,H1,I1,.int i t,q⟩
def SlR (X:Cx) (r:V->Option Int->Option Int->Hp->VK->Prop):Prop :=
 ∀ (pins:List (Addr×Obj)) (s:Shared) (σ:St) (H:Hp) (x:V) (v vl vu:Value) (lo hi:Option Int) (sl:Addr) (Q:VK),Inv X pins σ H s->RelV x v->s.heap.IsSliceOf sl vl vu .none->IsPart vl lo->IsPart vu hi->r x lo hi H Q ->
  ∃ T id,typeLookup (.type T) "__getitem__"=pure (some (.builtin id))/\s.TypeIs v T/\wpAny (model X.prog X.w) X.A (getItem v (.ref sl)) (EP X pins σ Q) X.xe s
noncomputable def tSl (r:V->Option Int->Option Int->Hp->VK->Prop) (te:TE) (tl th:TO):TE:=fun σ H Q=>te σ H fun x H1=>tl σ H1 fun l H2=>th σ H2 fun u H3=>r x l u H3 Q
theorem vv {r:V->Option Int->Option Int->Hp->VK->Prop} (hr:SlR X r) (he:PE X e te) (hl:PO X lo tl) (hu:PO X hi th):PE X (.Subscript e (.Slice lo hi none p2) pos) (tSl r te tl th):=by
 intro pins s σ H Q I h
 refine Subscript_ (thn (he pins s σ H _ I h) fun v s1 ⟨x,H1,I1,r1,q1⟩ => ?_)
 refine wpAny_Slice (thn (hl pins s1 σ H1 _ I1 q1) fun vl s2 ⟨l,H2,I2,pl,q2⟩=>thn (hu pins s2 σ H2 _ I2 q2) fun vu s3 ⟨u,H3,I3,pu,q3⟩ => ?_)
 rw [evalPart_none]
 refine wpAny_pure ?_
 have I4:Inv X pins σ H3 { s3 with heap:=s3.heap.push { cls:=.type "slice",data:=.fields #[vl,vu,.none] } }:=I3.kept (t':=s3.toks) fun b ob q=>Heap.get?_push_of_some _ q
 obtain ⟨T,id,hT,ht,hg⟩:=hr pins { s3 with heap:=s3.heap.push { cls:=.type "slice",data:=.fields #[vl,vu,.none] } } σ H3 x v vl vu l u s3.heap.objs.size Q I4 r1 (Heap.IsSliceOf.new ..) pl pu q3
 show wpAny (model X.prog X.w) X.A (subscriptTail e (.Slice lo hi none p2) v (.ref s3.heap.objs.size)) (EP X pins σ Q) X.xe { s3 with heap:=s3.heap.push { cls:=.type "slice",data:=.fields #[vl,vu,.none] } }
 exact tail_any (ops:=[.ref s3.heap.objs.size,v]) ht hT hg (by with_unfolding_all rfl)
noncomputable def E9 (xs:List V) (lo hi:Option Int):List V:=(xs.drop (HT.sIx xs.length 0 lo)).take (HT.sIx xs.length xs.length hi - HT.sIx xs.length 0 lo)
theorem mL (xs:List V) (lo hi:Option Int):(E9 xs lo hi).length<=xs.length:=by
 unfold E9
 rw [List.length_take,List.length_drop]
 omega
noncomputable def QF (K:PySem.W.Frag):V->Option Int->Option Int->Hp->VK->Prop:=fun x lo hi H Q=>∃ a xs,x=.ref a/\SqT K H a xs /\
 ¬ (HT.sIx xs.length 0 lo=0/\HT.sIx xs.length xs.length hi=xs.length)/\∀ p,H p=none->Q (.ref p) (upd H p (.tup (E9 xs lo hi)))
theorem Ip:SlR X (QF X.K):=by
 intro pins s σ H x v vl vu lo hi sl Q I rx hs pl pu h
 obtain ⟨a,xs,rfl,hx,hw,q⟩:=h
 cases rx
 obtain ⟨its,r,ht,hz⟩:=I.tuple hx
 have hlen:its.toArray.size=xs.length:=by rw [List.size_toArray];exact r.length.symm
 refine ⟨"tuple",_,PyProof.Rows.slot_tuple_getitem.lookup,ht.typeIs,?_⟩
 refine HT.jS ht hs pl pu (by rw [hlen];exact hw) ?_ (by rw [hlen];exact hz)
 rw [hlen]
 refine ⟨.ref s.heap.objs.size,_,I.laid (t':=s.toks) (o:=.tup (E9 xs lo hi)) (fun b ob q=>Heap.get?_push_of_some _ q) (Nat.le_refl _) ?_,rfl,q _ (I.hok.fresh (Nat.le_refl _))⟩
 exact ⟨Nat.le_trans (mL xs lo hi) hz,_,(r.drop (HT.sIx xs.length 0 lo)).take (HT.sIx xs.length xs.length hi - HT.sIx xs.length 0 lo),IsTup.new _ _⟩
noncomputable def KY (K:PySem.W.Frag):R2:=fun x y H Q=>∃ a b xs ys,x=.ref a/\y=.ref b/\SqT K H a xs/\SqT K H b ys/\xs≠[]/\xs.length+ys.length<=sizeLine /\
 (ys=[]->Q (.ref a) H)/\(ys≠[]->∀ p,H p=none->Q (.ref p) (upd H p (.tup (xs++ys))))
theorem Vals.nil_iff {xs:List V} {us:List Value} (r:Vals xs us):us=[]↔xs=[]:=by
 cases r with
 | nil=>simp
 | cons _ _=>simp
theorem Gs:OpR X (binaryOp .Add) (KY X.K):=by
 intro pins s σ H x y v u Q I rx ry h
 obtain ⟨a,b,xs,ys,rfl,rfl,ha,hb,hx,hz,q1,q2⟩:=h
 cases rx
 cases ry
 obtain ⟨its,r1,p1,_⟩:=I.tuple ha
 obtain ⟨its2,r2,p2,_⟩:=I.tuple hb
 refine HT.Hf p1 p2 (fun z=>hx (r1.nil_iff.mp z)) (fun z=>⟨.ref a,H,I,rfl,q1 (r2.nil_iff.mp z)⟩) (fun z => ?_) (by rw [<- r1.length,<-r2.length];exact hz)
 refine ⟨.ref s.heap.objs.size,_,I.laid (t':=s.toks) (o:=.tup (xs++ys)) (fun b ob q=>Heap.get?_push_of_some _ q) (Nat.le_refl _) ?_,rfl,q2 (fun w=>z (r2.nil_iff.mpr w)) _ (I.hok.fresh (Nat.le_refl _))⟩
 exact ⟨by rw [List.length_append];exact hz,_,r1.append r2,IsTup.new _ _⟩
end
end L2
namespace L2
open PySem PySem.Spec PyProof.Rows
noncomputable def ixN (n:Nat) (i:Int):Option Nat:=if 0<=i then (if i<n then some i.toNat else none) else if -(n:Int)<=i then some (i+n).toNat else none
noncomputable def atI {α:Type} (xs:List α) (i:Int):Option α:=(ixN xs.length i).bind fun j=>xs[j]?
theorem GO {n:Nat} {i:Int} {j:Nat} (h:ixN n i=some j):seqIndex? i n=some j/\j<n /\ -(n:Int)<=i/\i<n:=by
 unfold ixN at h
 by_cases h0:0<=i
 ·rw [if_pos h0] at h
  by_cases h1:i<n
  ·rw [if_pos h1] at h
   have e:i.toNat=j:=Option.some.inj h
   exact ⟨by rw [seqIndex_of h0 h1,e],by omega,by omega,h1⟩
  ·rw [if_neg h1] at h;cases h
 ·rw [if_neg h0] at h
  by_cases h1 : -(n:Int)<=i
  ·rw [if_pos h1] at h
   have e:(i+n).toNat=j:=Option.some.inj h
   exact ⟨by rw [seqIndex_neg (by omega) h1,e],by omega,h1,by omega⟩
  ·rw [if_neg h1] at h;cases h
theorem uC {α:Type} {xs:List α} {i:Int} {v:α} (h:atI xs i=some v):∃ j,seqIndex? i xs.length=some j/\xs[j]? = some v/\j<xs.length /\ -(xs.length:Int)<=i/\i<xs.length:=by
 unfold atI at h
 cases e:ixN xs.length i with
 | none=>rw [e] at h;cases h
 | some j =>
  rw [e] at h
  obtain ⟨h1,h2,h3,h4⟩:=GO e
  exact ⟨j,h1,h,h2,h3,h4⟩
def BW (b:Expr):Prop:=∀ o i,subscripted b false o i=operate [o,i] (getItem o i)
def IxR (X:Cx) (r:R2):Prop :=
 ∀ (value slice:Expr) (pins:List (Addr×Obj)) (s:Shared) (σ:St) (H:Hp) (x y:V) (v u:Value) (Q:VK),Inv X pins σ H s->RelV x v->RelV y u->r x y H Q ->
  subscripted slice false v u=operate [v,u] (getItem v u)->wpAny (model X.prog X.w) X.A (subscriptTail value slice v u) (EP X pins σ Q) X.xe s
def MtR (X:Cx) (id:String) (r:V->List V->Hp->VK->Prop):Prop :=
 ∀ (pins:List (Addr×Obj)) (s:Shared) (σ:St) (H:Hp) (x:V) (xs:List V) (v:Value) (us:List Value) (Q:VK),Inv X pins σ H s->RelV x v->Vals xs us->r x xs H Q ->
  wpAny (model X.prog X.w) X.A (call (.builtin id) (v::us)) (EP X pins σ Q) X.xe s
section
variable {X:Cx} {a b:Expr} {ta tb:TE} {pos:Pos}
theorem K6 {r:R2} (hr:IxR X r) (ha:PE X a ta) (hb:PE X b tb) (hs:BW b):PE X (.Subscript a b pos) (tOp r ta tb):=by
 intro pins s σ H Q I h
 exact Subscript_ (LL ha hb I h fun v u s2 x y H2 I2 rx ry q=>hr a b pins s2 σ H2 x y v u Q I2 rx ry q (hs _ _))
noncomputable def QJ (K:PySem.W.Frag):R2:=fun x y H Q=>∃ p xs i v,x=.ref p/\y=.int i/\SqL K H p xs/\atI xs i=some v/\Q v H
noncomputable def QH (K:PySem.W.Frag):R2:=fun x y H Q=>∃ p xs i v,x=.ref p/\y=.int i/\SqT K H p xs/\atI xs i=some v/\Q v H
noncomputable def QI:R2:=fun x y H Q=>∃ z i c,x=.str z/\y=.int i/\z.length<=sizeLine/\atI z.cps.toList i=some c/\Q (.str ⟨#[c]⟩) H
theorem GN:IxR X (QJ X.K):=by
 intro value slice pins s σ H x y v u Q I rx ry h hs
 obtain ⟨p,xs,i,z,rfl,rfl,hq,he,q⟩:=h
 cases rx
 obtain ⟨t,rfl⟩:=ry
 obtain ⟨its,r,pl,hz⟩:=I.list hq
 obtain ⟨j,h1,h2,h3,h4,h5⟩:=uC he
 obtain ⟨w,ew,rw'⟩:=r.get h2
 have hl:=r.length
 have hn:=rK
 have fin:EP X pins σ Q w s:=⟨z,H,I,rw',q⟩
 by_cases h0:0<=i
 ·have hj:i.toNat=j:=by
   rw [seqIndex_of h0 h5] at h1
   exact Option.some.inj h1
  exact item_listR pl.isList h0 (by omega) (by rw [hj];simpa using ew) fin hs
 ·have hj:(i+(its.toArray.size:Int)).toNat=j:=by
   rw [seqIndex_neg (by omega) h4] at h1
   rw [List.size_toArray,<-hl]
   exact Option.some.inj h1
  exact subscriptTail_builtinR (x:=w) pl.isList.typeIs slot_list_getitem.lookup
   (wpAny_getItem_list_neg (Q:=fun r s'=>r=w/\EP X pins σ Q r s') pl.isList (by omega) (by rw [List.size_toArray]<;>omega) (by omega) (by rw [hj];simpa using ew) ⟨rfl,fin⟩) hs
theorem oz:IxR X (QH X.K):=by
 intro value slice pins s σ H x y v u Q I rx ry h hs
 obtain ⟨p,xs,i,z,rfl,rfl,hq,he,q⟩:=h
 cases rx
 obtain ⟨t,rfl⟩:=ry
 obtain ⟨its,r,pl,hz⟩:=I.tuple hq
 obtain ⟨j,h1,h2,h3,h4,h5⟩:=uC he
 obtain ⟨w,ew,rw'⟩:=r.get h2
 have hl:=r.length
 have hn:=rK
 have fin:EP X pins σ Q w s:=⟨z,H,I,rw',q⟩
 exact subscriptTail_builtinR (x:=w) pl.typeIs slot_tuple_getitem.lookup
  (getItem_tuple (j:=j) (Q:=fun r s'=>r=w/\EP X pins σ Q r s') pl (by omega) (by omega) (by rw [List.size_toArray,<-hl];exact h1) (by simpa using ew) ⟨rfl,fin⟩) hs
theorem EI:IxR X QI:=by
 intro value slice pins s σ H x y v u Q I rx ry h hs
 obtain ⟨z,i,c,rfl,rfl,hz,he,q⟩:=h
 obtain ⟨t,rfl⟩:=rx
 obtain ⟨t',rfl⟩:=ry
 obtain ⟨j,h1,h2,h3,h4,h5⟩:=uC he
 have hl:z.cps.toList.length=z.length:=by simp [Str.length]
 rw [hl] at h1 h4 h5
 have hn:=rK
 exact tail_any (typeIs_str s z t) slot_str_getitem.lookup (getItem_str (c:=c) (by
  have e1:decide (i < -(2^63:Int))=false:=decide_eq_false (by omega)
  have e2:decide (i>=2^63)=false:=decide_eq_false (by omega)
  rw [e1,e2,Bool.or_false]) (by rw [h1];simpa using h2) ⟨.str ⟨#[c]⟩,H,I.tok _,⟨_,rfl⟩,q⟩) hs
theorem qF (lo hi:Option Int) (n:Nat):(sliceBounds lo hi none n).1=((HT.sIx n 0 lo:Nat):Int)/\(sliceBounds lo hi none n).2.1=((HT.sIx n n hi:Nat):Int)/\(sliceBounds lo hi none n).2.2=1:=by
 refine ⟨?_,?_,rfl⟩
 ·cases lo with
  | none=>simp [sliceBounds,HT.sIx]
  | some i =>
   simp only [sliceBounds,HT.sIx,Option.getD_none,show (1:Int)>0 by decide,if_true]
   by_cases h:i<0
   ·simp only [h,if_true]<;>omega
   ·simp only [h,if_false]<;>omega
 ·cases hi with
  | none=>simp [sliceBounds,HT.sIx]
  | some i =>
   simp only [sliceBounds,HT.sIx,Option.getD_none,show (1:Int)>0 by decide,if_true]
   by_cases h:i<0
   ·simp only [h,if_true]<;>omega
   ·simp only [h,if_false]<;>omega
theorem pf (its:List Value) (lo hi:Option Int):slicePick its.toArray lo hi none=((its.drop (HT.sIx its.length 0 lo)).take (HT.sIx its.length its.length hi - HT.sIx its.length 0 lo)).toArray:=by
 obtain ⟨h1,h2,h3⟩:=qF lo hi its.toArray.size
 unfold slicePick
 rw [h1,h2,h3]
 simp only [sliceRange_one,pick_run,List.size_toArray]<;>rfl
noncomputable def QG (K:PySem.W.Frag):V->Option Int->Option Int->Hp->VK->Prop:=fun x lo hi H Q=>∃ a xs,x=.ref a/\SqL K H a xs/\∀ p,H p=none->Q (.ref p) (upd H p (.lst (E9 xs lo hi)))
theorem FN:SlR X (QG X.K):=by
 intro pins s σ H x v vl vu lo hi sl Q I rx hs pl pu h
 obtain ⟨a,xs,rfl,hx,q⟩:=h
 cases rx
 obtain ⟨its,r,ht,hz⟩:=I.list hx
 have hlen:=r.length
 refine ⟨"list",_,slot_list_getitem.lookup,ht.isList.typeIs,?_⟩
 refine wpAny_getItem_list_slice ht.isList hs pl pu .none (by simp) ?_ (by rw [List.size_toArray]<;>omega)
 rw [pf,<-hlen]
 refine ⟨.ref s.heap.objs.size,_,I.laid (t':=s.toks) (o:=.lst (E9 xs lo hi)) (fun b ob q=>Heap.get?_push_of_some _ q) (Nat.le_refl _) ?_,rfl,q _ (I.hok.fresh (Nat.le_refl _))⟩
 exact ⟨Nat.le_trans (mL xs lo hi) hz,_,0,(r.drop (HT.sIx xs.length 0 lo)).take (HT.sIx xs.length xs.length hi - HT.sIx xs.length 0 lo),Heap.get?_push_size _ rfl⟩
noncomputable def nO:V->Bool
 | .non=>true
 | .bl _=>true
 | .int _=>true
 | .str _=>true
 | _=>false
noncomputable def eqV:V->V->Bool
 | .non,.non=>true
 | .bl a,.bl b=>a == b
 | .bl a,.int b=>(if a then 1 else 0) == b
 | .int a,.bl b=>a == (if b then 1 else 0)
 | .int a,.int b=>a == b
 | .str a,.str b=>a == b
 | _,_=>false
theorem JR {A:Around} {s:Shared} {y x:V} {u v:Value} (ry:RelV y u) (rx:RelV x v) (fy:nO y=true) (fx:nO x=true):SeqAt.EqAt A s u v (eqV y x):=by
 cases y with
 | non =>
  cases ry
  cases x with
  | non=>cases rx;exact SeqAt.EqAt.same _
  | bl b=>cases rx;exact SeqAt.EqAt.none_bool b
  | int b=>obtain ⟨t,rfl⟩:=rx;exact SeqAt.EqAt.none_int b t
  | str b=>obtain ⟨t,rfl⟩:=rx;exact SeqAt.EqAt.none_str b t
  | _=>exact absurd (show false=true from fx) Bool.false_ne_true
 | bl a =>
  cases ry
  cases x with
  | non=>cases rx;exact SeqAt.EqAt.bool_none a
  | bl b=>cases rx;exact SeqAt.EqAt.bool_bool a b
  | int b=>obtain ⟨t,rfl⟩:=rx;exact SeqAt.EqAt.bool_int a b t
  | str b=>obtain ⟨t,rfl⟩:=rx;exact SeqAt.EqAt.bool_str a b t
  | _=>exact absurd (show false=true from fx) Bool.false_ne_true
 | int a =>
  obtain ⟨t',rfl⟩:=ry
  cases x with
  | non=>cases rx;exact SeqAt.EqAt.int_none a t'
  | bl b=>cases rx;exact SeqAt.EqAt.int_bool a t' b
  | int b=>obtain ⟨t,rfl⟩:=rx;exact SeqAt.EqAt.int_int a t' b t
  | str b=>obtain ⟨t,rfl⟩:=rx;exact SeqAt.EqAt.int_str a t' b t
  | _=>exact absurd (show false=true from fx) Bool.false_ne_true
 | str a =>
  obtain ⟨t',rfl⟩:=ry
  cases x with
  | non=>cases rx;exact SeqAt.EqAt.str_none a t'
  | bl b=>cases rx;exact SeqAt.EqAt.str_bool a t' b
  | int b=>obtain ⟨t,rfl⟩:=rx;exact SeqAt.EqAt.str_int a t' b t
  | str b=>obtain ⟨t,rfl⟩:=rx;exact SeqAt.EqAt.str_str a t' b t
  | _=>exact absurd (show false=true from fx) Bool.false_ne_true
 | _=>exact absurd (show false=true from fy) Bool.false_ne_true
noncomputable def eqU (x:V) (u:Value):Bool:=match u with
 | .none=>eqV .non x
 | .bool b=>eqV (.bl b) x
 | .int i _=>eqV (.int i) x
 | .str z _=>eqV (.str z) x
 | _=>false
theorem E1 {x y:V} {u:Value} (r:RelV y u) (f:nO y=true):eqU x u=eqV y x:=by
 cases y with
 | non=>cases r;rfl
 | bl b=>cases r;rfl
 | int i=>obtain ⟨t,rfl⟩:=r;rfl
 | str z=>obtain ⟨t,rfl⟩:=r;rfl
 | _=>exact absurd (show false=true from f) Bool.false_ne_true
theorem mV {x:V}:∀ {xs:List V} {us:List Value},Vals xs us->xs.all nO=true->us.any (eqU x)=xs.any fun y=>eqV y x
 | _,_,.nil,_=>rfl
 | y::xs,u::us,.cons r t,f=>by
  rw [List.all_cons,Bool.and_eq_true] at f
  rw [List.any_cons,List.any_cons,E1 r f.1,mV t f.2]
theorem jf {A:Around} {s:Shared} {x:V} {v:Value} (rx:RelV x v) (fx:nO x=true):∀ {xs:List V} {us:List Value},Vals xs us->xs.all nO=true->∀ u∈us,SeqAt.EqAt A s u v (eqU x u)
 | _,_,.nil,_=>fun u hu=>by cases hu
 | y::xs,u::us,.cons r t,f=>fun u' hu=>by
  rw [List.all_cons,Bool.and_eq_true] at f
  rcases List.mem_cons.mp hu with rfl | hu
  ·rw [E1 r f.1];exact JR r rx f.1 fx
  ·exact jf rx fx t f.2 u' hu
noncomputable def inV (x:V) (xs:List V):Bool:=xs.any fun y=>eqV y x
noncomputable def rIn (K:PySem.W.Frag) (neg:Bool):R2:=fun x y H Q=>∃ p xs,y=.ref p/\(SqL K H p xs\/SqT K H p xs)/\nO x=true/\xs.all nO=true/\Q (.bl (if neg then !inV x xs else inV x xs)) H
theorem Ar:OpR X (compareOp .In) (rIn X.K false):=by
 intro pins s σ H x y v u Q I rx ry h
 obtain ⟨p,xs,rfl,hq,fx,fs,q⟩:=h
 cases ry
 rcases hq with hq | hq
 ·obtain ⟨its,r,pl,hz⟩:=I.list hq
  refine SeqAt.in_listAt (eqU x) pl.isList (fun w hw=>jf rx fx r fs w (by simpa using hw)) ⟨.bl _,H,I,rfl,?_⟩
  rw [show its.toArray.any (eqU x)=its.any (eqU x) by simp,mV r fs]
  exact q
 ·obtain ⟨its,r,pl,hz⟩:=I.tuple hq
  refine SeqAt.in_tupleAt (eqU x) pl (fun w hw=>jf rx fx r fs w (by simpa using hw)) ⟨.bl _,H,I,rfl,?_⟩
  rw [show its.toArray.any (eqU x)=its.any (eqU x) by simp,mV r fs]
  exact q
theorem qT:OpR X (compareOp .NotIn) (rIn X.K true):=by
 intro pins s σ H x y v u Q I rx ry h
 obtain ⟨p,xs,rfl,hq,fx,fs,q⟩:=h
 cases ry
 rcases hq with hq | hq
 ·obtain ⟨its,r,pl,hz⟩:=I.list hq
  refine SeqAt.notIn_listAt (eqU x) pl.isList (fun w hw=>jf rx fx r fs w (by simpa using hw)) ⟨.bl _,H,I,rfl,?_⟩
  rw [show its.toArray.any (eqU x)=its.any (eqU x) by simp,mV r fs]
  exact q
 ·obtain ⟨its,r,pl,hz⟩:=I.tuple hq
  refine SeqAt.notIn_tupleAt (eqU x) pl (fun w hw=>jf rx fx r fs w (by simpa using hw)) ⟨.bl _,H,I,rfl,?_⟩
  rw [show its.toArray.any (eqU x)=its.any (eqU x) by simp,mV r fs]
  exact q
theorem qS:OpR X (compareOp .NotIn) (fun x y H Q=>∃ i j,x=.str i/\y=.str j/\Q (.bl (!(!(Builtin.Str.occurrences j i 0 j.length 1).isEmpty))) H):=by
 intro pins s σ H x y v u Q I rx ry h
 obtain ⟨i,j,rfl,rfl,q⟩:=h
 obtain ⟨t,rfl⟩:=rx
 obtain ⟨t',rfl⟩:=ry
 exact notIn_str ⟨.bl _,H,I,rfl,q⟩
theorem kn:gJ X (.builtin "len") (fun xs H Q=>∃ p ys,xs=[.ref p]/\(SqL X.K H p ys\/SqT X.K H p ys)/\Q (.int ys.length) H):=by
 intro pins s σ H xs us Q I r h
 obtain ⟨p,ys,rfl,hq,q⟩:=h
 obtain ⟨u,rfl,rx⟩:=vals1 r
 cases rx
 have hn:=rK
 rcases hq with hq | hq
 ·obtain ⟨its,r',pl,hz⟩:=I.list hq
  have hlen:=r'.length
  exact Calls.call_len_list pl.isList (by simp only [List.size_toArray]<;>omega) ⟨.int ys.length,H,I.tok _,⟨s.toks+1,by rw [List.size_toArray,hlen]⟩,q⟩
 ·obtain ⟨its,r',pl,hz⟩:=I.tuple hq
  have hlen:=r'.length
  exact len_tuple pl (by simp only [List.size_toArray]<;>omega) ⟨.int ys.length,H,I.tok _,⟨s.toks+1,by rw [List.size_toArray,hlen]⟩,q⟩
theorem rX:gJ X (.builtin "len") (fun xs H Q=>∃ z,xs=[.str z]/\z.length<=sizeLine/\Q (.int z.length) H):=by
 intro pins s σ H xs us Q I r h
 obtain ⟨z,rfl,hz,q⟩:=h
 obtain ⟨u,rfl,t,rfl⟩:=vals1 r
 have hn:=rK
 exact len_str (by omega) ⟨.int z.length,H,I.tok _,⟨_,rfl⟩,q⟩
def tyV (K:PySem.W.Frag) (T:String) (x:V) (H:Hp):Prop:=match x with
 | .str _=>T="str"
 | .int _=>T="int"
 | .ref p=>(T="list"/\∃ xs,SqL K H p xs)\/(T="tuple"/\∃ o,K.lookup p=some o/\o.cls=.type "tuple"/\o.dict=none) \/
   (T="dict"/\((∃ kvs,H p=some (.dK kvs))\/∃ kvs,H p=some (.dT kvs)))\/(T="set"/\∃ S n,H p=some (.set S n))
 | _=>False
theorem DY {pins:List (Addr×Obj)} {σ:St} {H:Hp} {s:Shared} {T:String} {x:V} {v:Value} (I:Inv X pins σ H s) (r:RelV x v) (ty:tyV X.K T x H) :
  s.TypeIs v T/\∀ a,v=.ref a->∃ ob,s.heap.get? a=some ob/\ob.dict=none:=by
 cases x with
 | str z =>
  obtain ⟨t,rfl⟩:=r
  cases (show T="str" from ty)
  exact ⟨typeIs_str s z t,fun _ e=>nomatch e⟩
 | int i =>
  obtain ⟨t,rfl⟩:=r
  cases (show T="int" from ty)
  exact ⟨typeIs_int s i t,fun _ e=>nomatch e⟩
 | ref p =>
  cases r
  rcases ty with ⟨rfl,xs,hq⟩ | ⟨rfl,o,hk,hc,hd⟩ | ⟨rfl,hk⟩ | ⟨rfl,S,n,hk⟩
  ·obtain ⟨its,_,pl,_⟩:=I.list hq
   refine ⟨pl.isList.typeIs,fun a e => ?_⟩
   cases e
   obtain ⟨o,n,e,c,hd,_⟩:=pl
   exact ⟨o,e,hd⟩
  ·refine ⟨⟨o,I.kIn p o hk,hc⟩,fun a e => ?_⟩
   cases e
   exact ⟨o,I.kIn _ o hk,hd⟩
  ·have z:∃ o,s.heap.get? p=some o/\o.ExactDict:=by
    rcases hk with ⟨kvs,hk⟩ | ⟨kvs,hk⟩
    ·obtain ⟨_,_,_,_,o,_,_,e,ex,_⟩:=I.hok p _ hk
     exact ⟨o,e,ex⟩
    ·obtain ⟨_,_,_,_,o,_,_,e,ex,_⟩:=I.hok p _ hk
     exact ⟨o,e,ex⟩
   obtain ⟨o,e,ex⟩:=z
   refine ⟨⟨o,e,ex.1⟩,fun a e2 => ?_⟩
   cases e2
   exact ⟨o,e,ex.2.1⟩
  ·obtain ⟨o,_,_,_,e,ex,_⟩:=I.hok p _ hk
   refine ⟨⟨o,e,ex.1⟩,fun a e2 => ?_⟩
   cases e2
   exact ⟨o,e,ex.2.1⟩
 | _=>exact False.elim ty
noncomputable def Qw (K:PySem.W.Frag) (T:String) (r:V->List V->Hp->VK->Prop) (to:TE):TE:=fun σ H Q=>to σ H fun x H1=>tyV K T x H1/\r x [] H1 Q
noncomputable def tBM (K:PySem.W.Frag) (T:String) (r:V->List V->Hp->VK->Prop) (to:TE) (t:TA):TE:=fun σ H Q=>to σ H fun x H1=>tyV K T x H1/\t σ H1 fun xs H2=>r x xs H2 Q
variable {o e:Expr} {es:List Expr} {to:TE} {t:TA} {name:Str} {apos cpos:Pos} {T id:String} {r:V->List V->Hp->VK->Prop}
theorem Jc (pa:PlainAttrs T) (slot:Slot T name id) (hty:typeOf (.builtin id)=pure (.type "method_descriptor")) (hm:MtR X id r) (ho:PE X o to)
  (hbase:attributeBase o name X.env (eval o X.env)=eval o X.env:=by rfl) (hline:(apos.endLine == cpos.line)=true:=by rfl):PE X (.Call (.Attribute o name apos) [] [] cpos) (Qw X.K T r to):=by
 intro pins s σ H Q I h
 refine wpAny_Call_method0_late hbase hline (thn (ho pins s σ H _ I h) fun v s1 ⟨x,H1,I1,r1,ty,q1⟩ => ?_)
 obtain ⟨h1,h2⟩:=DY I1 r1 ty
 exact ⟨T,id,pa,slot,hty,h1,h2,Calls.callWith_builtin rfl (PySem.evalArgs_none (hm pins s1 σ H1 x [] v [] Q I1 r1 .nil q1))⟩
theorem K7 (pa:PlainAttrs T) (slot:Slot T name id) (hty:typeOf (.builtin id)=pure (.type "method_descriptor")) (hm:MtR X id r) (ho:PE X o to) (ha:PA X (e::es) t)
  (hbase:attributeBase o name X.env (eval o X.env)=eval o X.env:=by rfl)
  (hfew:((backTo cpos (starEach (e::es) X.env)).all (fun x => !x.1)&&(backToKw cpos (keywordEach [] X.env)).all (fun x=>x.1.isSome)
   && decide ((e::es).length+([]:List Keyword).length+(if ([]:List Keyword).isEmpty then 0 else 1)<30))=true:=by rfl)
  (hline:(apos.endLine == cpos.line)=true:=by rfl) (hs:starEach (e::es) X.env=(false,eval e X.env)::starEach es X.env:=by rfl) (hplain:(backTo cpos (starEach es X.env)).any (·.1)=false:=by rfl) :
  PE X (.Call (.Attribute o name apos) (e::es) [] cpos) (tBM X.K T r to t):=by
 intro pins s σ H Q I h
 refine wpAny_Call_method_late hbase hfew hline rfl (thn (ho pins s σ H _ I h) fun v s1 ⟨x,H1,I1,r1,ty,q1⟩ => ?_)
 obtain ⟨h1,h2⟩:=DY I1 r1 ty
 refine ⟨T,id,pa,slot,hty,h1,h2,?_⟩
 have hA:=ha cpos pins s1 σ H1 _ I1 q1
 rw [hs] at hA ⊢
 refine Calls.callWith_builtin (by show (false||(backTo cpos (starEach es X.env)).any (·.1))=false;rw [hplain]<;>rfl) (Calls.evalArgs_plain ?_)
 exact thn hA fun us s2 ⟨vs,H2,I2,r2,q2⟩=>hm pins s2 σ H2 x vs v us Q I2 r1 r2 q2
/- xs.append(e),list.index on a module's tuple .. are MtR facts of 06m -/
end
end L2
namespace L2
open PySem PySem.Spec PyProof.Rows
def MtM (X:Cx) (id:String) (r:V->List V->Hp->VK->Prop):Prop :=
 ∀ (pins:List (Addr×Obj)) (s:Shared) (σ:St) (H:Hp) (x:V) (xs:List V) (v:Value) (us:List Value) (Q:VK),Inv X pins σ H s->RelV x v->Vals xs us->r x xs H Q ->
  wpAny (model X.prog X.w) X.A (call (.builtin id) (v::us)) (EP X pins σ Q) X.xe s
theorem Vals.one:∀ {x:V} {us:List Value},Vals [x] us->∃ u,us=[u]/\RelV x u
 | _,_,.cons r .nil=>⟨_,rfl,r⟩
section
variable {X:Cx} {pins:List (Addr×Obj)} {σ:St} {H:Hp} {s:Shared} {l b:Addr} {xs ys zs:List V}
theorem Inv.lset {its its':List Value} {n:Nat} {f:Array Value->Array Value} {t':Nat} (I:Inv X pins σ H s) (hH:H l=some (.lst xs))
  (e:s.heap.get? l=some { cls:=.type "list",data:=.seq its.toArray n }) (hf:f its.toArray=its'.toArray) (hv:Vals ys its') (hz:ys.length<=sizeLine) :
  Inv X pins σ (upd H l (.lst ys)) { s with heap:=s.heap.update l (Obj.mapSeq f),toks:=t' }:=by
 have q:=PySem.IsL.update e f
 rw [hf] at q
 refine I.write (x:=l) (e:=l) (by rw [hH];exact trivial) (.inl rfl) (fun b' u hb hu=>(Heap.get?_update_other s.heap (Obj.mapSeq f) (Ne.symm hb)).trans hu) ⟨_,q⟩ ?_
 exact ⟨hz,its',_,hv,q⟩
theorem Inv.lnew {its:List Value} {t':Nat} (I:Inv X pins σ H s) (hv:Vals ys its) (hz:ys.length<=sizeLine) :
  Inv X pins σ (upd H s.heap.objs.size (.lst ys)) { s with heap:=s.heap.push { cls:=.type "list",data:=.seq its.toArray },toks:=t' } :=
 I.laid (fun _ _ q=>Heap.get?_push_of_some _ q) (Nat.le_refl _) ⟨hz,its,0,hv,Heap.get?_push_size _ rfl⟩
theorem Inv.fresh (I:Inv X pins σ H s):H s.heap.objs.size=none:=I.hok.fresh (Nat.le_refl _)
theorem Inv.lstM (I:Inv X pins σ H s) (hH:H l=some (.lst xs)):xs.length<=sizeLine/\∃ (its:List Value) (n:Nat),Vals xs its/\xs.length=its.length/\s.heap.get? l=some { cls:=.type "list",data:=.seq its.toArray n }:=by
 obtain ⟨z,its,n,r,e⟩:=I.hok l _ hH
 exact ⟨z,its,n,r,r.length,e⟩
end
section
variable {X:Cx}
noncomputable def FZ:V->List V->Hp->VK->Prop:=fun x vs H Q=>∃ l xs y,x=.ref l/\vs=[y]/\H l=some (.lst xs)/\xs.length<sizeLine/\Q .non (upd H l (.lst (xs++[y])))
theorem AN:MtM X "list.append" FZ:=by
 intro pins s σ H x vs v us Q I rx rv h
 obtain ⟨l,xs,y,rfl,rfl,hH,hz,q⟩:=h
 cases rx
 obtain ⟨u,rfl,ru⟩:=rv.one
 obtain ⟨z,its,n,r,hl,e⟩:=I.lstM hH
 refine call_meets F.slot_list_append ⟨_,e,rfl⟩ F.entry_list_append (F.args_list_append_2 _ _) (PySem.list_append l its.toArray n u (by rw [List.size_toArray];omega)) ⟨e,?_⟩
 refine ⟨.non,_,I.lset (its':=its++[u]) hH e (by simp) (r.append (.cons ru .nil)) ?_,rfl,q⟩
 rw [List.length_append,List.length_singleton]
 omega
end
section
variable {prog:Program} {w:World} {A:Around} {E:Value->Shared->Prop} {s:Shared}
end
section
variable {X:Cx}
end
end L2
namespace Att
open PySem PySem.W PySem.Calls PyProof.Rows
theorem mH {P:Params} {h:Heap}:∀ (ns:List Int) (vs:List Value),WellAll P h vs (ns.map WData.int)->IntsAre vs ns:=by
 intro ns
 induction ns with
 | nil =>
  intro vs w
  rw [List.map_nil] at w
  cases w
  exact .nil
 | cons n ns ih =>
  intro vs w
  rw [List.map_cons] at w
  cases w with
  | cons a b =>
   cases a
   exact .cons _ _ (ih _ b)
theorem zS {l:OpenLaw} {n:Nat} (hn:l.most=some n) {P:Params} {h:Heap} {args:List WData} {vals:List Value}
  (hpre:l.row.toRowW.claim.pre args=true) (hwl:WellAll P h vals args) :
  ∃ a vs ns,vals=[Value.ref a]/\args=[WData.list (ns.map WData.int)]/\h.get? a=some { cls:=.type "list",data:=.seq vs.toArray }/\IntsAre vs ns/\ns.length<=n:=by
 have hsh:WShape.hasAll [] args [.list .int]=true:=(pre_splitW hpre).1
 have hc:l.pre.holds [] { args:=args }=true:=(pre_splitW hpre).2
 obtain ⟨d,r,rfl,h1,h2⟩:=hasAllW_cons hsh
 obtain rfl:=hasAllW_nil h2
 obtain ⟨xs,rfl,h3⟩:=hasW_list h1
 obtain ⟨ns,rfl⟩:=items_int h3
 have hlen:ns.length<=n:=by
  unfold OpenLaw.pre at hc
  have h4:(WTm.not (.lt (.lit (.int (n:Int))) (.len (.arg 0)))).holds [] { args:=[.list (ns.map .int)] }=true:=by
   have h4:=(holds_andW hc).1
   rw [hn] at h4
   exact h4
  have h5:=condW_of h4 (w_not (w_lt w_lit (w_len_list (w_arg rfl))))
  rw [List.length_map] at h5
  refine Nat.le_of_not_lt fun q => ?_
  have q':(n:Int)<((ns.length:Nat):Int):=by omega
  first
   | (rw [decide_eq_true q'] at h5;exact absurd h5 (by decide))
   | (simp at h5;omega)
 cases hwl with
 | cons w1 w2 =>
  cases w2
  cases w1 with
  | list ho hall=>exact ⟨_,_,ns,rfl,rfl,ho,mH ns _ hall,hlen⟩
theorem Ah (l:OpenLaw) (args:List WData):l.row.toRowW.claim.post args (.bool true) args=true :=
 postW_of (r:=l.row.toRowW) (X:=(true == true))
  (show WShape.has [] (.bool true) .bool=true by first | rfl | decide | simp [WShape.has,WShape.arms,WShape.armsAll])
  (show (WTm.eq .res (.lit (.bool true))).value [] { args:=args,res:=some (.bool true),after:=args }=some (.bool (true == true)) from w_eq_bool (w_res rfl) w_lit) rfl
section
variable {prog:Program} {w:World} {A:Around} {E:Value->Shared->Prop} {s:Shared} {K:Frag}
noncomputable def ledger (h:Heap) (L d:Addr):List (Addr×Obj):=(List.range h.objs.size).filterMap fun a=>if a=L\/a=d then none else (h.get? a).map fun o=>(a,o)
end
end Att
namespace L2
open PySem PySem.Spec PyProof.Rows
theorem qA:∀ {vs:List Value} {ns:List Int},IntsAre vs ns->Vals (ns.map V.int) vs
 | _,_,.nil=>.nil
 | _,_,.cons n t h=>.cons ⟨t,rfl⟩ (qA h)
def P6 (H:Hp):Prop:=∀ b,H b=none\/∃ o xs,H b=some (.frz o (.lst xs))
theorem CU {P:Program} {w:World} {K:PySem.W.Frag} {mg mb:Str->Option Value} {CX:CXT} {k:Nat} {fa a:Addr} {fd:FuncData} {x:Str} {sp:Sp} {s₁:Shared} {vs:List Value} {ns:List Int}
  (KX:K.In s₁.heap) (hns:s₁.heap.Ns mainGlobals mg) (hb:s₁.heap.Ns builtinsNs mb) (hbb:∀ x:Str,x≠"__name__"->mb x=bootBuiltins x) (hlim:s₁.heap.NoLimit) (hg:s₁.gens = #[])
  (ha:s₁.heap.get? a=some { cls:=.type "list",data:=.seq vs.toArray }) (hi:IntsAre vs ns) (hl:ns.length<=sizeLine) (hr:Room k callerA)
  (F:∀ base:Heap,K.In base->base.Ns mainGlobals mg->FnOk P w K mg base CX k fa fd [x] sp) (hbind:∀ (s:Shared) (u:Value),BindsTo s fd ⟨[u],[]⟩ [(x,u)])
  (hsp:∀ H:Hp,P6 H->SqL K H a (ns.map V.int)->sp [.ref a] H (fun v _=>v=.bl true) fun _ _ _=>False)
  (hCX:∀ H e s',CX [] H s₁ (fun _ _ _=>False) e s'->False) :
  codeAny (model P w) callerA (.call (.ref fa) ⟨[.ref a],[]⟩) (fun r s'=>r=.ok (.ret (.bool true))/\OldK s₁.heap s'.heap/\s'.os=s₁.os/\AllBare s'.gens) s₁:=by
 have rv:=qA hi
 have lenV:=hi.length
 have core:∀ H:Hp,P6 H->SqL K H a (ns.map V.int)->HOk P w H s₁.heap->(∀ b,H b≠none->b=a)->(H a≠none->K.lookup a=none) ->
   codeAny (model P w) callerA (.call (.ref fa) ⟨[.ref a],[]⟩) (fun r s'=>r=.ok (.ret (.bool true))/\OldK s₁.heap s'.heap/\s'.os=s₁.os/\AllBare s'.gens) s₁:=by
  intro H hO hS hok hA hK
  have base_of:∀ {b:Addr} {o:Obj},s₁.heap.get? b=some o->H b=none->(CW s₁.heap H).get? b=some o:=fun e n=>CV e n
  have noA:∀ {b:Addr} {o:Obj} {es:Array DictEntry} {ep:Nat},s₁.heap.get? b=some o->o.data=.dict es ep->H b=none:=fun {b o es ep} e d=>by
   cases q:H b with
   | none=>rfl
   | some u =>
    have e':b=a:=hA b (by rw [q];simp)
    subst e'
    rw [ha] at e;cases e
    have d':Data.seq vs.toArray _=Data.dict es ep:=d
    cases d'
  have nsK:∀ {b:Addr} {m:Str->Option Value},s₁.heap.Ns b m->(CW s₁.heap H).Ns b m:=fun {b m} ⟨o,es,ep,e,d,r⟩=>⟨o,es,ep,base_of e (noA e d),d,r⟩
  have hKb:K.In (CW s₁.heap H):=fun b o e=>base_of (KX b o e) (by
   cases q:H b with
   | none=>rfl
   | some u =>
    have e':b=a:=hA b (by rw [q];simp)
    subst e'
    rw [hK (by rw [q];simp)] at e;cases e)
  have hM:Mod K mg (CW s₁.heap H):=⟨hKb,nsK hns,⟨mb,nsK hb,hbb⟩,let ⟨mc,h1,h2⟩:=hlim;⟨mc,nsK h1,h2⟩⟩
  have e0:Env0 P w K mg (CW s₁.heap H) callerA [] s₁ H:=⟨rfl,hM,fun b o e=>Gw e,Nat.le_of_eq (Ba _ _),trivial,fun b hb=>absurd (show b∈([]:List Addr) from hb) (by simp),hok,.of_eq hg⟩
  refine codeAny_mono ((F _ hKb (nsK hns)).run callerA [] s₁ H ⟨[.ref a],[]⟩ [.ref a] [.ref a] _ _ hr e0 (hbind s₁ (.ref a)) (.cons rfl .nil) (hsp H hO hS)) fun r s' h => ?_
  cases r with
  | error e=>exact (hCX H e s' h).elim
  | ok fl =>
   cases fl with
   | next=>exact False.elim h
   | brk=>exact False.elim h
   | cont=>exact False.elim h
   | ret u =>
    obtain ⟨v,H',os,bare,un,hok',r',q⟩:=h
    have q':v=.bl true:=q
    subst q'
    obtain rfl:u=Value.bool true:=r'
    refine ⟨rfl,OldK.of_keep fun b o e => ?_,os,bare⟩
    cases q:H b with
    | none=>exact un.keep b o e q (by intro z;exact absurd (show b∈([]:List Addr) from z) (by simp)) (by simp)
    | some u =>
     rcases hO b with z | ⟨ob,xs,z⟩
     ·rw [q] at z;cases z
     ·have z2:=un.frzs b ob _ z
      obtain ⟨e1,_⟩:=hok b _ z
      obtain ⟨e2,_⟩:=hok' b _ z2
      rw [e] at e1;cases e1
      exact e2
 cases hk:K.lookup a with
 | some o =>
  have e:=KX a o hk
  rw [ha] at e
  cases e
  refine core (fun _=>none) (fun _=>.inl rfl) (.inr ⟨_,vs.toArray,_,hk,rfl,rfl,rfl,by rw [List.size_toArray,lenV];exact hl,by simpa using rv⟩) (fun b u z=>by have z':(none:Option HO)=some u:=z;cases z') (fun b z=>absurd rfl z) fun z=>absurd rfl z
 | none =>
  refine core (fun b=>if b=a then some (.frz { cls:=.type "list",data:=.seq vs.toArray } (.lst (ns.map V.int))) else none) (fun b => ?_) (.inl (.inr ⟨{ cls:=.type "list",data:=.seq vs.toArray },if_pos rfl⟩)) (fun b u z => ?_) (fun b z => ?_) fun _=>hk
  ·by_cases hb:b=a
   ·exact .inr ⟨_,_,if_pos hb⟩
   ·exact .inl (if_neg hb)
  ·by_cases hb:b=a
   ·have z':=(if_pos hb).symm.trans z
    cases z'
    subst hb
    exact ⟨ha,by rw [List.length_map];exact hl,vs,_,rv,ha⟩
   ·have z':=(if_neg hb).symm.trans z
    cases z'
  ·by_cases hb:b=a
   ·exact hb
   ·exact absurd (if_neg hb) z
end L2
namespace L2
open PySem PySem.Spec PyProof.Rows
noncomputable abbrev KOf {K:PySem.W.Frag} {h:Heap} (_:K.In h):PySem.W.Frag:=K
end L2
/- THE LAST THEOREM (shape;LID,My.* are yours):
   My.Adr: a structure of the addresses that your layer names (classes,functions);My.Txt K t: a structure (Prop) of the equations over K;
   My.txt_mk:{K} {implicit addresses ..} (e1:nsIn K mainGlobals "law"=some (some (.ref f))) (e2:K.lookup f=some ⟨oc,od,.func (fnOf "law" "law" params body scope dV kV doc pm an cdv ct),sl⟩) (e3:codeIn K cdv "law"=true) .. : ∃ t,My.Txt K t
set_option maxHeartbeats 0 in
theorem PySem.Challenge.cw_LID_holds : PySem.Challenge.rw_LID.Holds := by
 w_on;o_law;k_head;(case hw=>w_witness2)
 k_fill
 refine L2.walk_of (l:=PySem.Challenge.rw_LID) (n:=63) (k:=40) (x:="script") (CX:=fun w=>..) (sp:=fun _=>My.sp_law) rfl (by decide) rfl ⟨rfl,by decide,by decide⟩ (fun w h Y=>PySem.W.kIn_of Y) ?F ?S ?C
 case F =>
  intro w mg fa h KX G hmg
  have T:∃ t,My.Txt (L2.KOf KX) t:=by
   dsimp only [L2.KOf]                          -- K must Ii as «<heap const> w.params» for k_is
   refine' My.txt_mk ?e1 ?e2 ?e3 ..
   (case e1=>PySem.W.k_is)                    -- in the order: a name->its address->its object->its parts
   (case e2=>PySem.W.k_is)
   ..
  obtain ⟨t,T⟩:=T
  have e0:=hmg.symm.trans (PySem.W.mg_of KX G T.law)
  cases e0                                       -- fa is the law's own address
  exact ⟨_,fun s u=>.of_eq rfl,fun base kb nb=>My.law_fn T kb nb⟩     -- if «.of_eq rfl» comes too early: refine' ⟨_,?b,fun base kb nb=>My.law_fn T kb nb⟩;exact fun s u=>.of_eq rfl
 case S=>exact fun w H a ns hl hO hS=>..
 case C=>exact ..
(the tactic k_is has no namespace: write k_is) -/
namespace L2
open PySem PySem.Spec PyProof.Rows
noncomputable def aL (s:Stmt):Arguments:=match s with
 | .FunctionDef _ a _ _ _ _ _ _ _ _=>a
 | _=>{ posonlyargs:=[],args:=[],vararg:=none,kwonlyargs:=[],kw_defaults:=[],kwarg:=none,defaults:=[] }
noncomputable def ag (s:Stmt):List Stmt:=match s with
 | .FunctionDef _ _ b _ _ _ _ _ _ _=>b
 | _=>[]
noncomputable def aa (s:Stmt):Scope:=match s with
 | .FunctionDef _ _ _ _ _ _ sc _ _ _=>sc
 | _=>{ kind:=.function,names:=[],isGenerator:=false,isCoroutine:=false }
noncomputable abbrev CX0:CXT:=fun _ _ _ _ _ _=>False
noncomputable abbrev E0:XK:=fun _ _ _=>False
theorem K9 {X:Cx}:Passes CX0 X E0:=fun _ _ _ _ _ _ _ h=>h.elim
structure Fun (K:PySem.W.Frag) (x qual:Str) (st:Stmt) (f:Addr) (fd:FuncData):Prop where
 ex:∃ (oc:Value) (od:Option Addr) (kV doc pm:Value) (an:Option Addr) (cdv ct:Value) (osl:Array (Option Value)),
  fd=PySem.W.fnOf x qual (aL st) (ag st) (aa st) .none kV doc pm an cdv ct/\K.lookup f=some ⟨oc,od,.func fd,osl⟩/\PySem.W.codeIn K cdv qual=true
 kp:PySem.W.keepIn K (.ref f)=true
section
variable {P:Program} {w:World} {K:PySem.W.Frag} {mg:Str->Option Value} {base:Heap}
theorem Fun.ok {x qual:Str} {st:Stmt} {f:Addr} {fd:FuncData} {N ps:List Str} {k:Nat} {sp:Sp} (F:Fun K x qual st f fd) (S:FnScope N ps (aa st)) (len:∀ vs H Q E,sp vs H Q E->vs.length=ps.length)
  (hbody:∀ (cdv:Value) (A:Around) (outer:List Env) (s:Shared) (H:Hp) (vs:List V) (Q:VK) (E:XK),Room k (A.deeper (envOfC qual (aa st) s.heap.objs.size f cdv))->sp vs H Q E ->
   ∃ t,PSs (B4 CX0 P w K mg base N qual (aa st) f cdv A outer s H E).nox (ag st) t/\t { nx:=fun _ H'=>Q .non H',rt:=Q } (start N vs) H):FnOk P w K mg base CX0 (k+1) f fd ps sp:=by
 obtain ⟨oc,od,kV,doc,pm,an,cdv,ct,osl,rfl,lk,hcd⟩:=F.ex
 refine JM lk hcd S len fun A outer s H vs Q E hr hsp => ?_
 obtain ⟨t,h,q⟩:=hbody cdv A outer s H vs Q E hr hsp
 exact ⟨t,h.nox,q⟩
theorem Fun.binds {x qual:Str} {st:Stmt} {f:Addr} {fd:FuncData} {ps:List Str} (F:Fun K x qual st f fd)
  (h:∀ (kV doc pm:Value) (an:Option Addr) (cdv ct:Value) (us:List Value),us.length=ps.length->bindArgs (PySem.W.fnOf x qual (aL st) (ag st) (aa st) .none kV doc pm an cdv ct) ⟨us,[]⟩=pure (ps.zip us)):Binds K fd ps []:=by
 obtain ⟨oc,od,kV,doc,pm,an,cdv,ct,osl,rfl,lk,hcd⟩:=F.ex
 exact .all (h kV doc pm an cdv ct)
theorem kh {x qual:Str} {st:Stmt} {f:Addr} {oc:Value} {od an:Option Addr} {osl:Array (Option Value)} {kV doc pm cdv ct:Value} (l:K.lookup f=some ⟨oc,od,.func (PySem.W.fnOf x qual (aL st) (ag st) (aa st) .none kV doc pm an cdv ct),osl⟩)
  (c:PySem.W.codeIn K cdv qual=true) (k:PySem.W.keepIn K (.ref f)=true):Fun K x qual st f (PySem.W.fnOf x qual (aL st) (ag st) (aa st) .none kV doc pm an cdv ct):=⟨⟨oc,od,kV,doc,pm,an,cdv,ct,osl,rfl,l,c⟩,k⟩
end
theorem lT {n:Nat} (h:n<=1000):n<sizeLine:=Nat.lt_of_le_of_lt h (by decide)
section
variable {X:Cx}
end
theorem Hx {A B:Prop} (h:B):if false=true then A else B:=by
 rw [if_neg Bool.false_ne_true]
 exact h
theorem Hw {A B:Prop} (h:A):if true=true then A else B:=by
 rw [if_pos rfl]
 exact h
def aw (H H':Hp):Prop:=∀ b o,H b=some o->H' b=some o
theorem aw.refl (H:Hp):aw H H:=fun _ _ h=>h
theorem aw.trans {H H1 H2:Hp} (a:aw H H1) (b:aw H1 H2):aw H H2:=fun c o h=>b c o (a c o h)
theorem aw.seq {K:PySem.W.Frag} {H H':Hp} {a:Addr} {xs:List V} (e:aw H H') (h:SqL K H a xs):SqL K H' a xs:=by
 rcases h with (h | ⟨o,h⟩) | h
 ·exact .inl (.inl (e _ _ h))
 ·exact .inl (.inr ⟨o,e _ _ h⟩)
 ·exact .inr h
end L2
namespace EV
open PySem (Str)
inductive D where
 | non | bl (b:Bool) | int (i:Int) | str (x:Str) | tup (ds:List D) | lst (ds:List D) | own (ds:List D)
 | ty (n:String) | cls (n:String) | exc (n:String) | ins (n:String) (fs:List (String×D))
noncomputable instance:Inhabited D:=⟨.non⟩
inductive R (α:Type) where
 | ok (a:α) | ex (C:String) | bad
namespace R
noncomputable def bind {α β:Type}:R α->(α->R β)->R β
 | .ok a,f=>f a
 | .ex C,_=>.ex C
 | .bad,_=>.bad
end R
noncomputable abbrev Dt:=List (Option D)
noncomputable abbrev E:=Dt->R D
inductive O where
 | nx (δ:Dt) | rt (d:D) | bk (δ:Dt) | ct (δ:Dt) | ex (C:String) (δ:Dt) | mk (C:String) (δ:Dt) | bad
noncomputable abbrev S:=Dt->O
noncomputable def pw (k:Int):Int:=2^k.toNat
noncomputable def nb (i:Int):Nat:=if i=0 then 0 else i.natAbs.log2+1
def MulOk (i j:Int):Prop:=nb i+nb j<=134217728
def ie (i j:Int):Prop:=0<j/\(nb j<=9000\/nb i<=nb j+4000)
noncomputable instance {i j:Int}:Decidable (MulOk i j):=inferInstanceAs (Decidable (_<=_))
noncomputable instance {i j:Int}:Decidable (ie i j):=inferInstanceAs (Decidable (_/\_))
noncomputable def aX:D->D->R D
 | .int i,.int j=>.ok (.int (i+j))
 | .str x,.str y=>if x.cps.size+y.cps.size<=1000000 then .ok (.str ⟨x.cps++y.cps⟩) else .bad
 | .lst xs,.lst ys=>if xs.length+ys.length<=100000 then .ok (.lst (xs++ys)) else .bad
 | .tup xs,.tup ys=>if xs≠[]/\xs.length+ys.length<=100000 then .ok (.tup (xs++ys)) else .bad
 | _,_=>.bad
noncomputable def cM:D->D->R D
 | .int i,.int j=>.ok (.int (i - j))
 | _,_=>.bad
noncomputable def dY:D->D->R D
 | .int i,.int j=>if MulOk i j then .ok (.int (i*j)) else .bad
 | _,_=>.bad
noncomputable def oDiv:D->D->R D
 | .int i,.int j=>if ie i j then .ok (.int (i / j)) else .bad
 | _,_=>.bad
noncomputable def oMod:D->D->R D
 | .int i,.int j=>if 0<j then .ok (.int (i%j)) else .bad
 | _,_=>.bad
noncomputable def cO:D->D->R D
 | .int i,.int j=>if 0<=j/\(nb i:Int)+j<=134217728 then .ok (.int (i*pw j)) else .bad
 | _,_=>.bad
noncomputable def EB:D->D->R D
 | .int i,.int j=>if 0<=j then .ok (.int (i / pw j)) else .bad
 | _,_=>.bad
noncomputable def mh:D->D->R D
 | .int i,.int j=>if 0<=i/\0<=j then .ok (.int ((i.toNat &&& j.toNat:Nat):Int)) else .bad
 | _,_=>.bad
noncomputable def lA:D->R D
 | .int i=>.ok (.int (-i))
 | _=>.bad
noncomputable def oLt:D->D->R D
 | .int i,.int j=>.ok (.bl (decide (i<j)))
 | _,_=>.bad
noncomputable def oLe:D->D->R D
 | .int i,.int j=>.ok (.bl (decide (i<=j)))
 | _,_=>.bad
noncomputable def oGt:D->D->R D
 | .int i,.int j=>.ok (.bl (decide (j<i)))
 | _,_=>.bad
noncomputable def oGe:D->D->R D
 | .int i,.int j=>.ok (.bl (decide (j<=i)))
 | _,_=>.bad
mutual
noncomputable def D.beq:D->D->Bool
 | .non,.non=>true
 | .bl a,.bl b=>a == b
 | .bl a,.int b=>(if a then 1 else 0) == b
 | .int a,.bl b=>a == (if b then 1 else 0)
 | .int a,.int b=>a == b
 | .str a,.str b=>a == b
 | .tup a,.tup b=>D.beqs a b
 | .lst a,.lst b=>D.beqs a b
 | _,_=>false
noncomputable def D.beqs:List D->List D->Bool
 | [],[]=>true
 | a::as,b::bs=>D.beq a b&&D.beqs as bs
 | _,_=>false
end
noncomputable def D.sc:D->Bool
 | .non=>true | .bl _=>true | .int _=>true | .str _=>true
 | _=>false
noncomputable def D.pl:Nat->D->Bool
 | _,.non=>true
 | _,.bl _=>true
 | _,.int _=>true
 | _,.str x=>x.cps.all (· < 0x110000)
 | n+1,.tup ds=>ds.all (D.pl n)
 | n+1,.lst ds=>ds.all (D.pl n)
 | _,_=>false
noncomputable def D.cmp (a b:D):Bool:=(a.sc&&b.sc)||(D.pl 8 a&&D.pl 8 b)
noncomputable def oEq (a b:D):R D:=if D.cmp a b then .ok (.bl (D.beq a b)) else .bad
noncomputable def oNe (a b:D):R D:=if D.cmp a b then .ok (.bl (!D.beq a b)) else .bad
noncomputable def AE:D->R D
 | .non=>.ok (.bl true)
 | _=>.ok (.bl false)
noncomputable def t9:D->R D
 | .non=>.ok (.bl false)
 | _=>.ok (.bl true)
noncomputable def isIn (x:D) (ys:List D):Option Bool:=if x.sc&&ys.all D.sc then some (ys.any fun y=>D.beq y x) else none
noncomputable def oIn (a b:D):R D:=match a,b with
 | .str x,.str y=>match x.cps.toList with | [c]=>.ok (.bl (decide (c∈y.cps.toList))) | _=>.bad
 | a,.tup ds=>match isIn a ds with | some k=>.ok (.bl k) | none=>.bad
 | a,.lst ds=>match isIn a ds with | some k=>.ok (.bl k) | none=>.bad
 | _,_=>.bad
noncomputable def eR (a b:D):R D:=(oIn a b).bind fun d=>match d with | .bl k=>.ok (.bl (!k)) | _=>.bad
noncomputable def ixN (n:Nat) (i:Int):Option Nat:=if 0<=i then (if i<n then some i.toNat else none) else if -(n:Int)<=i then some (i+n).toNat else none
noncomputable def oIx:D->D->R D
 | .tup ds,.int i=>match (ixN ds.length i).bind fun j=>ds[j]? with | some d=>.ok d | none=>.bad
 | .lst ds,.int i=>match (ixN ds.length i).bind fun j=>ds[j]? with | some d=>.ok d | none=>.bad
 | .str x,.int i=>if x.cps.size<=1000000 then (match (ixN x.cps.toList.length i).bind fun j=>x.cps.toList[j]? with | some c=>.ok (.str ⟨#[c]⟩) | none=>.bad) else .bad
 | _,_=>.bad
noncomputable def sIx (n d:Nat):Option Int->Nat
 | none=>d
 | some i=>if i<0 then (i+n).toNat else min i.toNat n
noncomputable def cut {α:Type} (xs:List α) (lo hi:Option Int):List α:=(xs.drop (sIx xs.length 0 lo)).take (sIx xs.length xs.length hi - sIx xs.length 0 lo)
noncomputable def oSl:D->Option Int->Option Int->R D
 | .tup ds,lo,hi=>if sIx ds.length 0 lo=0/\sIx ds.length ds.length hi=ds.length then .bad else .ok (.tup (cut ds lo hi))
 | .lst ds,lo,hi=>.ok (.lst (cut ds lo hi))
 | _,_,_=>.bad
noncomputable def var (i:Nat):E:=fun δ=>match δ[i]? with
 | some (some (.own _))=>.bad
 | some (some d)=>.ok d
 | _=>.bad
noncomputable def con (d:D):E:=fun _=>.ok d
noncomputable def un (f:D->R D) (a:E):E:=fun δ=>(a δ).bind f
noncomputable def bin (f:D->D->R D) (a b:E):E:=fun δ=>(a δ).bind fun x=>(b δ).bind fun y=>f x y
noncomputable def truth {β:Type} (d:D) (t f:R β):R β:=match d with
 | .bl true=>t
 | .bl false=>f
 | _=>.bad
noncomputable def bQ (a b:E):E:=fun δ=>(a δ).bind fun d=>truth d (b δ) (.ok (.bl false))
noncomputable def or_ (a b:E):E:=fun δ=>(a δ).bind fun d=>truth d (.ok (.bl true)) (b δ)
noncomputable def iA (a:E):E:=fun δ=>(a δ).bind fun d=>truth d (.ok (.bl false)) (.ok (.bl true))
noncomputable def ife (c a b:E):E:=fun δ=>(c δ).bind fun d=>truth d (a δ) (b δ)
noncomputable def chain (f g:D->D->R D) (a b c:E):E:=fun δ=>(a δ).bind fun x=>(b δ).bind fun y=>(f x y).bind fun d=>truth d ((c δ).bind fun z=>g y z) (.ok (.bl false))
noncomputable def evs:List E->Dt->R (List D)
 | [],_=>.ok []
 | e::es,δ=>(e δ).bind fun d=>(evs es δ).bind fun ds=>.ok (d::ds)
noncomputable def iP (es:List E):E:=fun δ=>(evs es δ).bind fun ds=>.ok (.tup ds)
noncomputable def AQ (es:List E):E:=fun δ=>(evs es δ).bind fun ds=>.ok (.lst ds)
noncomputable def call (f:List D->R D) (es:List E):E:=fun δ=>(evs es δ).bind f
noncomputable def part:Option E->Dt->R (Option Int)
 | none,_=>.ok none
 | some e,δ=>(e δ).bind fun d=>match d with | .int i=>.ok (some i) | _=>.bad
noncomputable def slc (a:E) (lo hi:Option E):E:=fun δ=>(a δ).bind fun d=>(part lo δ).bind fun l=>(part hi δ).bind fun h=>oSl d l h
/- data without a list -/
mutual
noncomputable def D.flat:D->Bool
 | .lst _=>false
 | .own _=>false
 | .tup ds=>D.flats ds
 | .ins _ fs=>D.flatf fs
 | _=>true
noncomputable def D.flats:List D->Bool
 | []=>true
 | d::r=>D.flat d&&D.flats r
noncomputable def D.flatf:List (String×D)->Bool
 | []=>true
 | (_,d)::r=>D.flat d&&D.flatf r
end
noncomputable abbrev IT:=Dt->R (List D)
noncomputable def IB (lo hi:Int):List D:=(List.range (hi - lo).toNat).map fun (k:Nat)=>D.int (lo+k)
noncomputable def asL:D->R (List D)
 | .lst ds=>.ok ds
 | _=>.bad
noncomputable def asT:D->R (List D)
 | .tup ds=>.ok ds
 | _=>.bad
noncomputable def asA:D->R (List D)
 | .lst ds=>.ok ds
 | .tup ds=>.ok ds
 | _=>.bad
noncomputable def Ks:D->R (List D)
 | .int hi=>if -(2^62)<=hi/\hi<2^62 then .ok (IB 0 hi) else .bad
 | _=>.bad
noncomputable def Kr:List D->R (List D)
 | [.int lo,.int hi]=>if -(2^62)<=lo/\lo<2^62 /\ -(2^62)<=hi/\hi<2^62 then .ok (IB lo hi) else .bad
 | _=>.bad
noncomputable def Me (lo hi c:Int):List D:=(List.range (if lo<hi then (hi - lo - 1) / c+1 else 0).toNat).map fun (k:Nat)=>D.int (lo+k*c)
noncomputable def Kq:List D->R (List D)
 | [.int lo,.int hi,.int c]=>if (-(2^40)<=lo/\lo<2^40 /\ -(2^40)<=hi/\hi<2^40)/\0<c/\c<2^20 then .ok (Me lo hi c) else .bad
 | _=>.bad
noncomputable def itL (g:E):IT:=fun δ=>(g δ).bind asL
noncomputable def itT (g:E):IT:=fun δ=>(g δ).bind asT
noncomputable def itA (g:E):IT:=fun δ=>(g δ).bind asA
noncomputable def Sr (g:E):IT:=fun δ=>(g δ).bind Ks
noncomputable def Sq (a b:E):IT:=fun δ=>(evs [a,b] δ).bind Kr
noncomputable def So (a b c:E):IT:=fun δ=>(evs [a,b,c] δ).bind Kq
noncomputable def EE {α:Type} (r:R α):R α:=match r with
 | .ex _=>.bad
 | r=>r
noncomputable def inC (ks:List Nat) (δ:Dt) (x:D):Dt:=some x::ks.map fun k=>δ.getD k none
noncomputable def uk (rs:List D):R D:=if D.flats rs then .ok (.lst rs) else .bad
noncomputable def runC (st:D->R (Option D)):List D->R (List D)
 | []=>.ok []
 | d::ds=>(st d).bind fun o=>(runC st ds).bind fun rs=>.ok (match o with | some r=>r::rs | none=>rs)
noncomputable def stC (c elt:E) (ks:List Nat) (δ:Dt) (x:D):R (Option D):=(EE (c (inC ks δ x))).bind fun d=>truth d ((EE (elt (inC ks δ x))).bind fun r=>.ok (some r)) (.ok none)
noncomputable def iD (it:IT) (ks:List Nat) (c elt:E):E:=fun δ=>(it δ).bind fun ds=>if ds.length<=100000 then (runC (stC c elt ks δ) ds).bind uk else .bad
noncomputable def comp (it:IT) (ks:List Nat) (elt:E):E:=iD it ks (con (.bl true)) elt
noncomputable def yB (cn f:String):D->R D
 | .ins n fs=>if n == cn then (match fs.lookup f with | some d=>.ok d | none=>.bad) else .bad
 | _=>.bad
noncomputable def fJ (cn m:String):D->Bool
 | .ins n fs=>n == cn&&(fs.lookup m).isNone
 | _=>false
noncomputable def Hu (cn m:String) (F:List D->R D) (o:E) (es:List E):E:=fun δ=>(o δ).bind fun d=>if fJ cn m d then (evs es δ).bind fun ds=>F (d::ds) else .bad
noncomputable def mk1 (cn f:String):List D->R D
 | [d]=>.ok (.ins cn [(f,d)])
 | _=>.bad
noncomputable def nD:List D->R D
 | [.lst ds]=>.ok (.int ds.length)
 | [.tup ds]=>.ok (.int ds.length)
 | [.str x]=>if x.cps.size<=1000000 then .ok (.int x.cps.size) else .bad
 | _=>.bad
noncomputable def yC:List D->R D
 | [.int i]=>.ok (.int (if i<0 then -i else i))
 | _=>.bad
noncomputable def Ho:List D->R D
 | [.int i,.int j]=>.ok (.int (if j>i then j else i))
 | _=>.bad
noncomputable def P5:List D->R D
 | [.int i,.int j]=>.ok (.int (if j<i then j else i))
 | _=>.bad
noncomputable def BL:List D->R D
 | [.int i]=>.ok (.int i)
 | [.bl k]=>.ok (.int (if k then 1 else 0))
 | _=>.bad
noncomputable def J9:List D->R D
 | [.lst ds]=>.ok (.lst ds)
 | [.tup ds]=>.ok (.lst ds)
 | _=>.bad
noncomputable def jW:List D->R D
 | [.int i]=>.ok (.int (nb i))
 | _=>.bad
noncomputable def av:List String:=["MillError","NoSize","NoBits","NoParts","NoRank","NotFinite","NoWay","NoFlags","NoFraction","Unlike","Empty","NoLeft","NoText","NoRow","NoName","Stopped"]
noncomputable def Dc (C B:String):Bool:=av.contains C&&(C == B||B == "MillError")
noncomputable def tyR (n:String) (b:Bool):R D:=if ["int","bool","str","tuple","list","ValueError"].contains n then .ok (.bl b) else .bad
noncomputable def isiC (B:String):D->R D
 | .exc C=>if av.contains C&&av.contains B then .ok (.bl (C == B||B == "MillError")) else .bad
 | .non=>if av.contains B then .ok (.bl false) else .bad
 | _=>.bad
noncomputable def isiT (n:String):D->R D
 | .exc C=>if av.contains C&&n == "ValueError" then .ok (.bl true) else .bad
 | .non=>tyR n false
 | .bl _=>tyR n (n == "int"||n == "bool")
 | .int _=>tyR n (n == "int")
 | .str _=>tyR n (n == "str")
 | .tup _=>tyR n (n == "tuple")
 | .lst _=>tyR n (n == "list")
 | _=>.bad
noncomputable def gq:List D->R D
 | [d,.cls B]=>isiC B d
 | [d,.ty n]=>isiT n d
 | _=>.bad
theorem isi_ite {c x k:Bool} (h:(if c=true then R.ok (D.bl x) else .bad)=.ok (.bl k)):c=true/\x=k:=by
 cases c with
 | true=>cases h;exact ⟨rfl,rfl⟩
 | false=>cases h
theorem isi_or {d c:D} {b x:Bool} {r:R D} (e:r=if b=true then R.ok (D.bl x) else .bad):(∃ d' c' k,[d,c]=[d',c']/\r=.ok (.bl k))\/r=.bad:=by
 subst e
 cases b with
 | true=>exact .inl ⟨_,_,_,rfl,rfl⟩
 | false=>exact .inr rfl
noncomputable def oF (d:D):List D->R D
 | []=>.ok (.bl false)
 | c::r=>(gq [d,c]).bind fun x=>truth x (.ok (.bl true)) (oF d r)
noncomputable def LQ:List D->R D
 | [d,.tup cs]=>oF d cs
 | _=>.bad
noncomputable def noOwn (δ:Dt):Dt:=δ.map fun c=>match c with | some (.own _)=>none | c=>c
noncomputable def view (δ:Dt):Dt:=δ.map fun c=>match c with | some (.own ds)=>some (.lst ds) | c=>c
noncomputable def ao:S:=.nx
noncomputable def asg (i:Nat) (δ:Dt) (r:R D):O:=match r with
 | .ok d=>.nx (δ.set i (some d))
 | .ex C=>.ex C (noOwn δ)
 | .bad=>.bad
noncomputable def xpr (δ:Dt) (r:R D):O:=match r with
 | .ok _=>.nx δ
 | .ex C=>.ex C (noOwn δ)
 | .bad=>.bad
noncomputable def rtn (δ:Dt) (r:R D):O:=match r with
 | .ok d=>.rt d
 | .ex C=>.ex C (noOwn δ)
 | .bad=>.bad
noncomputable def ifO (δ:Dt) (r:R D) (a b:O):O:=match r with
 | .ok (.bl true)=>a
 | .ok (.bl false)=>b
 | .ex C=>.ex C (noOwn δ)
 | _=>.bad
noncomputable def assign (i:Nat) (g:E):S:=fun δ=>asg i δ (g δ)
noncomputable def expr (g:E):S:=fun δ=>xpr δ (g δ)
noncomputable def ret (g:E):S:=fun δ=>rtn δ (g δ)
noncomputable def QE:S:=fun _=>.rt .non
noncomputable def QD (g:E):S:=fun δ=>rtn δ (g (view δ))
noncomputable def Jh (i:Nat):S:=fun δ=>.nx (δ.set i (some (.own [])))
noncomputable def pQ (i:Nat) (δ:Dt) (f:List D->O):O:=match δ[i]? with
 | some (some (.own ds))=>f ds
 | _=>.bad
noncomputable def Ka (i:Nat) (δ:Dt) (ds:List D) (r:R D):O:=match r with
 | .ok d=>if D.flat d=true/\ds.length<100000 then .nx (δ.set i (some (.own (ds++[d])))) else .bad
 | .ex C=>.ex C (noOwn δ)
 | .bad=>.bad
noncomputable def Ji (i:Nat) (g:E):S:=fun δ=>pQ i δ fun ds=>Ka i δ ds (g (view δ))
noncomputable def Jg (i:Nat):S:=fun δ=>pQ i δ fun ds=>.nx (δ.set i (some (.own ds.reverse)))
noncomputable def LR (i:Nat) (δ:Dt) (r:R D):O:=match r with
 | .ok d=>if D.flat d=true then .nx (δ.set i (some d)) else .bad
 | .ex C=>.ex C (noOwn δ)
 | .bad=>.bad
noncomputable def Hs (i:Nat) (g:E):S:=fun δ=>LR i δ (g (view δ))
noncomputable def Ss (c:E) (a b:S):S:=fun δ=>ifO δ (c (view δ)) (a δ) (b δ)
noncomputable def Ib (i:Nat) (δ:Dt) (r:R D):O:=match r with
 | .ok (.lst rs)=>.nx (δ.set i (some (.own rs)))
 | .ex C=>.ex C (noOwn δ)
 | _=>.bad
noncomputable def Gi (i:Nat) (g:E):S:=fun δ=>Ib i δ (g (view δ))
noncomputable def Gh (i:Nat) (g:E):S:=fun δ=>Ib i δ (g δ)
noncomputable def Kj (i:Nat) (δ:Dt) (ds:List D) (v k:R D):O:=match v,k with
 | .ok d,.ok (.int k)=>if D.flat d=true/\0<=k/\k<ds.length then .nx (δ.set i (some (.own (ds.set k.toNat d)))) else .bad
 | _,_=>.bad
noncomputable def Jf (i:Nat) (gk gv:E):S:=fun δ=>pQ i δ fun ds=>Kj i δ ds (gv (view δ)) (gk (view δ))
noncomputable def pub (i:Nat) (δ:Dt):Dt:=match δ[i]? with
 | some (some (.own ds))=>δ.set i (some (.lst ds))
 | _=>δ
noncomputable def QL (i:Nat) (s:S):S:=fun δ=>s (pub i δ)
noncomputable def ifs (c:E) (a b:S):S:=fun δ=>ifO δ (c δ) (a δ) (b δ)
noncomputable def O.then (o:O) (s:S):O:=match o with
 | .nx δ=>s δ
 | o=>o
noncomputable def seq (a b:S):S:=fun δ=>(a δ).then b
noncomputable def brk:S:=.bk
noncomputable def cont:S:=.ct
noncomputable def raise (C:String):S:=.mk C
noncomputable def trn (o:O) (k:S):O:=match o with
 | .nx δ1=>k δ1
 | .ct δ1=>k δ1
 | .bk δ1=>.nx δ1
 | o=>o
noncomputable def forL (i:Nat) (body:S):List D->S
 | [],δ=>.nx δ
 | d::ds,δ=>trn (body (δ.set i (some d))) (forL i body ds)
noncomputable def ovL (δ:Dt) (r:R D) (k:List D->O):O:=match r with
 | .ok (.lst ds)=>k ds
 | .ex C=>.ex C (noOwn δ)
 | _=>.bad
noncomputable def ovT (δ:Dt) (r:R D) (k:List D->O):O:=match r with
 | .ok (.tup ds)=>k ds
 | .ex C=>.ex C (noOwn δ)
 | _=>.bad
noncomputable def Lz (i:Nat) (g:E) (body:S):S:=fun δ=>ovL δ (g δ) fun ds=>forL i body ds δ
noncomputable def Ly (i:Nat) (g:E) (body:S):S:=fun δ=>ovT δ (g δ) fun ds=>forL i body ds δ
noncomputable def ovI (δ:Dt) (r:R (List D)) (k:List D->O):O:=match r with
 | .ok ds=>k ds
 | .ex C=>.ex C (noOwn δ)
 | .bad=>.bad
noncomputable def EX (i:Nat) (it:IT) (body:S):S:=fun δ=>ovI δ (it δ) fun ds=>forL i body ds δ
noncomputable def ovR (δ:Dt) (r:R D) (k:List D->O):O:=match r with
 | .ok (.int hi)=>if -(2^62)<=hi/\hi<2^62 then k (IB 0 hi) else .bad
 | .ex C=>.ex C (noOwn δ)
 | _=>.bad
noncomputable def LA (i:Nat) (b:E) (body:S):S:=fun δ=>ovR δ (b δ) fun ds=>forL i body ds δ
noncomputable def forget (i:Nat) (o:O):O:=match o with
 | .nx δ=>.nx (δ.set i none)
 | _=>.bad
noncomputable def Fv (o:O) (B:String) (i:Nat) (suite:S):O:=match o with
 | .nx δ1=>.nx δ1
 | .ex C δ1=>if Dc C B then forget i (suite ((noOwn δ1).set i (some (.exc C)))) else .bad
 | _=>.bad
noncomputable def P8 (body:S) (B:String) (i:Nat) (suite:S):S:=fun δ=>Fv (body δ) B i suite
noncomputable def bH (c:E) (body:S):Nat->S
 | 0,_=>.bad
 | n+1,δ=>match c δ with
  | .ok (.bl true)=>trn (body δ) (bH c body n)
  | .ok (.bl false)=>.nx δ
  | _=>.bad
open Classical in
noncomputable def dn (c:E) (body:S):S:=fun δ=>if h:∃ n,bH c body n δ ≠ .bad then bH c body h.choose δ else .bad
noncomputable def O.res:O->R D
 | .rt d=>.ok d
 | .nx _=>.ok .non
 | .ex C _=>.ex C
 | .mk C _=>.ex C
 | _=>.bad
noncomputable def start (n m:Nat) (ds:List D):Dt:=ds.map some++List.replicate (m - n) none
def Good (f:List D->R D):Prop:=∀ ns:List Int,ns.length<=63->(∀ m∈ns,nb m<=2^20)->f [.lst (ns.map .int)]=.ok (.bl true)
noncomputable def fn (n m:Nat) (body:S):List D->R D:=fun ds=>if ds.length=n then (body (start n m ds)).res else .bad
end EV
namespace ES
open PySem PySem.Spec PyProof.Rows L2 EV
noncomputable def SD (a C:Addr):HO:=.ext fun h=>∃ o vs,h.get? a=some o/\o.cls=.ref C/\o.data=.fields vs
mutual
inductive Rep (K:PySem.W.Frag) (mg:Str->Option Value) (H:Hp):V->D->Prop
 | non:Rep K mg H .non .non
 | bl (b:Bool):Rep K mg H (.bl b) (.bl b)
 | int (i:Int):Rep K mg H (.int i) (.int i)
 | str (x:Str):Rep K mg H (.str x) (.str x)
 | tup {a:Addr} {xs:List V} {ds:List D}:SqT K H a xs->Reps K mg H xs ds->Rep K mg H (.ref a) (.tup ds)
 | lst {a:Addr} {xs:List V} {ds:List D}:SqL K H a xs->Reps K mg H xs ds->Rep K mg H (.ref a) (.lst ds)
 | ty (n:String):Rep K mg H (.ty n) (.ty n)
 | cls {a:Addr} {n:String}:mg n=some (.ref a)->Rep K mg H (.ref a) (.cls n)
 | exc {a C:Addr} {n:String}:mg n=some (.ref C)->H a=some (SD a C)->Rep K mg H (.ref a) (.exc n)
 | ins {a C dx:Addr} {n:String} {fs:List (Str×V)} {ds:List (String×D)}:mg n=some (.ref C)->H a=some (.ins C dx fs)->Repf K mg H fs ds->Rep K mg H (.ref a) (.ins n ds)
inductive Reps (K:PySem.W.Frag) (mg:Str->Option Value) (H:Hp):List V->List D->Prop
 | nil:Reps K mg H [] []
 | cons {v:V} {d:D} {vs:List V} {ds:List D}:Rep K mg H v d->Reps K mg H vs ds->Reps K mg H (v::vs) (d::ds)
inductive Repf (K:PySem.W.Frag) (mg:Str->Option Value) (H:Hp):List (Str×V)->List (String×D)->Prop
 | nil:Repf K mg H [] []
 | cons {x:String} {v:V} {d:D} {vs:List (Str×V)} {ds:List (String×D)}:Rep K mg H v d->Repf K mg H vs ds->Repf K mg H (((x:Str),v)::vs) ((x,d)::ds)
end
theorem i6 {K:PySem.W.Frag} {H H':Hp} {a:Addr} {xs:List V} (e:aw H H') (h:SqT K H a xs):SqT K H' a xs:=by
 rcases h with (h | ⟨o,h⟩) | h
 ·exact .inl (.inl (e _ _ h))
 ·exact .inl (.inr ⟨o,e _ _ h⟩)
 ·exact .inr h
section
variable {K:PySem.W.Frag} {mg:Str->Option Value} {H H':Hp}
mutual
theorem Rep.mono (s:aw H H'):∀ {v:V} {d:D},Rep K mg H v d->Rep K mg H' v d
 | _,_,.non=>.non
 | _,_,.bl b=>.bl b
 | _,_,.int i=>.int i
 | _,_,.str x=>.str x
 | _,_,.tup h r=>.tup (i6 s h) (Reps.mono s r)
 | _,_,.lst h r=>.lst (s.seq h) (Reps.mono s r)
 | _,_,.ty n=>.ty n
 | _,_,.cls h=>.cls h
 | _,_,.exc h e=>.exc h (s _ _ e)
 | _,_,.ins h e r=>.ins h (s _ _ e) (Repf.mono s r)
theorem Reps.mono (s:aw H H'):∀ {vs:List V} {ds:List D},Reps K mg H vs ds->Reps K mg H' vs ds
 | _,_,.nil=>.nil
 | _,_,.cons r t=>.cons (Rep.mono s r) (Reps.mono s t)
theorem Repf.mono (s:aw H H'):∀ {vs:List (Str×V)} {ds:List (String×D)},Repf K mg H vs ds->Repf K mg H' vs ds
 | _,_,.nil=>.nil
 | _,_,.cons r t=>.cons (Rep.mono s r) (Repf.mono s t)
end
theorem Reps.length:∀ {vs:List V} {ds:List D},Reps K mg H vs ds->vs.length=ds.length
 | _,_,.nil=>rfl
 | _,_,.cons _ t=>congrArg (· + 1) (Reps.length t)
theorem Reps.get:∀ {vs:List V} {ds:List D} {i:Nat} {d:D},Reps K mg H vs ds->ds[i]? = some d->∃ v,vs[i]? = some v/\Rep K mg H v d
 | _,_,_,_,.nil,e=>by simp at e
 | _,_,0,_,.cons r _,e=>by simp at e;subst e;exact ⟨_,rfl,r⟩
 | _,_,i+1,d,.cons _ t,e=>by
  obtain ⟨v,h1,h2⟩:=Reps.get (i:=i) (d:=d) t (by simpa using e)
  exact ⟨v,by simpa using h1,h2⟩
theorem Reps.append:∀ {vs ws:List V} {ds es:List D},Reps K mg H vs ds->Reps K mg H ws es->Reps K mg H (vs++ws) (ds++es)
 | _,_,_,_,.nil,s=>s
 | _,_,_,_,.cons r t,s=>.cons r (Reps.append t s)
theorem Reps.take:∀ {vs:List V} {ds:List D} (n:Nat),Reps K mg H vs ds->Reps K mg H (vs.take n) (ds.take n)
 | _,_,0,_=>.nil
 | _,_,_+1,.nil=>.nil
 | _,_,n+1,.cons r t=>.cons r (Reps.take n t)
theorem Reps.drop:∀ {vs:List V} {ds:List D} (n:Nat),Reps K mg H vs ds->Reps K mg H (vs.drop n) (ds.drop n)
 | _,_,0,r=>r
 | _,_,_+1,.nil=>.nil
 | _,_,n+1,.cons _ t=>Reps.drop n t
theorem Reps.ints (ns:List Int):Reps K mg H (ns.map V.int) (ns.map D.int):=by
 induction ns with
 | nil=>exact .nil
 | cons n r ih=>exact .cons (.int n) ih
theorem me {x y:String} (h:(Str.ofString x)=Str.ofString y):x=y:=by
 rw [Str.ofString_eq_toList,Str.ofString_eq_toList] at h
 have h1:(x.toList.map Char.toNat).toArray=(y.toList.map Char.toNat).toArray:=congrArg Str.cps h
 have h2:x.toList.map Char.toNat=y.toList.map Char.toNat:=by simpa using h1
 have h3:∀ (l m:List Char),l.map Char.toNat=m.map Char.toNat->l=m:=by
  intro l
  induction l with
  | nil=>intro m e;cases m with | nil=>rfl | cons _ _=>cases e
  | cons c r ih =>
   intro m e
   cases m with
   | nil=>cases e
   | cons c' r' =>
    rw [List.map_cons,List.map_cons,List.cons.injEq] at e
    rw [Char.ext (UInt32.toNat_inj.mp e.1),ih r' e.2]
 exact String.toList_inj.mp (h3 _ _ h2)
theorem qV (x y:String):((Str.ofString x) == Str.ofString y)=(x == y):=by
 rw [Bool.eq_iff_iff,beq_iff_eq,beq_iff_eq]
 exact ⟨me,fun e=>by rw [e]⟩
theorem Repf.lookup:∀ {fs:List (Str×V)} {ds:List (String×D)} {x:String} {d:D},Repf K mg H fs ds->ds.lookup x=some d->∃ v,fs.lookup (x:Str)=some v/\Rep K mg H v d
 | _,_,_,_,.nil,e=>by cases e
 | (_,v)::fs,(y,d')::ds,x,d,.cons r t,e=>by
  rw [List.lookup_cons] at e ⊢
  rw [qV]
  cases q:(x == y) with
  | true =>
   rw [q] at e
   have e':d'=d:=by simpa using e
   subst e'
   exact ⟨v,rfl,r⟩
  | false=>rw [q] at e;exact Repf.lookup t e
theorem Repf.lookupN:∀ {fs:List (Str×V)} {ds:List (String×D)} {x:String},Repf K mg H fs ds->ds.lookup x=none->fs.lookup (x:Str)=none
 | _,_,_,.nil,e=>rfl
 | (_,v)::fs,(y,d')::ds,x,.cons r t,e=>by
  rw [List.lookup_cons] at e ⊢
  rw [qV]
  cases q:(x == y) with
  | true=>rw [q] at e;cases e
  | false=>rw [q] at e;exact Repf.lookupN t e
end
def Stt (K:PySem.W.Frag) (mg:Str->Option Value) (H:Hp) (σ:L2.St) (δ:Dt):Prop :=
 σ.length=δ.length/\∀ (i:Nat) (d:D),δ[i]? = some (some d)->(∀ ds,d ≠ .own ds)->∃ v,σ[i]? = some (some v)/\Rep K mg H v d
theorem Stt.mono {K:PySem.W.Frag} {mg:Str->Option Value} {H H':Hp} {σ:L2.St} {δ:Dt} (h:Stt K mg H σ δ) (s:aw H H'):Stt K mg H' σ δ :=
 ⟨h.1,fun i d e n=>let ⟨v,a,b⟩:=h.2 i d e n;⟨v,a,b.mono s⟩⟩
theorem Stt.set {K:PySem.W.Frag} {mg:Str->Option Value} {H:Hp} {σ:L2.St} {δ:Dt} {i:Nat} {v:V} {d:D} (h:Stt K mg H σ δ) (r:Rep K mg H v d):Stt K mg H (σ.set i (some v)) (δ.set i (some d)):=by
 refine ⟨by rw [List.length_set,List.length_set];exact h.1,fun j d' e n => ?_⟩
 by_cases hj:j=i
 ·subst hj
  by_cases hl:j<δ.length
  ·rw [List.getElem?_set_self hl] at e
   cases e
   exact ⟨v,by rw [List.getElem?_set_self (by rw [h.1];exact hl)],r⟩
  ·rw [List.getElem?_eq_none (by simp;omega)] at e
   cases e
 ·rw [List.getElem?_set_ne (Ne.symm hj)] at e
  obtain ⟨u,a,b⟩:=h.2 j d' e n
  exact ⟨u,by rw [List.getElem?_set_ne (Ne.symm hj)];exact a,b⟩
structure FlyX (P:Program) (w:World) (outer:List Env) (H:Hp) (s:Shared) (C:Addr) (H':Hp) (ea:Addr) (s':Shared):Prop where
 os:s'.os=s.os
 bare:AllBare s'.gens
 un:Un (frs outer) [] H H' s.heap s'.heap
 hok:HOk P w H' s'.heap
 same:aw H H'
 new:s.heap.get? ea=none
 fly:∃ a0 B,Heap.FlyingW B outer ea (.ref C) a0 s'.heap/\(∀ b o,s.heap.get? b=some o->H b=none->b∉frs outer->B.get? b=some o)/\(∀ b u o,H' b=some u->s'.heap.get? b=some o->B.get? b=some o)
def ew (X:Cx) (C:Addr) (σ:L2.St) (H':Hp):Prop:=∀ pins H s ea s',Inv X pins σ H s->FlyX X.prog X.w X.stack H s C H' ea s'->X.xe (.ref ea) s'
def em (X:Cx) (C:Addr) (σ:L2.St) (H':Hp):Prop:=∀ pins s h' ea vs,Inv X pins σ H' s->Heap.MadeExcOf s.heap h' ea (.ref C) vs->X.xe (.ref ea) { s with heap:=h' }
def RQ (X:Cx) (σ:L2.St) (H:Hp) (r:R D) (Q:VK):Prop:=match r with
 | .ok d=>∀ v H',aw H H'->Rep X.K X.mg H' v d->Q v H'
 | .ex C=>∀ Ca,X.mg C=some (.ref Ca)->∀ H',aw H H'->ew X Ca σ H'
 | .bad=>False
noncomputable def tE (X:Cx) (g:E):TE:=fun σ H Q=>∃ δ,Stt X.K X.mg H σ δ/\RQ X σ H (g δ) Q
@[irreducible] noncomputable def SE (X:Cx) (e:Expr) (g:E):Prop:=PE X e (tE X g)
def RT (X:Cx) (σ:L2.St) (H:Hp) (r:R D) (Q:Bool->Hp->Prop):Prop:=match r with
 | .ok (.bl b)=>∀ H',aw H H'->Q b H'
 | .ex C=>∀ Ca,X.mg C=some (.ref Ca)->∀ H',aw H H'->ew X Ca σ H'
 | _=>False
noncomputable def tT (X:Cx) (g:E):TT:=fun σ H Q=>∃ δ,Stt X.K X.mg H σ δ/\RT X σ H (g δ) Q
@[irreducible] noncomputable def ST (X:Cx) (e:Expr) (g:E):Prop:=PT X e (tT X g)
@[irreducible] noncomputable def SW (X:Cx) (e:Expr) (g:E):Prop:=PW X e (tT X g)
def RA (X:Cx) (σ:L2.St) (H:Hp) (r:R (List D)) (Q:List V->Hp->Prop):Prop:=match r with
 | .ok ds=>∀ vs H',aw H H'->Reps X.K X.mg H' vs ds->Q vs H'
 | .ex C=>∀ Ca,X.mg C=some (.ref Ca)->∀ H',aw H H'->ew X Ca σ H'
 | .bad=>False
noncomputable def tAs (X:Cx) (gs:List E):TA:=fun σ H Q=>∃ δ,Stt X.K X.mg H σ δ/\RA X σ H (evs gs δ) Q
@[irreducible] noncomputable def SA (X:Cx) (es:List Expr) (gs:List E):Prop:=PA X es (tAs X gs)
unseal SE ST SW SA
section
variable {X:Cx} {σ:L2.St} {H H1:Hp}
theorem PE.weak {e:Expr} {t t':TE} (h:PE X e t) (w:∀ σ H Q,t' σ H Q->t σ H Q):PE X e t':=fun pins s σ H Q I q=>h pins s σ H Q I (w σ H Q q)
theorem PT.weak {e:Expr} {t t':TT} (h:PT X e t) (w:∀ σ H Q,t' σ H Q->t σ H Q):PT X e t':=fun pins s σ H Q I q=>h pins s σ H Q I (w σ H Q q)
theorem PW.weak {e:Expr} {t t':TT} (h:PW X e t) (w:∀ σ H Q,t' σ H Q->t σ H Q):PW X e t':=fun wh pins s σ H Q I q=>h wh pins s σ H Q I (w σ H Q q)
theorem PA.weak {es:List Expr} {t t':TA} (h:PA X es t) (w:∀ σ H Q,t' σ H Q->t σ H Q):PA X es t':=fun pos pins s σ H Q I q=>h pos pins s σ H Q I (w σ H Q q)
theorem PS.weak {st:Stmt} {t t':TS} (h:PS X st t) (w:∀ D σ H,t' D σ H->t D σ H):PS X st t':=fun pins s σ H D I q=>h pins s σ H D I (w D σ H q)
theorem PSs.weak {st:List Stmt} {t t':TS} (h:PSs X st t) (w:∀ D σ H,t' D σ H->t D σ H):PSs X st t':=fun pins s σ H D I q=>h pins s σ H D I (w D σ H q)
theorem RQ.to {r:R D} {Q Q':VK} (h:RQ X σ H r Q) (g:∀ v H',aw H H'->Q v H'->Q' v H'):RQ X σ H r Q':=by
 cases r with
 | ok d=>exact fun v H' s r=>g v H' s (h v H' s r)
 | ex C=>exact h
 | bad=>exact h
theorem RQ.mono {r:R D} {Q:VK} (s:aw H H1) (h:RQ X σ H r Q):RQ X σ H1 r Q:=by
 cases r with
 | ok d=>exact fun v H' s' r=>h v H' (s.trans s') r
 | ex C=>exact fun Ca hc H' s'=>h Ca hc H' (s.trans s')
 | bad=>exact h
theorem RT.mono {r:R D} {Q:Bool->Hp->Prop} (s:aw H H1) (h:RT X σ H r Q):RT X σ H1 r Q:=by
 cases r with
 | ok d =>
  cases d with
  | bl b=>exact fun H' s'=>h H' (s.trans s')
  | _=>exact False.elim h
 | ex C=>exact fun Ca hc H' s'=>h Ca hc H' (s.trans s')
 | bad=>exact h
theorem RQ.bind {r:R D} {f:D->R D} {Q:VK} (h:RQ X σ H (r.bind f) Q):RQ X σ H r (fun v H'=>aw H H'/\∃ d,Rep X.K X.mg H' v d/\RQ X σ H' (f d) Q):=by
 cases r with
 | ok d=>exact fun v H' s r=>⟨s,d,r,h.mono s⟩
 | ex C=>exact h
 | bad=>exact h
theorem RA.bind {r:R (List D)} {f:List D->R D} {Q:VK} (h:RQ X σ H (r.bind f) Q):RA X σ H r (fun vs H'=>aw H H'/\∃ ds,Reps X.K X.mg H' vs ds/\RQ X σ H' (f ds) Q):=by
 cases r with
 | ok d=>exact fun v H' s r=>⟨s,d,r,h.mono s⟩
 | ex C=>exact h
 | bad=>exact h
theorem RT.bind {r:R D} {f:D->R D} {Q:Bool->Hp->Prop} (h:RT X σ H (r.bind f) Q):RQ X σ H r (fun v H'=>aw H H'/\∃ d,Rep X.K X.mg H' v d/\RT X σ H' (f d) Q):=by
 cases r with
 | ok d=>exact fun v H' s r=>⟨s,d,r,h.mono s⟩
 | ex C=>exact h
 | bad=>exact False.elim h
end
structure Sc (X:Cx) (N:List Str):Prop where
 n:X.N=N
 nd:N.Nodup
 vis:∀ x∈N,Vis X.env.scope x
 dbg:∀ x∈N,(x == ("__debug__":Str))=false/\(x == ("__classdict__":Str))=false
def Sto (X:Cx) (x:Str):Prop:=Loc X.env.scope x/\(X.fn x=true\/X.env.scope.names.lookup x=some .local)
structure Gb (X:Cx) (x:Str):Prop where
 g:X.env.scope.names.lookup x=some .globalImplicit
 d:(x == ("__debug__":Str))=false
 n:x≠"__name__"
section
variable {X:Cx} {N:List Str} {pos:Pos} {a b c e:Expr} {ga gb gc g:E}
theorem G6 (S:Sc X N) (i:Nat) {x:Str} (hN:N[i]? = some x):SE X (.Name x pos) (var i):=by
 have hm:x∈N:=List.mem_of_getElem? hN
 refine PE.weak (Ak (i:=i) (by rw [S.n];exact hN) (S.vis x hm) (S.dbg x hm).1 (S.dbg x hm).2) fun σ H Q ⟨δ,hσ,h⟩ => ?_
 unfold var at h
 split at h
 ·exact False.elim h
 ·rename_i d _ hd
  obtain ⟨v,e,r⟩:=hσ.2 i d hd (by intro ds z;subst z;rename_i q;exact q ds rfl)
  exact ⟨v,e,h v H (aw.refl H) r⟩
 ·exact False.elim h
theorem rT {v:V} {d:D} (h:PE X e (tC v)) (r:∀ H,Rep X.K X.mg H v d):SE X e (con d):=PE.weak h fun σ H Q ⟨δ,hσ,q⟩=>q _ H (aw.refl H) (r H)
theorem af {i j}:SE X (.Constant (.int i) j pos) (con (.int i)):=rT Ja fun _=>.int i
theorem qk {b j}:SE X (.Constant (.bool b) j pos) (con (.bl b)):=rT K8 fun _=>.bl b
theorem G8 {j}:SE X (.Constant .none j pos) (con .non):=rT IY fun _=>.non
theorem ax {x j}:SE X (.Constant (.str x) j pos) (con (.str x)):=rT Ep fun _=>.str x
theorem jo {x:Str} {i:Int} (G:Gb X x) (h:∃ t,X.mg x=some (.int i t)):SE X (.Name x pos) (con (.int i)):=by
 obtain ⟨t,h⟩:=h
 exact rT (tZ (v:=.int i) G.g h ⟨t,rfl⟩ G.d) fun _=>.int i
theorem JW {x:Str} {i:Str} (G:Gb X x) (h:∃ t,X.mg x=some (.str i t)):SE X (.Name x pos) (con (.str i)):=by
 obtain ⟨t,h⟩:=h
 exact rT (tZ (v:=.str i) G.g h ⟨t,rfl⟩ G.d) fun _=>.str i
theorem JU {x:Str} {n:String} (G:Gb X x) (h:X.mg x=none) (hv:bootBuiltins x=some (.type n)):SE X (.Name x pos) (con (.ty n)) :=
 rT (Gd (v:=.ty n) G.g h hv rfl G.n G.d) fun _=>.ty n
noncomputable def rD (X:Cx) (f:D->D->R D):R2:=fun x y H Q=>∃ dx dy d,Rep X.K X.mg H x dx/\Rep X.K X.mg H y dy/\f dx dy=.ok d/\∀ v H',aw H H'->Rep X.K X.mg H' v d->Q v H'
def jX (f:D->D->R D):Prop:=∀ x y C,f x y ≠ .ex C
theorem RQ.op {σ:L2.St} {H:Hp} {f:D->D->R D} (nx:jX f) {x y:V} {dx dy:D} {Q:VK} (r1:Rep X.K X.mg H x dx) (r2:Rep X.K X.mg H y dy) (h:RQ X σ H (f dx dy) Q):rD X f x y H Q:=by
 cases e:f dx dy with
 | ok d=>rw [e] at h;exact ⟨dx,dy,d,r1,r2,e,h⟩
 | ex C=>exact absurd e (nx dx dy C)
 | bad=>rw [e] at h;exact False.elim h
theorem BA {f:D->D->R D} {σ:L2.St} {H:Hp} {Q:VK} (h:tE X (EV.bin f ga gb) σ H Q):tE X ga σ H fun x H1=>tE X gb σ H1 fun y H2=>∃ dx dy,Rep X.K X.mg H2 x dx/\Rep X.K X.mg H2 y dy/\RQ X σ H2 (f dx dy) Q:=by
 obtain ⟨δ,hσ,h⟩:=h
 refine ⟨δ,hσ,(RQ.bind h).to fun x H1 s1 ⟨_,dx,r1,h1⟩ => ?_⟩
 refine ⟨δ,hσ.mono s1,(RQ.bind h1).to fun y H2 s2 ⟨_,dy,r2,h2⟩ => ?_⟩
 exact ⟨dx,dy,r1.mono s2,r2,h2⟩
theorem p6 {op:Operator} {f:D->D->R D} (nx:jX f) (ho:OpR X (binaryOp op) (rD X f)) (ha:SE X a ga) (hb:SE X b gb):SE X (.BinOp a op b pos) (EV.bin f ga gb) :=
 PE.weak (K5 ho ha hb) fun σ H Q h=>by
  obtain ⟨δ,hσ,q⟩:=BA h
  refine ⟨δ,hσ,q.to fun x H1 s1 ⟨δ1,hσ1,q1⟩=>⟨δ1,hσ1,q1.to fun y H2 s2 ⟨dx,dy,r1,r2,q2⟩=>RQ.op nx r1 r2 q2⟩⟩
theorem yo {op:CmpOp} {f:D->D->R D} (nx:jX f) (ho:OpR X (compareOp op) (rD X f)) (ha:SE X a ga) (hb:SE X b gb) (hm:behindInMarks op b=false):SE X (.Compare a [op] [b] pos) (EV.bin f ga gb) :=
 PE.weak (Ga ho ha hb hm) fun σ H Q h=>by
  obtain ⟨δ,hσ,q⟩:=BA h
  refine ⟨δ,hσ,q.to fun x H1 s1 ⟨δ1,hσ1,q1⟩=>⟨δ1,hσ1,q1.to fun y H2 s2 ⟨dx,dy,r1,r2,q2⟩=>RQ.op nx r1 r2 q2⟩⟩
theorem Hg {f:D->D->R D} {σ:L2.St} {H:Hp} {Q:Bool->Hp->Prop} (h:tT X (EV.bin f ga gb) σ H Q):tE X ga σ H fun x H1=>tE X gb σ H1 fun y H2=>∃ dx dy,Rep X.K X.mg H2 x dx/\Rep X.K X.mg H2 y dy/\RT X σ H2 (f dx dy) Q:=by
 obtain ⟨δ,hσ,h⟩:=h
 refine ⟨δ,hσ,(RT.bind h).to fun x H1 s1 ⟨_,dx,r1,h1⟩ => ?_⟩
 refine ⟨δ,hσ.mono s1,(RT.bind h1).to fun y H2 s2 ⟨_,dy,r2,h2⟩ => ?_⟩
 exact ⟨dx,dy,r1.mono s2,r2,h2⟩
theorem RT.op {σ:L2.St} {H:Hp} {f:D->D->R D} (nx:jX f) {x y:V} {dx dy:D} {Q:Bool->Hp->Prop} (r1:Rep X.K X.mg H x dx) (r2:Rep X.K X.mg H y dy) (h:RT X σ H (f dx dy) Q):rD X f x y H fun v H'=>∃ k,v=.bl k/\Q k H':=by
 cases e:f dx dy with
 | ok d =>
  rw [e] at h
  cases d with
  | bl k=>exact ⟨dx,dy,_,r1,r2,e,fun v H' s r=>by cases r;exact ⟨k,rfl,h H' s⟩⟩
  | _=>exact False.elim h
 | ex C=>exact absurd e (nx dx dy C)
 | bad=>rw [e] at h;exact False.elim h
theorem qE {op:CmpOp} {f:D->D->R D} (nx:jX f) (ho:OpR X (compareOp op) (rD X f)) (ha:SE X a ga) (hb:SE X b gb) (hm:behindInMarks op b=false):ST X (.Compare a [op] [b] pos) (EV.bin f ga gb) :=
 PT.weak (Af ho ha hb hm) fun σ H Q h=>by
  obtain ⟨δ,hσ,q⟩:=Hg h
  refine ⟨δ,hσ,q.to fun x H1 s1 ⟨δ1,hσ1,q1⟩=>⟨δ1,hσ1,q1.to fun y H2 s2 ⟨dx,dy,r1,r2,q2⟩=>RT.op nx r1 r2 q2⟩⟩
theorem qR {F:Value->Value->Sem Value} {f:D->D->R D} {C:Int->Int->Prop} {g:Int->Int->Int} (ho:OpR X F (rI C fun i j=>.int (g i j)))
  (hf:∀ dx dy d,f dx dy=.ok d->∃ i j,dx=.int i/\dy=.int j/\C i j/\d=.int (g i j)):OpR X F (rD X f):=by
 intro pins s σ H x y v u Q I rx ry ⟨dx,dy,d,r1,r2,e,q⟩
 obtain ⟨i,j,rfl,rfl,hc,rfl⟩:=hf dx dy d e
 cases r1
 cases r2
 exact ho pins s σ H _ _ v u Q I rx ry ⟨i,j,rfl,rfl,hc,q _ _ (aw.refl _) (.int _)⟩
theorem Ao {F:Value->Value->Sem Value} {f:D->D->R D} {g:Int->Int->Int} (ho:OpR X F (rI0 fun i j=>.int (g i j)))
  (hf:∀ dx dy d,f dx dy=.ok d->∃ i j,dx=.int i/\dy=.int j/\d=.int (g i j)):OpR X F (rD X f):=by
 intro pins s σ H x y v u Q I rx ry ⟨dx,dy,d,r1,r2,e,q⟩
 obtain ⟨i,j,rfl,rfl,rfl⟩:=hf dx dy d e
 cases r1
 cases r2
 exact ho pins s σ H _ _ v u Q I rx ry ⟨i,j,rfl,rfl,q _ _ (aw.refl _) (.int _)⟩
theorem vB {F:Value->Value->Sem Value} {f:D->D->R D} {g:Int->Int->Bool} (ho:OpR X F (rI0 fun i j=>.bl (g i j)))
  (hf:∀ dx dy d,f dx dy=.ok d->∃ i j,dx=.int i/\dy=.int j/\d=.bl (g i j)):OpR X F (rD X f):=by
 intro pins s σ H x y v u Q I rx ry ⟨dx,dy,d,r1,r2,e,q⟩
 obtain ⟨i,j,rfl,rfl,rfl⟩:=hf dx dy d e
 cases r1
 cases r2
 exact ho pins s σ H _ _ v u Q I rx ry ⟨i,j,rfl,rfl,q _ _ (aw.refl _) (.bl _)⟩
end
theorem AL (i:Int):nb i=Builtin.Int.intBits i:=by
 unfold nb Builtin.Int.intBits
 by_cases h:i=0
 ·rw [if_pos h,if_pos (by rw [h];rfl)]
 ·rw [if_neg h,if_neg (by simpa using h)]
theorem CN {i j:Int} (h:MulOk i j):IntMulOk i j:=IntMulOk.of_le (m:=nb i) (n:=nb j) (Nat.le_of_eq (AL i).symm) (Nat.le_of_eq (AL j).symm) h
noncomputable def KZ (K:PySem.W.Frag):R2:=fun x y H Q=>∃ a b xs ys,x=.ref a/\y=.ref b/\SqL K H a xs/\SqL K H b ys/\xs.length+ys.length<=sizeLine/\∀ p,H p=none->Q (.ref p) (upd H p (.lst (xs++ys)))
section
variable {X:Cx}
theorem a9 {H:Hp} {p:Addr} (h:H p=none) (o:HO):aw H (upd H p o):=fun b u q=>by rw [bI (cU q h)];exact q
theorem AX (l b:Addr) (xs ys:Array Value) (n m:Nat) (d1 d2:Option Addr) (s1 s2:Array (Option Value)) (hz:xs.size+ys.size<=sizeLine) :
  Meets (Builtin.«list.__add__» ⟨[.ref l,.ref b],[]⟩) (fun _ R s=>s.heap.get? l=some { cls:=.type "list",dict:=d1,data:=.seq xs n,slots:=s1 }/\s.heap.get? b=some { cls:=.type "list",dict:=d2,data:=.seq ys m,slots:=s2 } /\
   R (.ok (.ret (Value.ref s.heap.objs.size))) { s with heap:=s.heap.push { cls:=.type "list",data:=.seq (xs++ys) } }) :=
 .of_wp fun prog w A R s h=>by
  obtain ⟨hp,g,dd,tk,os⟩:=s
  obtain ⟨ha,hb,h⟩:=h
  have f3:=AutoSeq1.sub_list_list
  wp_walk using AutoSeq1.wpAny_loadPart' ha,AutoSeq1.wpAny_loadPart' hb
  exact ⟨_,rfl,h⟩
theorem Gu:OpR X (binaryOp .Add) (KZ X.K):=by
 intro pins s σ H x y v u Q I rx ry h
 obtain ⟨l,b,xs,zs,rfl,rfl,hH,hB,hz,q⟩:=h
 cases rx
 cases ry
 obtain ⟨its,r,⟨⟨c1,d1,t1,s1⟩,n,e,g1,g2,g3⟩,_⟩:=I.list hH
 obtain ⟨its2,r2,⟨⟨c2,d2,t2,s2⟩,n2,e2,k1,k2,k3⟩,_⟩:=I.list hB
 simp only at g1 g2 g3 k1 k2 k3
 subst g1 g2 g3 k1 k2 k3
 have hl:=r.length
 have hl2:=r2.length
 refine concat_meets ⟨_,e,rfl⟩ ⟨_,e2,rfl⟩ noFill_list_add seq_list_add F.slot_list_add F.entry_list_add (F.args_list_add_2 _ _) (AX l b its.toArray its2.toArray n n2 _ _ _ _ (by rw [List.size_toArray,List.size_toArray];omega)) ⟨e,e2,?_⟩
 have ea:its.toArray++its2.toArray=(its++its2).toArray:=by simp
 rw [ea]
 exact ⟨.ref _,_,I.lnew (t':=s.toks) (r.append r2) (by rw [List.length_append];omega),rfl,q _ I.fresh⟩
theorem dF {c:Prop} [Decidable c] {d:D} {C:String}:(if c then R.ok d else R.bad)≠R.ex C:=by split<;>exact fun z=>nomatch z
theorem Lr:jX aX:=fun x y C z=>by unfold aX at z;split at z<;>first | cases z | exact dF z
theorem Gv:OpR X (binaryOp .Add) (rD X aX):=by
 intro pins s σ H x y v u Q I rx ry ⟨dx,dy,d,r1,r2,e,q⟩
 unfold aX at e
 split at e
 ·cases e;cases r1;cases r2
  exact Jo pins s σ H _ _ v u Q I rx ry ⟨_,_,rfl,rfl,q _ _ (aw.refl _) (.int _)⟩
 ·split at e
  ·rename_i hz
   cases e;cases r1;cases r2
   exact yd pins s σ H _ _ v u Q I rx ry ⟨_,_,rfl,rfl,Nat.le_trans hz (by rw [sizeLine_eq];decide),q _ _ (aw.refl _) (.str _)⟩
  ·cases e
 ·split at e
  ·rename_i hz
   cases e;cases r1;cases r2
   rename_i a xs h1 r1 b ys h2 r2
   exact Gu pins s σ H _ _ v u Q I rx ry ⟨a,b,xs,ys,rfl,rfl,h1,h2,by rw [r1.length,r2.length];exact Nat.le_trans hz (by rw [sizeLine_eq];decide),fun p hp=>q _ _ (a9 hp _) (.lst (SqL.of bG) ((r1.append r2).mono (a9 hp _)))⟩
  ·cases e
 ·split at e
  ·rename_i hz
   cases e;cases r1;cases r2
   rename_i a xs h1 r1 b ys h2 r2
   refine Gs pins s σ H _ _ v u Q I rx ry ⟨a,b,xs,ys,rfl,rfl,h1,h2,fun z=>hz.1 ?_,by rw [r1.length,r2.length];exact Nat.le_trans hz.2 (by rw [sizeLine_eq];decide),fun z=>q _ _ (aw.refl _) ?_,fun _ p hp=>q _ _ (a9 hp _) (.tup (SqT.of bG) ((r1.append r2).mono (a9 hp _)))⟩
   ·subst z
    cases r1;rfl
   ·subst z
    cases r2
    rw [List.append_nil]
    exact .tup h1 r1
  ·cases e
 ·cases e
theorem Lh:jX cM:=fun x y C z=>by unfold cM at z;split at z<;>cases z
theorem Gj:OpR X (binaryOp .Sub) (rD X cM):=Ao Jj fun dx dy d e=>by
 unfold cM at e;split at e
 ·cases e;exact ⟨_,_,rfl,rfl,rfl⟩
 ·cases e
theorem Lk:jX dY:=fun x y C z=>by unfold dY at z;split at z<;>first | cases z | exact dF z
theorem Gp:OpR X (binaryOp .Mult) (rD X dY):=qR (C:=IntMulOk) (opI fun _ _ _ _ _ _ _ hc q=>mul_int q hc) fun dx dy d e=>by
 unfold dY at e;split at e
 ·split at e
  ·rename_i h;cases e;exact ⟨_,_,rfl,rfl,CN h,rfl⟩
  ·cases e
 ·cases e
theorem Ln:jX oDiv:=fun x y C z=>by unfold oDiv at z;split at z<;>first | cases z | exact dF z
theorem R7 {i j:Int} (h:ie i j):Builtin.divisionGoesByPylong i j=false:=by
 obtain ⟨h0,h⟩:=h
 show (decide ((if j == 0 then 0 else j.natAbs.log2 / 30+1)>300)&&decide ((if i == 0 then 0 else i.natAbs.log2 / 30+1)>(if j == 0 then 0 else j.natAbs.log2 / 30+1)+150))=false
 have ej:(j == 0)=false:=by simp;omega
 unfold nb at h
 rw [if_neg (by omega:¬ j=0)] at h
 rw [ej]
 simp only [Bool.false_eq_true,if_false]
 rw [Bool.and_eq_false_iff,decide_eq_false_iff_not,decide_eq_false_iff_not]
 by_cases hi:i=0
 ·rw [if_pos (by simp [hi])];omega
 ·rw [if_neg (by simp [hi])]
  rw [if_neg hi] at h
  omega
theorem Gr:OpR X (binaryOp .FloorDiv) (rD X oDiv):=qR (C:=ie) (g:=fun i j=>i / j) (opI fun i j _ _ _ _ _ hc q=>by
  have h1:(0:Int)<j:=hc.1
  exact floordiv_int (by omega) (by rw [Int.fdiv_eq_ediv_of_nonneg i (by omega)];exact q) (.inl (R7 hc))) fun dx dy d e=>by
 unfold oDiv at e;split at e
 ·split at e
  ·rename_i h;cases e;exact ⟨_,_,rfl,rfl,h,rfl⟩
  ·cases e
 ·cases e
theorem Ll:jX oMod:=fun x y C z=>by unfold oMod at z;split at z<;>first | cases z | exact dF z
theorem Gq:OpR X (binaryOp .Mod) (rD X oMod):=qR (C:=fun _ j=>0<j) (g:=fun i j=>i%j) Jl fun dx dy d e=>by
 unfold oMod at e;split at e
 ·split at e
  ·rename_i h;cases e;exact ⟨_,_,rfl,rfl,h,rfl⟩
  ·cases e
 ·cases e
theorem Lj:jX cO:=fun x y C z=>by unfold cO at z;split at z<;>first | cases z | exact dF z
theorem Gm:OpR X (binaryOp .LShift) (rD X cO):=qR (C:=fun i j=>0<=j/\(nb i:Int)+j<=134217728) (g:=fun i j=>i*pw j) (opI fun _ _ _ _ _ _ _ hc q=>lshift_int hc.1 (by rw [<- AL];exact hc.2) q) fun dx dy d e=>by
 unfold cO at e;split at e
 ·split at e
  ·rename_i h;cases e;exact ⟨_,_,rfl,rfl,h,rfl⟩
  ·cases e
 ·cases e
theorem Li:jX EB:=fun x y C z=>by unfold EB at z;split at z<;>first | cases z | exact dF z
theorem Gk:OpR X (binaryOp .RShift) (rD X EB):=qR (C:=fun _ j=>0<=j) (g:=fun i j=>i / 2^j.toNat) Jk fun dx dy d e=>by
 unfold EB at e;split at e
 ·split at e
  ·rename_i h;cases e;exact ⟨_,_,rfl,rfl,h,rfl⟩
  ·cases e
 ·cases e
theorem Jr:jX mh:=fun x y C z=>by unfold mh at z;split at z<;>first | cases z | exact dF z
theorem Hk {i j:Int} (hi:0<=i) (hj:0<=j):Builtin.bitAnd i j=((i.toNat &&& j.toNat:Nat):Int):=by
 unfold Builtin.bitAnd
 rw [decide_eq_true hi,decide_eq_true hj]
theorem CG:OpR X (binaryOp .BitAnd) (rD X mh):=Ao Jn fun dx dy d e=>by
 unfold mh at e;split at e
 ·split at e
  ·rename_i h;cases e;exact ⟨_,_,rfl,rfl,by rw [Hk h.1 h.2]⟩
  ·cases e
 ·cases e
theorem Km:jX oLt:=fun x y C z=>by unfold oLt at z;split at z<;>cases z
theorem CJ:jX oLe:=fun x y C z=>by unfold oLe at z;split at z<;>cases z
theorem Px:jX oGt:=fun x y C z=>by unfold oGt at z;split at z<;>cases z
theorem Py:jX oGe:=fun x y C z=>by unfold oGe at z;split at z<;>cases z
theorem vC:OpR X (compareOp .Lt) (rD X oLt):=vB Lb fun dx dy d e=>by
 unfold oLt at e;split at e
 ·cases e;exact ⟨_,_,rfl,rfl,rfl⟩
 ·cases e
theorem je:OpR X (compareOp .LtE) (rD X oLe):=vB Lc fun dx dy d e=>by
 unfold oLe at e;split at e
 ·cases e;exact ⟨_,_,rfl,rfl,rfl⟩
 ·cases e
theorem Ey:OpR X (compareOp .Gt) (rD X oGt):=vB Ld fun dx dy d e=>by
 unfold oGt at e;split at e
 ·cases e;exact ⟨_,_,rfl,rfl,rfl⟩
 ·cases e
theorem Ez:OpR X (compareOp .GtE) (rD X oGe):=vB Le fun dx dy d e=>by
 unfold oGe at e;split at e
 ·cases e;exact ⟨_,_,rfl,rfl,rfl⟩
 ·cases e
end
section
variable {X:Cx} {pos:Pos} {a b c e:Expr} {ga gb gc g:E}
theorem az (ha:SE X a ga) (hb:SE X b gb):SE X (.BinOp a .Add b pos) (EV.bin aX ga gb):=p6 Lr Gv ha hb
theorem aQ (ha:SE X a ga) (hb:SE X b gb):SE X (.BinOp a .Sub b pos) (EV.bin cM ga gb):=p6 Lh Gj ha hb
theorem bp (ha:SE X a ga) (hb:SE X b gb):SE X (.BinOp a .Mult b pos) (EV.bin dY ga gb):=p6 Lk Gp ha hb
theorem hW (ha:SE X a ga) (hb:SE X b gb):SE X (.BinOp a .FloorDiv b pos) (EV.bin oDiv ga gb):=p6 Ln Gr ha hb
theorem cP (ha:SE X a ga) (hb:SE X b gb):SE X (.BinOp a .Mod b pos) (EV.bin oMod ga gb):=p6 Ll Gq ha hb
theorem aZ (ha:SE X a ga) (hb:SE X b gb):SE X (.BinOp a .LShift b pos) (EV.bin cO ga gb):=p6 Lj Gm ha hb
theorem LD (ha:SE X a ga) (hb:SE X b gb):SE X (.BinOp a .RShift b pos) (EV.bin EB ga gb):=p6 Li Gk ha hb
theorem Bn (ha:SE X a ga) (hb:SE X b gb):SE X (.BinOp a .BitAnd b pos) (EV.bin mh ga gb):=p6 Jr CG ha hb
theorem JV (ha:SE X a ga) (hb:SE X b gb):SE X (.Compare a [.Lt] [b] pos) (EV.bin oLt ga gb):=yo Km vC ha hb (gn _)
theorem PZ (ha:SE X a ga) (hb:SE X b gb):SE X (.Compare a [.Gt] [b] pos) (EV.bin oGt ga gb):=yo Px Ey ha hb (gn _)
theorem LF (ha:SE X a ga) (hb:SE X b gb):SE X (.Compare a [.GtE] [b] pos) (EV.bin oGe ga gb):=yo Py Ez ha hb (gn _)
theorem zE (ha:SE X a ga) (hb:SE X b gb):ST X (.Compare a [.Lt] [b] pos) (EV.bin oLt ga gb):=qE Km vC ha hb (gn _)
theorem Qj (ha:SE X a ga) (hb:SE X b gb):ST X (.Compare a [.LtE] [b] pos) (EV.bin oLe ga gb):=qE CJ je ha hb (gn _)
theorem tH (ha:SE X a ga) (hb:SE X b gb):ST X (.Compare a [.Gt] [b] pos) (EV.bin oGt ga gb):=qE Px Ey ha hb (gn _)
theorem zF (ha:SE X a ga) (hb:SE X b gb):ST X (.Compare a [.GtE] [b] pos) (EV.bin oGe ga gb):=qE Py Ez ha hb (gn _)
theorem hV (ha:SE X a ga):SE X (.UnaryOp .USub a pos) (un lA ga) :=
 PE.weak (K3 HG ha) fun σ H Q ⟨δ,hσ,h⟩=>⟨δ,hσ,(RQ.bind h).to fun v H1 s1 ⟨_,d,r,q⟩=>by
  unfold lA at q
  split at q
  ·cases r;exact ⟨_,rfl,q _ _ (aw.refl _) (.int _)⟩
  ·exact False.elim q⟩
end
end ES
namespace ES
open PySem PySem.Spec PyProof.Rows L2 EV
unseal SE ST SW SA
mutual
noncomputable def py:D->PyData
 | .non=>.none
 | .bl b=>.bool b
 | .int i=>.int i
 | .str x=>.str x
 | .tup ds=>.tuple (pys ds)
 | .lst ds=>.list (pys ds)
 | _=>.dict []
noncomputable def pys:List D->List PyData
 | []=>[]
 | d::r=>py d::pys r
end
section
variable {X:Cx} {pins:List (Addr×Obj)} {σ:L2.St} {H:Hp} {s:Shared}
mutual
theorem pK (I:Inv X pins σ H s):∀ {v:V} {d:D} {u:Value},(py d).canLay0=true->Rep X.K X.mg H v d->RelV v u->∃ as,Reads s.heap u (py d) as
 | _,_,u,_,.non,r=>by cases r;exact ⟨_,.none⟩
 | _,_,u,_,.bl b,r=>by cases r;exact ⟨_,.bool b⟩
 | _,_,u,_,.int i,r=>by obtain ⟨t,rfl⟩:=r;exact ⟨_,.int i t⟩
 | _,_,u,_,.str x,r=>by obtain ⟨t,rfl⟩:=r;exact ⟨_,.str x t⟩
 | _,.tup ds,u,hc,.tup hq rs,r=>by
  cases r
  obtain ⟨its,rv,⟨o,h1,h2,n,h3⟩,_⟩:=I.tuple hq
  obtain ⟨as,ra⟩:=iS I (by simpa [py,PyData.canLay0] using hc) rs rv
  exact ⟨_,.tuple h1 h2 h3 (by simpa using ra)⟩
 | _,.lst ds,u,hc,.lst hq rs,r=>by
  cases r
  obtain ⟨its,rv,⟨o,n,h1,h2,_,h3⟩,_⟩:=I.list hq
  obtain ⟨as,ra⟩:=iS I (by simpa [py,PyData.canLay0] using hc) rs rv
  exact ⟨_,.list h1 h2 h3 (by simpa using ra)⟩
 | _,.ty n,u,hc,_,_=>by simp [py,PyData.canLay0] at hc
 | _,.cls a,u,hc,_,_=>by simp [py,PyData.canLay0] at hc
 | _,.exc a,u,hc,_,_=>by simp [py,PyData.canLay0] at hc
 | _,.ins a b,u,hc,_,_=>by simp [py,PyData.canLay0] at hc
theorem iS (I:Inv X pins σ H s):∀ {vs:List V} {ds:List D} {us:List Value},PyData.canLayAll0 (pys ds)=true->Reps X.K X.mg H vs ds->Vals vs us->∃ as,ReadsAll s.heap us (pys ds) as
 | _,_,_,_,.nil,r=>by cases r;exact ⟨_,.nil⟩
 | _,dd::dr,_,hc,.cons r t,q=>by
  cases q with
  | cons q1 q2 =>
   have hc':PyData.canLay0 (py dd)=true/\PyData.canLayAll0 (pys dr)=true:=by simpa [pys,PyData.canLayAll0] using hc
   obtain ⟨a1,r1⟩:=pK I hc'.1 r q1
   obtain ⟨a2,r2⟩:=iS I hc'.2 t q2
   exact ⟨_,.cons r1 r2⟩
end
end
mutual
theorem Ai:∀ (n:Nat) (d:D),D.pl n d=true->(py d).canLay0=true/\(py d).depth<=n
 | _,.non,_=>⟨rfl,Nat.zero_le _⟩
 | _,.bl _,_=>⟨rfl,Nat.zero_le _⟩
 | _,.int _,_=>⟨rfl,Nat.zero_le _⟩
 | _,.str x,h=>⟨by simpa [py,PyData.canLay0,PyData.strOk,D.pl] using h,Nat.zero_le _⟩
 | 0,.tup _,h=>by simp [D.pl] at h
 | 0,.lst _,h=>by simp [D.pl] at h
 | n+1,.tup ds,h=>by
  have z:=tY n ds (by simpa [D.pl] using h)
  exact ⟨by simpa [py,PyData.canLay0] using z.1,by simp only [py,PyData.depth];omega⟩
 | n+1,.lst ds,h=>by
  have z:=tY n ds (by simpa [D.pl] using h)
  exact ⟨by simpa [py,PyData.canLay0] using z.1,by simp only [py,PyData.depth];omega⟩
 | n,.own _,h=>by cases n<;>simp [D.pl] at h
 | n,.ty _,h=>by cases n<;>simp [D.pl] at h
 | n,.cls _,h=>by cases n<;>simp [D.pl] at h
 | n,.exc _,h=>by cases n<;>simp [D.pl] at h
 | n,.ins _ _,h=>by cases n<;>simp [D.pl] at h
theorem tY:∀ (n:Nat) (ds:List D),(∀ d∈ds,D.pl n d=true)->PyData.canLayAll0 (pys ds)=true/\PyData.depthAll (pys ds)<=n
 | _,[],_=>⟨rfl,Nat.zero_le _⟩
 | n,d::r,h=>by
  have z1:=Ai n d (h d (.head _))
  have z2:=tY n r (fun x hx=>h x (.tail _ hx))
  exact ⟨by simp [pys,PyData.canLayAll0,z1.1,z2.1],by simp only [pys,PyData.depthAll];omega⟩
end
mutual
theorem BB:∀ (n:Nat) (a b:D),D.pl n a=true->D.pl n b=true->D.beq a b=PyData.eqv (py a) (py b)
 | n,a,b,ha,hb=>by
  cases a<;>cases b<;>first
   | rfl
   | (cases n<;>simp [D.pl] at ha;done)
   | (cases n<;>simp [D.pl] at hb;done)
   | skip
  all_goals cases n with
   | zero=>simp [D.pl] at ha
   | succ n =>
    simp only [D.beq,py,PyData.eqv]
    exact xa n _ _ (by simpa [D.pl] using ha) (by simpa [D.pl] using hb)
theorem xa:∀ (n:Nat) (as bs:List D),(∀ d∈as,D.pl n d=true)->(∀ d∈bs,D.pl n d=true)->D.beqs as bs=PyData.eqvAll (pys as) (pys bs)
 | _,[],[],_,_=>rfl
 | _,[],_::_,_,_=>rfl
 | _,_::_,[],_,_=>rfl
 | n,a::as,b::bs,ha,hb=>by
  simp only [D.beqs,pys,PyData.eqvAll]
  rw [BB n a b (ha a (.head _)) (hb b (.head _)),xa n as bs (fun x hx=>ha x (.tail _ hx)) (fun x hx=>hb x (.tail _ hx))]
end
section
variable {X:Cx}
theorem Pz:jX oEq:=fun x y C z=>by unfold oEq at z;exact dF z
theorem Pu:jX oNe:=fun x y C z=>by unfold oNe at z;exact dF z
theorem LM {H:Hp} {x y:V} {dx dy:D} (r1:Rep X.K X.mg H x dx) (r2:Rep X.K X.mg H y dy) (sx:dx.sc=true) (sy:dy.sc=true) (n:Kk x y=true):decide (x=y)=D.beq dx dy:=by
 cases r1<;>cases sx<;>cases r2<;>cases sy<;>first
  | exact absurd (show false=true from n) Bool.false_ne_true
  | exact ur
  | exact Br
  | exact uq
  | (simp [D.beq];done)
theorem Bj (n:Bool) (hu:X.A.units+64<cLine) {pins:List (Addr×Obj)} {s:Shared} {σ:L2.St} {H:Hp} {x y:V} {v u:Value} {Q:VK} (I:Inv X pins σ H s) (rx:RelV x v) (ry:RelV y u) {dx dy:D} (r1:Rep X.K X.mg H x dx) (r2:Rep X.K X.mg H y dy)
  (hc:D.cmp dx dy=true) (q:Q (.bl (xor n (D.beq dx dy))) H):wpAny (model X.prog X.w) X.A (compareOp (if n then .NotEq else .Eq) v u) (EP X pins σ Q) X.xe s:=by
 unfold D.cmp at hc
 by_cases hp:(D.pl 8 dx&&D.pl 8 dy)=true
 ·rw [Bool.and_eq_true] at hp
  obtain ⟨l1,d1⟩:=Ai 8 dx hp.1
  obtain ⟨l2,d2⟩:=Ai 8 dy hp.2
  obtain ⟨as,ra⟩:=pK I l1 r1 rx
  obtain ⟨bs,rb⟩:=pK I l2 r2 ry
  have e:=BB 8 dx dy hp.1 hp.2
  cases n with
  | false =>
   refine (SeqAt.rcAt_reads ra rb l1 l2 (by omega) X.prog X.w X.xe _ ?_:wpAny (model X.prog X.w) X.A (compareOp .Eq v u) _ _ _)
   exact aN I q (by rw [Bool.false_xor,e])
  | true =>
   refine (SeqAt.rcNeAt_reads ra rb l1 l2 (by omega) X.prog X.w X.xe _ ?_:wpAny (model X.prog X.w) X.A (compareOp .NotEq v u) _ _ _)
   exact aN I q (by rw [Bool.true_xor,e])
 ·have hs:(dx.sc&&dy.sc)=true:=by
   rw [Bool.or_eq_true] at hc
   exact hc.resolve_right hp
  rw [Bool.and_eq_true] at hs
  have hsc:Kk x y=true:=by
   cases r1<;>cases (hs.1)<;>cases r2<;>cases (hs.2)<;>first | rfl | exact absurd rfl hp
  have e:=LM r1 r2 hs.1 hs.2 hsc
  cases n with
  | false=>exact Lf pins s σ H x y v u Q I rx ry ⟨hsc,by rw [e];rw [Bool.false_xor] at q;exact q⟩
  | true=>exact La pins s σ H x y v u Q I rx ry ⟨hsc,by rw [e];rw [Bool.true_xor] at q;exact q⟩
theorem EA (hu:X.A.units+64<cLine):OpR X (compareOp .Eq) (rD X oEq):=by
 intro pins s σ H x y v u Q I rx ry ⟨dx,dy,d,r1,r2,e,q⟩
 unfold oEq at e
 split at e
 ·rename_i hc
  cases e
  exact Bj false hu I rx ry r1 r2 hc (by rw [Bool.false_xor];exact q _ _ (aw.refl _) (.bl _))
 ·cases e
theorem Ew (hu:X.A.units+64<cLine):OpR X (compareOp .NotEq) (rD X oNe):=by
 intro pins s σ H x y v u Q I rx ry ⟨dx,dy,d,r1,r2,e,q⟩
 unfold oNe at e
 split at e
 ·rename_i hc
  cases e
  exact Bj true hu I rx ry r1 r2 hc (by rw [Bool.true_xor];exact q _ _ (aw.refl _) (.bl _))
 ·cases e
theorem pD {H:Hp} {x:V} {d:D} (r:Rep X.K X.mg H x d) (h:d.sc=true):nO x=true:=by cases r<;>first | rfl | cases h
theorem lV {H:Hp}:∀ {xs:List V} {ds:List D},Reps X.K X.mg H xs ds->ds.all D.sc=true->xs.all nO=true
 | _,_,.nil,_=>rfl
 | _,_,.cons r t,h=>by
  rw [List.all_cons,Bool.and_eq_true] at h
  rw [List.all_cons,pD r h.1,lV t h.2];rfl
theorem G5 {H:Hp} {x y:V} {dx dy:D} (r1:Rep X.K X.mg H x dx) (r2:Rep X.K X.mg H y dy) (sx:dx.sc=true) (sy:dy.sc=true):eqV x y=D.beq dx dy:=by
 cases r1<;>cases sx<;>cases r2<;>cases sy<;>rfl
theorem A6 {H:Hp} {x:V} {dx:D} (r:Rep X.K X.mg H x dx) (sx:dx.sc=true):∀ {xs:List V} {ds:List D},Reps X.K X.mg H xs ds->ds.all D.sc=true->inV x xs=ds.any fun y=>D.beq y dx
 | _,_,.nil,_=>rfl
 | _,_,.cons r' t,h=>by
  rw [List.all_cons,Bool.and_eq_true] at h
  unfold inV
  rw [List.any_cons,List.any_cons,G5 r' r h.1 sx]
  exact congrArg _ (A6 r sx t h.2)
theorem A5 (neg:Bool) {pins:List (Addr×Obj)} {s:Shared} {σ:L2.St} {H:Hp} {x y:V} {v u:Value} {Q:VK} (I:Inv X pins σ H s) (rx:RelV x v) (ry:RelV y u) {dx dy:D} (r1:Rep X.K X.mg H x dx) (r2:Rep X.K X.mg H y dy) {k:Bool}
  (hc:oIn dx dy=.ok (.bl k)) (q:Q (.bl (xor neg k)) H):wpAny (model X.prog X.w) X.A (compareOp (if neg then .NotIn else .In) v u) (EP X pins σ Q) X.xe s:=by
 have seq:∀ {p:Addr} {xs:List V} {ds:List D},y=.ref p->(SqL X.K H p xs\/SqT X.K H p xs)->Reps X.K X.mg H xs ds->isIn dx ds=some k->wpAny (model X.prog X.w) X.A (compareOp (if neg then .NotIn else .In) v u) (EP X pins σ Q) X.xe s:=fun {p xs ds} ey hq rs hi=>by
  subst ey
  unfold isIn at hi
  split at hi
  ·rename_i hs
   rw [Bool.and_eq_true] at hs
   cases hi
   have e:=A6 r1 hs.1 rs hs.2
   cases neg with
   | false=>exact Ar pins s σ H _ _ v u Q I rx ry ⟨p,xs,rfl,hq,pD r1 hs.1,lV rs hs.2,by rw [if_neg (by decide),e];rw [Bool.false_xor] at q;exact q⟩
   | true=>exact qT pins s σ H _ _ v u Q I rx ry ⟨p,xs,rfl,hq,pD r1 hs.1,lV rs hs.2,by rw [if_pos rfl,e];rw [Bool.true_xor] at q;exact q⟩
  ·cases hi
 have hseq:∀ {ds:List D},(match isIn dx ds with | some k=>R.ok (D.bl k) | none=>R.bad)=.ok (.bl k)->isIn dx ds=some k:=fun {ds} h=>by
  cases e:isIn dx ds with
  | none=>rw [e] at h;cases h
  | some k'=>rw [e] at h;cases h;rfl
 cases r2 with
 | tup hq rs=>exact seq rfl (.inr hq) rs (hseq (by cases dx<;>exact hc))
 | lst hq rs=>exact seq rfl (.inl hq) rs (hseq (by cases dx<;>exact hc))
 | str b =>
  cases r1 with
  | str a =>
   obtain ⟨⟨l⟩⟩:=a
   cases l with
   | nil=>cases hc
   | cons c t =>
    cases t with
    | cons _ _=>cases hc
    | nil =>
     cases hc
     have e:=empty_one b c
     cases neg with
     | false=>exact Aq pins s σ H _ _ v u Q I rx ry ⟨_,_,rfl,rfl,by rw [e,Bool.not_not];rw [Bool.false_xor] at q;exact q⟩
     | true=>exact qS pins s σ H _ _ v u Q I rx ry ⟨_,_,rfl,rfl,by rw [e,Bool.not_not];rw [Bool.true_xor] at q;exact q⟩
  | _=>cases hc
 | _=>cases dx<;>cases hc
theorem vU {a b:D}:(∃ k,oIn a b=.ok (.bl k))\/oIn a b=.bad:=by
 unfold oIn
 split<;>first
  | exact .inr rfl
  | (split<;>first | exact .inl ⟨_,rfl⟩ | exact .inr rfl)
theorem Pw:jX oIn:=fun x y C z=>by rcases vU (a:=x) (b:=y) with ⟨k,e⟩ | e<;>rw [e] at z<;>cases z
theorem Gz:jX eR:=fun x y C z=>by unfold eR at z;rcases vU (a:=x) (b:=y) with ⟨k,e⟩ | e<;>rw [e] at z<;>cases z
theorem Ex:OpR X (compareOp .In) (rD X oIn):=by
 intro pins s σ H x y v u Q I rx ry ⟨dx,dy,d,r1,r2,e,q⟩
 rcases vU (a:=dx) (b:=dy) with ⟨k,e'⟩ | e'<;>rw [e'] at e<;>cases e
 exact A5 false I rx ry r1 r2 e' (by rw [Bool.false_xor];exact q _ _ (aw.refl _) (.bl _))
theorem Ap:OpR X (compareOp .NotIn) (rD X eR):=by
 intro pins s σ H x y v u Q I rx ry ⟨dx,dy,d,r1,r2,e,q⟩
 unfold eR at e
 rcases vU (a:=dx) (b:=dy) with ⟨k,e'⟩ | e'<;>rw [e'] at e<;>cases e
 exact A5 true I rx ry r1 r2 e' (by rw [Bool.true_xor];exact q _ _ (aw.refl _) (.bl _))
end
section
variable {X:Cx} {pos:Pos} {a b c e:Expr} {ga gb gc g:E} {k:Nat}
theorem iC (hu:Room k X.A) (ha:SE X a ga) (hb:SE X b gb):SE X (.Compare a [.Eq] [b] pos) (EV.bin oEq ga gb):=yo Pz (EA hu.units) ha hb (gn _)
theorem Ko (hu:Room k X.A) (ha:SE X a ga) (hb:SE X b gb):SE X (.Compare a [.NotEq] [b] pos) (EV.bin oNe ga gb):=yo Pu (Ew hu.units) ha hb (gn _)
theorem cQ (hu:Room k X.A) (ha:SE X a ga) (hb:SE X b gb):ST X (.Compare a [.Eq] [b] pos) (EV.bin oEq ga gb):=qE Pz (EA hu.units) ha hb (gn _)
theorem Ig (hu:Room k X.A) (ha:SE X a ga) (hb:SE X b gb):ST X (.Compare a [.NotEq] [b] pos) (EV.bin oNe ga gb):=qE Pu (Ew hu.units) ha hb (gn _)
theorem SF (ha:SE X a ga) (hb:SE X b gb) (hm:behindInMarks .In b=false:=by rfl):SE X (.Compare a [.In] [b] pos) (EV.bin oIn ga gb):=yo Pw Ex ha hb hm
theorem Qk (ha:SE X a ga) (hb:SE X b gb) (hm:behindInMarks .In b=false:=by rfl):ST X (.Compare a [.In] [b] pos) (EV.bin oIn ga gb):=qE Pw Ex ha hb hm
theorem zD (ha:SE X a ga) (hb:SE X b gb) (hm:behindInMarks .NotIn b=false:=by rfl):ST X (.Compare a [.NotIn] [b] pos) (EV.bin eR ga gb):=qE Gz Ap ha hb hm
theorem JG {H:Hp} {v:V} {d:D} (r:Rep X.K X.mg H v d):AE d=.ok (.bl (decide (v=.non)))/\t9 d=.ok (.bl (!decide (v=.non))):=by
 cases r<;>exact ⟨rfl,rfl⟩
theorem JF {σ:L2.St} {H:Hp} {Q:VK} (h:tE X (un AE ga) σ H Q):tE X ga σ H fun x H1=>tE X (con .non) σ H1 fun y H2=>y=.non/\Q (.bl (decide (x=.non))) H2:=by
 obtain ⟨δ,hσ,h⟩:=h
 refine ⟨δ,hσ,(RQ.bind h).to fun x H1 s1 ⟨_,d,r,q⟩=>⟨δ,hσ.mono s1,fun v H2 s2 r2 => ?_⟩⟩
 cases r2
 rw [(JG r).1] at q
 exact ⟨rfl,q _ _ s2 (.bl _)⟩
theorem pe {σ:L2.St} {H:Hp} {Q:Bool->Hp->Prop} (h:tT X g σ H Q):tE X g σ H fun v H'=>∃ k,v=.bl k/\Q k H':=by
 obtain ⟨δ,hσ,h⟩:=h
 refine ⟨δ,hσ,?_⟩
 cases q:g δ with
 | ok d =>
  rw [q] at h
  cases d with
  | bl k=>exact fun v H' s r=>by cases r;exact ⟨k,rfl,h H' s⟩
  | _=>exact False.elim h
 | ex C=>rw [q] at h;exact h
 | bad=>rw [q] at h;exact False.elim h
theorem KG {j:Nat} {p2:Pos} (ha:SE X a ga):ST X (.Compare a [.Is] [.Constant .none j p2] pos) (un AE ga):=PT.weak (Af Jm ha G8 (gn _)) fun σ H Q h=>JF (pe h)
theorem cN (h:SE X e g) (he:∀ whole,isTrue e X.env whole=(do let v<-whole;standAt e.pos;holding [v] (truthy v)):=by intro _;rfl):ST X e g:=PT.weak (II h he) fun σ H Q q=>pe q
theorem RT.truth {σ:L2.St} {H:Hp} {r:R D} {t f:R D} {Q:Bool->Hp->Prop} (h:RT X σ H (r.bind fun d=>truth d t f) Q):RT X σ H r fun k H'=>aw H H'/\if k=true then RT X σ H' t Q else RT X σ H' f Q:=by
 cases r with
 | ok d =>
  cases d with
  | bl k =>
   cases k with
   | true=>exact fun H' s=>⟨s,Hw (RT.mono s h)⟩
   | false=>exact fun H' s=>⟨s,Hx (RT.mono s h)⟩
  | _=>exact False.elim h
 | ex C=>exact h
 | bad=>exact False.elim h
theorem RT.to {σ:L2.St} {H:Hp} {r:R D} {Q Q':Bool->Hp->Prop} (h:RT X σ H r Q) (g:∀ k H',aw H H'->Q k H'->Q' k H'):RT X σ H r Q':=by
 cases r with
 | ok d =>
  cases d with
  | bl k=>exact fun H' s=>g k H' s (h H' s)
  | _=>exact False.elim h
 | ex C=>exact h
 | bad=>exact False.elim h
theorem RQ.truthT {σ:L2.St} {H:Hp} {r:R D} {t f:R D} {Q:VK} (h:RQ X σ H (r.bind fun d=>truth d t f) Q):RT X σ H r fun k H'=>aw H H'/\if k=true then RQ X σ H' t Q else RQ X σ H' f Q:=by
 cases r with
 | ok d =>
  cases d with
  | bl k =>
   cases k with
   | true=>exact fun H' s=>⟨s,Hw (RQ.mono s h)⟩
   | false=>exact fun H' s=>⟨s,Hx (RQ.mono s h)⟩
  | _=>exact False.elim h
 | ex C=>exact h
 | bad=>exact False.elim h
theorem RQ.truth {σ:L2.St} {H:Hp} {r:R D} {t f:R D} {Q:VK} (h:RQ X σ H (r.bind fun d=>truth d t f) Q):RQ X σ H r fun v H'=>∃ k,v=.bl k/\if k=true then RQ X σ H' t Q else RQ X σ H' f Q:=by
 cases r with
 | ok d =>
  cases d with
  | bl k =>
   cases k with
   | true=>exact fun v H' s r=>by cases r;exact ⟨true,rfl,Hw (RQ.mono s h)⟩
   | false=>exact fun v H' s r=>by cases r;exact ⟨false,rfl,Hx (RQ.mono s h)⟩
  | _=>exact False.elim h
 | ex C=>exact h
 | bad=>exact False.elim h
theorem mx {k:Bool} {A B A' B':Prop} (h:if k=true then A else B) (f:A->A') (g:B->B'):if k=true then A' else B':=by
 cases k with
 | true=>exact Hw (f (by simpa using h))
 | false=>exact Hx (g (by simpa using h))
theorem gL (h:ST X a ga):ST X (.UnaryOp .Not a pos) (iA ga):=PT.weak (IJ h) fun σ H Q ⟨δ,hσ,q⟩=>⟨δ,hσ,(RT.truth q).to fun k H' s ⟨_,z⟩=>by
 cases k with
 | true=>exact (show RT X σ H' (.ok (.bl false)) Q by simpa using z) H' (aw.refl _)
 | false=>exact (show RT X σ H' (.ok (.bl true)) Q by simpa using z) H' (aw.refl _)⟩
theorem t_w (h:SW X e g):ST X e g:=PW.pt h
theorem j5 (h:ST X a ga):SW X (.BoolOp .And [a] pos) ga:=F0 h
theorem lP (h:ST X a ga):SW X (.BoolOp .Or [a] pos) ga:=ID h
theorem w_and {rest:List Expr} (h:ST X a ga) (hb:SW X (.BoolOp .And (b::rest) pos) gb):SW X (.BoolOp .And (a::b::rest) pos) (bQ ga gb) :=
 PW.weak (IE h hb) fun σ H Q ⟨δ,hσ,q⟩=>⟨δ,hσ,(RT.truth q).to fun k H' s ⟨_,z⟩=>mx z (fun z=>⟨δ,hσ.mono s,z⟩) (fun z=>z H' (aw.refl _))⟩
theorem w_or {rest:List Expr} (h:ST X a ga) (hb:SW X (.BoolOp .Or (b::rest) pos) gb):SW X (.BoolOp .Or (a::b::rest) pos) (or_ ga gb) :=
 PW.weak (K0 h hb) fun σ H Q ⟨δ,hσ,q⟩=>⟨δ,hσ,(RT.truth q).to fun k H' s ⟨_,z⟩=>mx z (fun z=>z H' (aw.refl _)) (fun z=>⟨δ,hσ.mono s,z⟩)⟩
theorem fA {op} (h:SE X a g):SE X (.BoolOp op [a] pos) g:=IW h
theorem gH {rest:List Expr} (h:SE X a ga) (hb:SE X (.BoolOp .And (b::rest) pos) gb):SE X (.BoolOp .And (a::b::rest) pos) (bQ ga gb) :=
 PE.weak (Jd h hb) fun σ H Q ⟨δ,hσ,q⟩=>⟨δ,hσ,(RQ.truth q).to fun v H' s ⟨k,e,z⟩=>⟨k,e,mx z (fun z=>⟨δ,hσ.mono s,z⟩) (fun z=>z _ H' (aw.refl _) (.bl _))⟩⟩
theorem E5 {rest:List Expr} (h:SE X a ga) (hb:SE X (.BoolOp .Or (b::rest) pos) gb):SE X (.BoolOp .Or (a::b::rest) pos) (or_ ga gb) :=
 PE.weak (K4 h hb) fun σ H Q ⟨δ,hσ,q⟩=>⟨δ,hσ,(RQ.truth q).to fun v H' s ⟨k,e,z⟩=>⟨k,e,mx z (fun z=>z _ H' (aw.refl _) (.bl _)) (fun z=>⟨δ,hσ.mono s,z⟩)⟩⟩
theorem G7 (h:SE X a ga):SE X (.UnaryOp .Not a pos) (iA ga):=PE.weak (IX h) fun σ H Q ⟨δ,hσ,q⟩=>⟨δ,hσ,(RQ.truth q).to fun v H' s ⟨k,e,z⟩=>⟨k,e,by
 cases k with
 | true=>exact (show RQ X σ H' (.ok (.bl false)) Q by simpa using z) _ H' (aw.refl _) (.bl _)
 | false=>exact (show RQ X σ H' (.ok (.bl true)) Q by simpa using z) _ H' (aw.refl _) (.bl _)⟩⟩
theorem wQ (h:ST X c gc) (ha:SE X a ga) (hb:SE X b gb):SE X (.IfExp c a b pos) (ife gc ga gb) :=
 PE.weak (Cy h ha hb) fun σ H Q ⟨δ,hσ,q⟩=>⟨δ,hσ,(RQ.truthT q).to fun k H' s ⟨_,z⟩=>mx z (fun z=>⟨δ,hσ.mono s,z⟩) (fun z=>⟨δ,hσ.mono s,z⟩)⟩
theorem Ha {op op':CmpOp} {f f':D->D->R D} (nx:jX f) (nx':jX f') (ho:OpR X (compareOp op) (rD X f)) (ho':OpR X (compareOp op') (rD X f')) (ha:SE X a ga) (hb:SE X b gb) (hc:SE X c gc)
  (hm:lastMarks [op,op'] [b,c]=false:=by with_unfolding_all rfl):SE X (.Compare a [op,op'] [b,c] pos) (chain f f' ga gb gc):=by
 refine PE.weak (Cz ho ho' ha hb hc hm) fun σ H Q ⟨δ,hσ,q⟩ => ?_
 refine ⟨δ,hσ,(RQ.bind q).to fun x H1 s1 ⟨_,dx,r1,q1⟩=>⟨δ,hσ.mono s1,(RQ.bind q1).to fun y H2 s2 ⟨_,dy,r2,q2⟩ => ?_⟩⟩
 have q3:=RQ.truth q2
 refine RQ.op nx (r1.mono s2) r2 (q3.to fun v H3 s3 ⟨k,e,z⟩=>⟨k,e,mx z (fun z=>⟨δ,((hσ.mono s1).mono s2).mono s3,(RQ.bind z).to fun w H4 s4 ⟨_,dw,r4,q4⟩ => ?_⟩) (fun z=>z _ H3 (aw.refl _) (.bl _))⟩)
 exact RQ.op nx' ((r2.mono s3).mono s4) r4 q4
theorem oZ {op op':CmpOp} {f f':D->D->R D} (nx:jX f) (nx':jX f') (ho:OpR X (compareOp op) (rD X f)) (ho':OpR X (compareOp op') (rD X f')) (ha:SE X a ga) (hb:SE X b gb) (hc:SE X c gc)
  (hm:lastMarks [op,op'] [b,c]=false:=by with_unfolding_all rfl):ST X (.Compare a [op,op'] [b,c] pos) (chain f f' ga gb gc):=by
 refine PT.weak (Ct ho ho' ha hb hc hm) fun σ H Q h => ?_
 obtain ⟨δ,hσ,q⟩:=pe h
 refine ⟨δ,hσ,(RQ.bind q).to fun x H1 s1 ⟨_,dx,r1,q1⟩=>⟨δ,hσ.mono s1,(RQ.bind q1).to fun y H2 s2 ⟨_,dy,r2,q2⟩ => ?_⟩⟩
 have q3:=RQ.truth q2
 refine RQ.op nx (r1.mono s2) r2 (q3.to fun v H3 s3 ⟨k,e,z⟩=>⟨k,e,mx z (fun z=>⟨δ,((hσ.mono s1).mono s2).mono s3,(RQ.bind z).to fun w H4 s4 ⟨_,dw,r4,q4⟩ => ?_⟩) (fun z=>z _ H3 (aw.refl _) (.bl _))⟩)
 exact RQ.op nx' ((r2.mono s3).mono s4) r4 q4
theorem gI:SA X [] []:=PA.weak An fun σ H Q ⟨δ,hσ,h⟩=>h [] H (aw.refl H) .nil
theorem RA.cons {σ:L2.St} {H:Hp} {δ:Dt} {g:E} {gs:List E} {Q:List V->Hp->Prop} (h:RA X σ H (evs (g::gs) δ) Q):RQ X σ H (g δ) fun v H1=>RA X σ H1 (evs gs δ) fun vs H2=>aw H1 H2->∀ d,Rep X.K X.mg H1 v d->Q (v::vs) H2:=by
 unfold evs at h
 cases q:g δ with
 | ok d =>
  rw [q] at h
  refine fun v H1 s1 r1 => ?_
  simp only [R.bind] at h
  cases q2:evs gs δ with
  | ok ds =>
   rw [q2] at h
   exact fun vs H2 s2 rs s2' d' r'=>h (v::vs) H2 (s1.trans s2) (.cons (r1.mono s2) rs)
  | ex C=>rw [q2] at h;exact fun Ca hc H' s'=>h Ca hc H' (s1.trans s')
  | bad=>rw [q2] at h;exact h
 | ex C=>rw [q] at h;exact h
 | bad=>rw [q] at h;exact h
theorem RA.to {σ:L2.St} {H:Hp} {r:R (List D)} {Q Q':List V->Hp->Prop} (h:RA X σ H r Q) (g:∀ v H',aw H H'->Q v H'->Q' v H'):RA X σ H r Q':=by
 cases r with
 | ok d=>exact fun v H' s r=>g v H' s (h v H' s r)
 | ex C=>exact h
 | bad=>exact h
theorem aj {es:List Expr} {gs:List E} (ha:SE X e g) (hr:SA X es gs) (hs:starEach (e::es) X.env=(false,eval e X.env)::starEach es X.env:=by rfl):SA X (e::es) (g::gs) :=
 PA.weak (t6 ha hr hs) fun σ H Q ⟨δ,hσ,h⟩=>by
  refine ⟨δ,hσ,?_⟩
  cases q:g δ with
  | ok d =>
   have h':=RA.cons h
   rw [q] at h'
   exact fun v H1 s1 r1=>⟨δ,hσ.mono s1,(h' v H1 s1 r1).to fun vs H2 s2 z=>z s2 d r1⟩
  | ex C =>
   have h':=RA.cons h
   rw [q] at h'
   exact h'
  | bad =>
   have h':=RA.cons h
   rw [q] at h'
   exact h'
theorem cI {es:List Expr} {gs:List E} {x1} (h:SA X es gs) (hl:es.length<=1000) (hg:gs.length=es.length:=by rfl):SE X (.Tuple es x1 pos) (iP gs) :=
 PE.weak (IV h) fun σ H Q ⟨δ,hσ,q⟩=>⟨δ,hσ,by
  have q':=RA.bind q
  cases e:evs gs δ with
  | ok ds =>
   have hd:ds.length=gs.length:=evs_len e
   rw [e] at q'
   refine fun vs H1 s1 rs => ?_
   obtain ⟨_,ds',rs',q2⟩:=q' vs H1 s1 rs
   refine ⟨by rw [rs.length,hd,hg];exact Nat.le_of_lt (lT hl),fun p hp=>q2 _ _ (a9 hp _) (.tup (SqT.of bG) (rs'.mono (a9 hp _)))⟩
  | ex C=>rw [e] at q';exact q'
  | bad=>rw [e] at q';exact q'⟩
where
 evs_len {δ:Dt}:∀ {gs:List E} {ds:List D},evs gs δ=.ok ds->ds.length=gs.length
  | [],ds,e=>by cases e;rfl
  | g::gs,ds,e=>by
   unfold evs at e
   cases q:g δ with
   | ok d =>
    rw [q] at e
    simp only [R.bind] at e
    cases q2:evs gs δ with
    | ok ds'=>rw [q2] at e;cases e;simp [evs_len q2]
    | ex C=>rw [q2] at e;cases e
    | bad=>rw [q2] at e;cases e
   | ex C=>rw [q] at e;cases e
   | bad=>rw [q] at e;cases e
theorem p5 {es:List Expr} {gs:List E} (h:SA X es gs) (hl:es.length<=1000) (hg:gs.length=es.length:=by rfl):SE X (.List es pos) (AQ gs) :=
 PE.weak (IZ h) fun σ H Q ⟨δ,hσ,q⟩=>⟨δ,hσ,by
  have q':=RA.bind q
  cases e:evs gs δ with
  | ok ds =>
   have hd:ds.length=gs.length:=cI.evs_len e
   rw [e] at q'
   refine fun vs H1 s1 rs => ?_
   obtain ⟨_,ds',rs',q2⟩:=q' vs H1 s1 rs
   refine ⟨by rw [rs.length,hd,hg];exact Nat.le_of_lt (lT hl),fun p hp=>q2 _ _ (a9 hp _) (.lst (SqL.of bG) (rs'.mono (a9 hp _)))⟩
  | ex C=>rw [e] at q';exact q'
  | bad=>rw [e] at q';exact q'⟩
theorem R6:jX oIx:=fun x y C z=>by
 unfold oIx at z
 split at z
 ·split at z<;>cases z
 ·split at z<;>cases z
 ·split at z
  ·split at z<;>cases z
  ·cases z
 ·cases z
theorem xl {H:Hp} {xs:List V} {ds:List D} {i:Int} {d:D} (rs:Reps X.K X.mg H xs ds) (h:((EV.ixN ds.length i).bind fun j=>ds[j]?)=some d):∃ v,atI xs i=some v/\Rep X.K X.mg H v d:=by
 have el:=rs.length
 cases q:EV.ixN ds.length i with
 | none=>rw [q] at h;cases h
 | some j =>
  rw [q] at h
  obtain ⟨v,h1,h2⟩:=rs.get h
  refine ⟨v,?_,h2⟩
  unfold atI
  rw [el,show L2.ixN ds.length i=some j from q]
  exact h1
theorem Sn:IxR X (rD X oIx):=by
 intro value slice pins s σ H x y v u Q I rx ry ⟨dx,dy,d,r1,r2,e,q⟩ hs
 unfold oIx at e
 split at e
 ·split at e
  ·rename_i h
   cases e;cases r1;cases r2
   rename_i a xs hq rs
   obtain ⟨w,h1,h2⟩:=xl rs h
   exact oz value slice pins s σ H _ _ v u Q I rx ry ⟨a,xs,_,w,rfl,rfl,hq,h1,q _ _ (aw.refl _) h2⟩ hs
  ·cases e
 ·split at e
  ·rename_i h
   cases e;cases r1;cases r2
   rename_i a xs hq rs
   obtain ⟨w,h1,h2⟩:=xl rs h
   exact GN value slice pins s σ H _ _ v u Q I rx ry ⟨a,xs,_,w,rfl,rfl,hq,h1,q _ _ (aw.refl _) h2⟩ hs
  ·cases e
 ·split at e
  ·rename_i hz
   split at e
   ·rename_i c h
    cases e;cases r1;cases r2
    refine EI value slice pins s σ H _ _ v u Q I rx ry ⟨_,_,c,rfl,rfl,Nat.le_trans hz (by rw [sizeLine_eq];decide),?_,q _ _ (aw.refl _) (.str _)⟩ hs
    exact h
   ·cases e
  ·cases e
 ·cases e
theorem E6 (ha:SE X a ga) (hb:SE X b gb) (hs:BW b:=by intro _ _;rfl):SE X (.Subscript a b pos) (EV.bin oIx ga gb) :=
 PE.weak (K6 Sn ha hb hs) fun σ H Q h=>by
  obtain ⟨δ,hσ,q⟩:=BA h
  refine ⟨δ,hσ,q.to fun x H1 s1 ⟨δ1,hσ1,q1⟩=>⟨δ1,hσ1,q1.to fun y H2 s2 ⟨dx,dy,r1,r2,q2⟩=>RQ.op R6 r1 r2 q2⟩⟩
end
end ES
namespace ES
open PySem PySem.Spec PyProof.Rows L2 EV
unseal SE ST SW SA
noncomputable abbrev Os:=List (Nat×Addr)
noncomputable def qj (os:Os):List Addr:=os.map (·.2)
noncomputable def hide (H:Hp) (os:Os):Hp:=fun a=>if a∈qj os then none else H a
theorem wB (H:Hp):hide H []=H:=by
 funext a
 unfold hide qj
 simp
theorem uh {H:Hp} {os:Os} {a:Addr} (h:a∈qj os):hide H os a=none:=if_pos h
theorem lC {H:Hp} {os:Os} {a:Addr} (h:a∉qj os):hide H os a=H a:=if_neg h
theorem gX (H:Hp) (os:Os):aw (hide H os) H:=fun b o e=>by
 unfold hide at e
 split at e
 ·cases e
 ·exact e
structure StO (X:Cx) (H:Hp) (σ:L2.St) (δ:Dt) (os:Os):Prop where
 st:Stt X.K X.mg (hide H os) σ δ
 lst:∀ p∈os,∃ xs ds,H p.2=some (.lst xs)/\σ[p.1]? = some (some (.ref p.2))/\δ[p.1]? = some (some (.own ds))/\Reps X.K X.mg (hide H os) xs ds
 own:∀ i ds,δ[i]? = some (some (.own ds))->∃ a,(i,a)∈os
 inj:∀ i j a,(i,a)∈os->(j,a)∈os->i=j
theorem wu {os:Os} {a:Addr} (h:a∈qj os):∃ p∈os,p.2=a:=by
 obtain ⟨p,hp,e⟩:=List.mem_map.mp h
 exact ⟨p,hp,e⟩
theorem xr {os:Os} {p:Nat×Addr} (h:p∈os):p.2∈qj os:=List.mem_map.mpr ⟨p,h,rfl⟩
noncomputable def Eo (h:Heap) (os:Os):List (Addr×Obj):=ot (qj os) h
section
variable {X:Cx} {pins:List (Addr×Obj)} {σ:L2.St} {H H':Hp} {s s':Shared} {os:Os}
def LV (H:Hp) (os:Os):Prop:=∀ a∈qj os,∃ xs,H a=some (.lst xs)
theorem pV (I:Inv X pins σ H s) (hl:LV H os):Inv X (pins++Eo s.heap os) σ (hide H os) s:=by
 have ne:∀ {b:Addr} {o:HO},H b=some o->(∀ xs,o ≠ .lst xs)->hide H os b=some o:=fun {b o} e n=>by
  rw [lC fun z => ?_];exact e
  obtain ⟨xs,q⟩:=hl b z
  rw [e] at q
  exact n xs (Option.some.inj q)
 refine ⟨I.ok,I.os,I.bare,⟨I.base.keep,I.base.slot,fun b o e n hx => ?_,I.base.there,fun b xs e => ?_,fun b o u e => ?_,fun b ps e => ?_⟩,I.loc,I.cell,?_,fun x c e => ?_,fun p hp => ?_,fun a o e => ?_,I.len⟩
 ·unfold hide;split
  ·rfl
  ·exact I.base.free b o e n hx
 ·exact ne (I.base.tups b xs e) fun _ z=>nomatch z
 ·exact ne (I.base.frzs b o u e) fun _ z=>nomatch z
 ·obtain ⟨more,q⟩:=I.base.tbls b ps e
  exact ⟨more,ne q fun _ z=>nomatch z⟩
 ·unfold hide;split
  ·rfl
  ·exact I.free
 ·unfold hide;split
  ·rfl
  ·exact I.freeC x c e
 ·rw [<- List.append_assoc] at hp
  rcases List.mem_append.mp hp with z | z
  ·obtain ⟨e,n,r⟩:=I.pin p z
   refine ⟨e,?_,r⟩
   unfold hide;split
   ·rfl
   ·exact n
  ·obtain ⟨hb,e⟩:=qU z
   obtain ⟨xs,q⟩:=hl p.1 hb
   obtain ⟨_,its,n,_,e'⟩:=I.hok p.1 _ q
   rw [e] at e'
   have e2:p.2={ cls:=.type "list",data:=.seq its.toArray n }:=Option.some.inj e'
   refine ⟨e,uh hb,fun z => ?_,fun z => ?_,fun v z => ?_⟩
   ·rw [z,I.free] at q;cases q
   ·have hx:p.1∉X.ex:=fun w=>I.ok.exfs p.1 w z
    obtain ⟨_,o0,ho0,_⟩:=I.ok.funs.mem z
    rw [I.base.free p.1 o0 ho0 (I.ok.frf p.1 z) hx] at q;cases q
   ·rw [e2] at z;cases z
 ·have hna:a∉qj os:=fun z=>by rw [uh z] at e;cases e
  rw [lC hna] at e
  exact (I.hok a o e).stay (fun _ _ _ q=>q) (fun b q=>ne q fun _ z=>nomatch z) fun b xs q=>ne q fun _ z=>nomatch z
noncomputable def iQ (H H':Hp) (os:Os):Hp:=fun a=>if a∈qj os then H a else H' a
theorem jg {os:Os} (h:∀ a∈qj os,H' a=none):hide (iQ H H' os) os=H':=by
 funext a
 unfold hide iQ
 by_cases z:a∈qj os
 ·rw [if_pos z,h a z]
 ·rw [if_neg z,if_neg z]
theorem pU (hx:X.ex=[]) (I0:Inv X pins σ H s) (hl:LV H os) (I:Inv X (pins++Eo s.heap os) σ H' s'):Inv X pins σ (iQ H H' os) s'/\∀ a∈qj os,H' a=none:=by
 have pin:∀ a∈qj os,∃ o,s.heap.get? a=some o/\s'.heap.get? a=some o/\H' a=none/\a≠X.env.locals/\a∉X.fs:=fun a ha=>by
  obtain ⟨xs,q⟩:=hl a ha
  obtain ⟨o,e⟩:∃ o,s.heap.get? a=some o:=by
   obtain ⟨_,its,n,_,e⟩:=I0.hok a _ q
   exact ⟨_,e⟩
  obtain ⟨e1,e2,e3,e4,_⟩:=I.pin (a,o) (List.mem_append_right _ (List.mem_append_right _ (fI ha e)))
  exact ⟨o,e,e1,e2,e3,e4⟩
 have hn:∀ a∈qj os,H' a=none:=fun a ha=>(pin a ha).choose_spec.2.2.1
 have vis:∀ {b:Addr} {o:HO},H' b=some o->iQ H H' os b=some o:=fun {b o} e=>by
  unfold iQ;rw [if_neg fun z => ?_];exact e
  rw [hn b z] at e;cases e
 refine ⟨⟨I.ok,I.os,I.bare,⟨I.base.keep,I.base.slot,fun b o e n hx' => ?_,I.base.there,fun b xs e=>vis (I.base.tups b xs e),fun b o u e=>vis (I.base.frzs b o u e),fun b ps e => ?_⟩,I.loc,I.cell,?_,fun x c e => ?_,fun p hp => ?_,fun a o e => ?_,I.len⟩,hn⟩
 ·unfold iQ;split
  ·exact I0.base.free b o e n hx'
  ·exact I.base.free b o e n hx'
 ·obtain ⟨more,q⟩:=I.base.tbls b ps e
  exact ⟨more,vis q⟩
 ·unfold iQ;split
  ·exact I0.free
  ·exact I.free
 ·unfold iQ;split
  ·exact I0.freeC x c e
  ·exact I.freeC x c e
 ·obtain ⟨e,n,r⟩:=I.pin p (by rw [<- List.append_assoc];exact List.mem_append_left _ hp)
  refine ⟨e,?_,r⟩
  unfold iQ;split
  ·exact (I0.pin p hp).2.1
  ·exact n
 ·by_cases z:a∈qj os
  ·obtain ⟨ob,e0,e1,_⟩:=pin a z
   unfold iQ at e
   rw [if_pos z] at e
   obtain ⟨xs,q⟩:=hl a z
   rw [e] at q
   have q':o=.lst xs:=Option.some.inj q
   subst q'
   obtain ⟨hz,its,n,r,e2⟩:=I0.hok a _ e
   rw [e0] at e2
   have e3:ob=_:=Option.some.inj e2
   subst e3
   exact ⟨hz,its,n,r,e1⟩
  ·unfold iQ at e
   rw [if_neg z] at e
   exact (I.hok a o e).stay (fun _ _ _ q=>q) (fun b q=>vis q) fun b xs q=>vis q
end
section
variable {K:PySem.W.Frag} {mg:Str->Option Value} {H H':Hp}
def NoL (H H':Hp):Prop:=∀ b o,H b=some o->(∀ xs,o ≠ .lst xs)->(∀ ob xs,o ≠ .frz ob (.lst xs))->H' b=some o
theorem Cj (k:NoL H H') {a:Addr} {xs:List V} (h:SqT K H a xs):SqT K H' a xs:=by
 rcases h with (h | ⟨o,h⟩) | h
 ·exact .inl (.inl (k _ _ h (fun _ z=>nomatch z) fun _ _ z=>nomatch z))
 ·exact .inl (.inr ⟨o,k _ _ h (fun _ z=>nomatch z) fun _ _ z=>by cases z⟩)
 ·exact .inr h
mutual
theorem tX (k:NoL H H'):∀ {v:V} {d:D},d.flat=true->Rep K mg H v d->Rep K mg H' v d
 | _,_,_,.non=>.non
 | _,_,_,.bl b=>.bl b
 | _,_,_,.int i=>.int i
 | _,_,_,.str x=>.str x
 | _,.tup ds,f,.tup h r=>.tup (Cj k h) (pJ k (by simpa [D.flat] using f) r)
 | _,.lst ds,f,_=>by simp [D.flat] at f
 | _,_,_,.ty n=>.ty n
 | _,_,_,.cls h=>.cls h
 | _,_,_,.exc h e=>.exc h (k _ _ e (fun _ z=>nomatch z) fun _ _ z=>nomatch z)
 | _,.ins n ds,f,.ins h e r=>.ins h (k _ _ e (fun _ z=>nomatch z) fun _ _ z=>nomatch z) (vp k (by simpa [D.flat] using f) r)
theorem pJ (k:NoL H H'):∀ {vs:List V} {ds:List D},D.flats ds=true->Reps K mg H vs ds->Reps K mg H' vs ds
 | _,_,_,.nil=>.nil
 | _,d::r,f,.cons h t=>by
  have f':d.flat=true/\D.flats r=true:=by simpa [D.flats] using f
  exact .cons (tX k f'.1 h) (pJ k f'.2 t)
theorem vp (k:NoL H H'):∀ {vs:List (Str×V)} {ds:List (String×D)},D.flatf ds=true->Repf K mg H vs ds->Repf K mg H' vs ds
 | _,_,_,.nil=>.nil
 | _,(_,d)::r,f,.cons h t=>by
  have f':d.flat=true/\D.flatf r=true:=by simpa [D.flatf] using f
  exact .cons (tX k f'.1 h) (vp k f'.2 t)
end
end
section
variable {X:Cx} {σ:L2.St} {δ:Dt} {H H':Hp} {os:Os}
theorem StO.lsts (S:StO X H σ δ os):LV H os:=fun a ha=>by
 obtain ⟨p,hp,rfl⟩:=wu ha
 obtain ⟨xs,_,h,_⟩:=S.lst p hp
 exact ⟨xs,h⟩
theorem StO.nil (h:Stt X.K X.mg H σ δ) (hn:∀ (i:Nat) (ds:List D),δ[i]? ≠ some (some (.own ds))):StO X H σ δ []:=⟨by rw [wB];exact h,fun p hp=>(nomatch hp),fun i ds e=>absurd e (hn i ds),fun _ _ _ z=>(nomatch z)⟩
theorem StO.shown (S:StO X H σ δ os) (s:aw (hide H os) H') (hn:∀ a∈qj os,H' a=none):StO X (iQ H H' os) σ δ os:=by
 have e:=jg (H:=H) hn
 refine ⟨by rw [e];exact S.st.mono s,fun p hp => ?_,S.own,S.inj⟩
 obtain ⟨xs,ds,a,b,c,d⟩:=S.lst p hp
 exact ⟨xs,ds,by unfold iQ;rw [if_pos (xr hp)];exact a,b,c,by rw [e];exact d.mono s⟩
theorem StO.noOwn (S:StO X H σ δ os) {H':Hp} (s:aw (hide H os) H'):Stt X.K X.mg H' σ (noOwn δ):=by
 refine ⟨by unfold EV.noOwn;rw [List.length_map];exact S.st.1,fun i d e n => ?_⟩
 unfold EV.noOwn at e
 rw [List.getElem?_map] at e
 cases q:δ[i]? with
 | none=>rw [q] at e;cases e
 | some c =>
  rw [q] at e
  cases c with
  | none=>cases e
  | some d0 =>
   by_cases ho:∃ ds,d0=.own ds
   ·obtain ⟨ds,rfl⟩:=ho
    cases e
   ·have e':d0=d:=by
     cases d0<;>first | exact absurd ⟨_,rfl⟩ ho | exact Option.some.inj (Option.some.inj e)
    subst e'
    obtain ⟨v,h1,h2⟩:=S.st.2 i d0 q n
    exact ⟨v,h1,h2.mono s⟩
end
def FQ (X:Cx) (σ:L2.St) (H:Hp) (os:Os) (δ:Dt) (r:R D) (Q:VK):Prop:=match r with
 | .ok d=>∀ v H',StO X H' σ δ os->aw (hide H os) (hide H' os)->Rep X.K X.mg (hide H' os) v d->Q v H'
 | .ex C=>∀ Ca,X.mg C=some (.ref Ca)->∀ H',aw (hide H os) H'->Stt X.K X.mg H' σ (noOwn δ)->ew X Ca σ H'
 | .bad=>False
noncomputable def tF (X:Cx) (g:E):TE:=fun σ H Q=>∃ δ os,StO X H σ δ os/\FQ X σ H os δ (g δ) Q
def FT (X:Cx) (σ:L2.St) (H:Hp) (os:Os) (δ:Dt) (r:R D) (Q:Bool->Hp->Prop):Prop:=match r with
 | .ok (.bl b)=>∀ H',StO X H' σ δ os->aw (hide H os) (hide H' os)->Q b H'
 | .ex C=>∀ Ca,X.mg C=some (.ref Ca)->∀ H',aw (hide H os) H'->Stt X.K X.mg H' σ (noOwn δ)->ew X Ca σ H'
 | _=>False
noncomputable def tFT (X:Cx) (g:E):TT:=fun σ H Q=>∃ δ os,StO X H σ δ os/\FT X σ H os δ (g δ) Q
section
variable {X:Cx} {e:Expr} {g:E}
theorem Be (hx:X.ex=[]) (h:SE X e g):PE X e (tF X g):=by
 intro pins s σ H Q I ⟨δ,os,S,q⟩
 have hl:=S.lsts
 have hw:RQ X σ (hide H os) (g δ) (fun v H1=>aw (hide H os) H1/\∃ d,g δ=.ok d/\Rep X.K X.mg H1 v d):=by
  cases r:g δ with
  | ok d=>exact fun v H' s r=>⟨s,d,rfl,r⟩
  | ex C =>
   rw [r] at q
   exact fun Ca hc H' s'=>q Ca hc H' s' (S.noOwn s')
  | bad=>rw [r] at q;exact q
 refine thn (h _ s σ _ _ (pV I hl) ⟨δ,S.st,hw⟩) fun u s' ⟨v,H1,I1,rv,sm,d,e,rd⟩ => ?_
 obtain ⟨I2,hn⟩:=pU hx I hl I1
 rw [e] at q
 have eh:=jg (H:=H) hn
 exact ⟨v,_,I2,rv,q v _ (S.shown sm hn) (by rw [eh];exact sm) (by rw [eh];exact rd)⟩
theorem EW (hx:X.ex=[]) (h:ST X e g):PT X e (tFT X g):=by
 intro pins s σ H Q I ⟨δ,os,S,q⟩
 have hl:=S.lsts
 have hw:RT X σ (hide H os) (g δ) (fun b H1=>aw (hide H os) H1/\g δ=.ok (.bl b)):=by
  cases r:g δ with
  | ok d =>
   rw [r] at q
   cases d with
   | bl b=>exact fun H' s=>⟨s,rfl⟩
   | _=>exact False.elim q
  | ex C =>
   rw [r] at q
   exact fun Ca hc H' s'=>q Ca hc H' s' (S.noOwn s')
  | bad=>rw [r] at q;exact False.elim q
 refine thn (h _ s σ _ _ (pV I hl) ⟨δ,S.st,hw⟩) fun b s' ⟨H1,I1,sm,e⟩ => ?_
 obtain ⟨I2,hn⟩:=pU hx I hl I1
 rw [e] at q
 have eh:=jg (H:=H) hn
 exact ⟨_,I2,q _ (S.shown sm hn) (by rw [eh];exact sm)⟩
noncomputable def tB (X:Cx) (g:E):TE:=fun σ H Q=>∃ δ os,StO X H σ δ os/\(∀ d,g (view δ)=.ok d->d.flat=true)/\FQ X σ H os δ (g (view δ)) Q
end
noncomputable def OQ (X:Cx) (D:Ends) (F:Hp):O->Prop
 | .nx δ=>∀ σ H os,StO X H σ δ os->aw F (hide H os)->D.nx σ H
 | .bk δ=>∀ σ H os,StO X H σ δ os->aw F (hide H os)->D.bk σ H
 | .ct δ=>∀ σ H os,StO X H σ δ os->aw F (hide H os)->D.ct σ H
 | .rt d=>∀ v H,aw F H->Rep X.K X.mg H v d->D.rt v H
 | .ex C δ=>∀ σ H,aw F H->Stt X.K X.mg H σ δ->∀ Ca,X.mg C=some (.ref Ca)->ew X Ca σ H
 | .mk C δ=>∀ σ H,aw F H->∀ Ca,X.mg C=some (.ref Ca)->em X Ca σ H
 | .bad=>False
noncomputable def tS (X:Cx) (g:S):TS:=fun D σ H=>∃ δ os,StO X H σ δ os/\OQ X D (hide H os) (g δ)
@[irreducible] noncomputable def SS (X:Cx) (st:Stmt) (g:S):Prop:=PS X st (tS X g)
@[irreducible] noncomputable def SSs (X:Cx) (st:List Stmt) (g:S):Prop:=PSs X st (tS X g)
unseal SS SSs
theorem OQ.mono {X:Cx} {D:Ends} {F F':Hp} {o:O} (s:aw F F') (h:OQ X D F o):OQ X D F' o:=by
 cases o with
 | nx δ=>exact fun σ H os S s'=>h σ H os S (s.trans s')
 | bk δ=>exact fun σ H os S s'=>h σ H os S (s.trans s')
 | ct δ=>exact fun σ H os S s'=>h σ H os S (s.trans s')
 | rt d=>exact fun v H s' r=>h v H (s.trans s') r
 | ex C δ=>exact fun σ H s' S=>h σ H (s.trans s') S
 | mk C δ=>exact fun σ H s'=>h σ H (s.trans s')
 | bad=>exact h
theorem OQ.lv {X:Cx} {D:Ends} {F:Hp} {o:O} {n:L2.St->Hp->Prop} (hn:∀ δ,o ≠ .nx δ) (h:OQ X D F o):OQ X { D with nx:=n } F o:=by
 cases o with
 | nx δ=>exact absurd rfl (hn δ)
 | _=>exact h
section
variable {X:Cx} {N:List Str} {H:Hp} {σ:L2.St} {δ:Dt} {os:Os}
theorem pP (os:Os) (i:Nat):∀ p∈os.filter (fun p=>p.1 != i),p∈os/\p.1≠i:=fun p hp=>by
 have:=List.mem_filter.mp hp
 exact ⟨this.1,by simpa using this.2⟩
theorem A9 {os os':Os} (h:∀ p∈os',p∈os):aw (hide H os) (hide H os'):=fun b o e=>by
 have hb:b∉qj os:=fun z=>by rw [uh z] at e;cases e
 rw [lC hb] at e
 rw [lC fun z => ?_];exact e
 obtain ⟨p,hp,rfl⟩:=wu z
 exact hb (xr (h p hp))
theorem StO.set {v:V} {d:D} {i:Nat} (S:StO X H σ δ os) (r:Rep X.K X.mg (hide H os) v d):StO X H (σ.set i (some v)) (δ.set i (some d)) (os.filter fun p=>p.1 != i)/\aw (hide H os) (hide H (os.filter fun p=>p.1 != i)):=by
 have sm:aw (hide H os) (hide H (os.filter fun p=>p.1 != i)):=A9 fun p hp=>(pP os i p hp).1
 refine ⟨⟨(S.st.mono sm).set (r.mono sm),fun p hp => ?_,fun j ds e => ?_,fun a b c h1 h2=>S.inj a b c (pP os i _ h1).1 (pP os i _ h2).1⟩,sm⟩
 ·obtain ⟨hp',ne⟩:=pP os i p hp
  obtain ⟨xs,ds,h1,h2,h3,h4⟩:=S.lst p hp'
  exact ⟨xs,ds,h1,by rw [List.getElem?_set_ne (Ne.symm ne)];exact h2,by rw [List.getElem?_set_ne (Ne.symm ne)];exact h3,h4.mono sm⟩
 ·by_cases hj:j=i
  ·subst hj
   by_cases hl:j<δ.length
   ·rw [List.getElem?_set_self hl] at e
    have e':d=.own ds:=Option.some.inj (Option.some.inj e)
    subst e'
    cases r
   ·rw [List.getElem?_eq_none (by simp;omega)] at e
    cases e
  ·rw [List.getElem?_set_ne (Ne.symm hj)] at e
   obtain ⟨a,ha⟩:=S.own j ds e
   exact ⟨a,List.mem_filter.mpr ⟨ha,by simpa using hj⟩⟩
structure Sx (X:Cx) (N:List Str):Prop where
 sc:Sc X N
 ex:X.ex=[]
variable {e c:Expr} {g gc:E} {pos:Pos} {st:Stmt} {rest body els:List Stmt} {gs gr gb ge:S}
theorem FQ.then {r:R EV.D} {Q:VK} {D:Ends} {f:EV.D->O} (h:OQ X D (hide H os) (match r with | .ok d=>f d | .ex C=>.ex C (noOwn δ) | .bad=>.bad))
  (hq:∀ d v H',r=.ok d->StO X H' σ δ os->aw (hide H os) (hide H' os)->Rep X.K X.mg (hide H' os) v d->OQ X D (hide H' os) (f d)->Q v H'):FQ X σ H os δ r Q:=by
 cases r with
 | ok d=>exact fun v H' S s r=>hq d v H' rfl S s r (OQ.mono s h)
 | ex C=>exact fun Ca hc H' s' st=>h σ H' s' st Ca hc
 | bad=>exact h
theorem aq:SSs X [] ao:=PSs.weak F3 fun D σ H ⟨δ,os,S,h⟩=>h σ H os S (aw.refl _)
theorem ah (h:SS X st gs):SSs X [st] gs:=Ag h
theorem ae (h:SS X st gs) (hr:SSs X rest gr):SSs X (st::rest) (seq gs gr):=PSs.weak (Cu h hr) fun D σ H ⟨δ,os,S,h⟩=>⟨δ,os,S,by
 unfold seq at h
 cases q:gs δ with
 | nx δ' =>
  rw [q] at h
  exact fun σ' H' os' S' s'=>⟨δ',os',S',OQ.mono s' h⟩
 | _=>rw [q] at h;exact OQ.lv (fun _ z=>nomatch z) h⟩
theorem KS (C:Sx X N) (i:Nat) {x:Str} {pos':Pos} (hN:N[i]? = some x) (hx:Sto X x) (h:SE X e g) (hsw:swapsWith e (some (.Name x pos')) pos.line X.env=pure false:=by rfl):SS X (.Assign [.Name x pos'] e pos) (assign i g) :=
 PS.weak (IK (i:=i) (by rw [C.sc.n];exact C.sc.nd) (by rw [C.sc.n];exact hN) hx.1 (Be C.ex h) hsw hx.2) fun D σ H ⟨δ,os,S,q⟩=>⟨δ,os,S,FQ.then q fun d v H' e S' s r q'=>by
  obtain ⟨S2,s2⟩:=S'.set (i:=i) r
  exact q' _ _ _ S2 s2⟩
theorem Iw (C:Sx X N) (h:SE X e g) (hs:swapsWith e none pos.line X.env=pure false:=by rfl):SS X (.Expr e pos) (expr g) :=
 PS.weak (F4 (Be C.ex h) hs) fun D σ H ⟨δ,os,S,q⟩=>⟨δ,os,S,FQ.then q fun d v H' e S' s r q'=>q' _ _ _ S' (aw.refl _)⟩
theorem KU (C:Sx X N) (h:SE X e g):SS X (.Return (some e) pos) (ret g) :=
 PS.weak (IL (Be C.ex h)) fun D σ H ⟨δ,os,S,q⟩=>⟨δ,os,S,FQ.then q fun d v H' e S' s r q'=>q' v H' (gX _ _) (r.mono (gX _ _))⟩
theorem FT.then {r:R EV.D} {Q:Bool->Hp->Prop} {D:Ends} {ta fa:O} (h:OQ X D (hide H os) (match r with | .ok (.bl true)=>ta | .ok (.bl false)=>fa | .ex C=>.ex C (noOwn δ) | _=>.bad))
  (hq:∀ b H',StO X H' σ δ os->aw (hide H os) (hide H' os)->OQ X D (hide H' os) (if b=true then ta else fa)->Q b H'):FT X σ H os δ r Q:=by
 cases r with
 | ok d =>
  cases d with
  | bl b =>
   cases b with
   | true=>exact fun H' S s=>hq true H' S s (by rw [if_pos rfl];exact OQ.mono s h)
   | false=>exact fun H' S s=>hq false H' S s (by rw [if_neg (by decide)];exact OQ.mono s h)
  | _=>exact h
 | ex C=>exact fun Ca hc H' s' st=>h σ H' s' st Ca hc
 | bad=>exact h
theorem QB (C:Sx X N) (hc:ST X c gc) (ha:SSs X body gb) (hb:SSs X els ge):SS X (.If c body els pos) (ifs gc gb ge) :=
 PS.weak (K1 (EW C.ex hc) ha hb) fun D σ H ⟨δ,os,S,q⟩=>⟨δ,os,S,FT.then q fun b H' S' s q'=>by
  cases b with
  | true=>exact Hw ⟨δ,os,S',by simpa using q'⟩
  | false=>exact Hx ⟨δ,os,S',by simpa using q'⟩⟩
theorem kl {α:Type} {xs:List α} {n:Nat} {x:α} (h:xs[n]? = some x):xs.drop n=x::xs.drop (n+1):=by
 obtain ⟨h1,h2⟩:=List.getElem?_eq_some_iff.mp h
 rw [List.drop_eq_getElem_cons h1,h2]
def Pv (X:Cx) (D:Ends) (F F1:Hp) (i:Nat) (gb:S) (ds:List EV.D) (n:Nat) (σ:L2.St) (H:Hp):Prop:=∃ δ os,StO X H σ δ os/\aw F1 (hide H os)/\aw F F1/\OQ X D F (forL i gb (ds.drop n) δ)
theorem Ft {D:Ends} {F F1:Hp} {i n:Nat} {ds:List EV.D} {d:EV.D} {v:V} (hd:ds[n]? = some d) (r:∀ H',aw F1 H'->Rep X.K X.mg H' v d) (p:Pv X D F F1 i gb ds n σ H) :
  C6 i v σ H fun σ2 H2=>tS X gb { D with nx:=Pv X D F F1 i gb ds (n+1),ct:=Pv X D F F1 i gb ds (n+1),bk:=D.nx } σ2 H2:=by
 obtain ⟨δ,os,S,s1,s0,q⟩:=p
 rw [kl hd] at q
 obtain ⟨S2,s2⟩:=S.set (i:=i) (r _ s1)
 refine ⟨_,_,S2,?_⟩
 unfold forL trn at q
 have s3:=(s0.trans s1).trans s2
 cases e:gb (δ.set i (some d)) with
 | nx δ1=>rw [e] at q;exact fun σ' H' os' S' s'=>⟨δ1,os',S',(s1.trans s2).trans s',s0,q⟩
 | ct δ1=>rw [e] at q;exact fun σ' H' os' S' s'=>⟨δ1,os',S',(s1.trans s2).trans s',s0,q⟩
 | bk δ1=>rw [e] at q;exact fun σ' H' os' S' s'=>q σ' H' os' S' (s3.trans s')
 | rt d'=>rw [e] at q;exact fun v' H' s' r'=>q v' H' (s3.trans s') r'
 | ex C δ1=>rw [e] at q;exact fun σ' H' s' r'=>q σ' H' (s3.trans s') r'
 | mk C δ1=>rw [e] at q;exact fun σ' H' s'=>q σ' H' (s3.trans s')
 | bad=>rw [e] at q;exact q
theorem JS {D:Ends} {F F1:Hp} {i n:Nat} {ds:List EV.D} (hn:ds.length<=n) (p:Pv X D F F1 i gb ds n σ H):D.nx σ H:=by
 obtain ⟨δ,os,S,s1,s0,q⟩:=p
 rw [List.drop_eq_nil_of_le hn] at q
 exact q σ H os S (s0.trans s1)
structure Lp (X:Cx):Prop where
 own:PassesOwn (model X.prog X.w) X.A X.env X.xe
 calm:X.calm=true
theorem bf {c:E} {b:S}:∀ {n:Nat} {δ:Dt},bH c b n δ ≠ .bad->∀ k,bH c b (n+k) δ=bH c b n δ
 | 0,δ,h,_=>absurd rfl h
 | n+1,δ,h,k=>by
  rw [show n+1+k=(n+k)+1 by omega]
  unfold bH at h ⊢
  split
  ·rename_i q
   rw [q] at h
   simp only at h
   unfold trn at h ⊢
   split
   ·rename_i q2;rw [q2] at h;exact bf h k
   ·rename_i q2;rw [q2] at h;exact bf h k
   ·rfl
   ·rfl
  ·rfl
  ·rfl
theorem uJ {c:E} {b:S} {n:Nat} {δ:Dt} {o:O} (h:bH c b n δ=o) (ho:o ≠ .bad):dn c b δ=o:=by
 have hx:∃ n,bH c b n δ ≠ .bad:=⟨n,by rw [h];exact ho⟩
 unfold dn
 rw [dif_pos hx]
 have h1:=bf hx.choose_spec n
 have h2:=bf (show bH c b n δ ≠ .bad by rw [h];exact ho) hx.choose
 rw [Nat.add_comm] at h1
 rw [<- h1,h2,h]
theorem pH (C:Sx X N) (L:PassesOwn (model X.prog X.w) X.A X.env X.xe) (hc:ST X c gc) (hb:SSs X body gb):SS X (.While c body [] pos) (dn gc gb):=by
 refine PS.weak (Cv L (EW C.ex hc) hb) fun D σ H ⟨δ,os,S,q⟩ => ?_
 unfold dn at q
 split at q
 ·rename_i hx
  refine ⟨fun m σ H'=>∃ δ os',StO X H' σ δ os'/\aw (hide H os) (hide H' os')/\OQ X D (hide H os) (bH gc gb m δ),⟨_,δ,os,S,aw.refl _,q⟩,?_⟩
  rintro m σ1 H1 ⟨δ1,os1,S1,s1,q1⟩
  refine ⟨δ1,os1,S1,?_⟩
  cases m with
  | zero=>exact False.elim q1
  | succ m =>
   unfold bH at q1
   cases r:gc δ1 with
   | ok d =>
    rw [r] at q1
    cases d with
    | bl b =>
     cases b with
     | true =>
      intro H2 S2 s2
      refine Hw ⟨fun σ' H'=>∃ δ os',StO X H' σ' δ os'/\aw (hide H os) (hide H' os')/\OQ X D (hide H os) (bH gc gb m δ),fun σ' H' w=>⟨m,Nat.lt_succ_self _,w⟩,δ1,os1,S2,?_⟩
      simp only [trn] at q1
      have s12:=s1.trans s2
      cases e:gb δ1 with
      | nx δ2=>rw [e] at q1;exact fun σ' H' os' S' s'=>⟨δ2,os',S',s12.trans s',q1⟩
      | ct δ2=>rw [e] at q1;exact fun σ' H' os' S' s'=>⟨δ2,os',S',s12.trans s',q1⟩
      | bk δ2=>rw [e] at q1;exact fun σ' H' os' S' s'=>q1 σ' H' os' S' (s12.trans s')
      | rt d'=>rw [e] at q1;exact fun v' H' s' r'=>q1 v' H' (s12.trans s') r'
      | ex C δ1=>rw [e] at q1;exact fun σ' H' s' r'=>q1 σ' H' (s12.trans s') r'
      | mk C δ1=>rw [e] at q1;exact fun σ' H' s'=>q1 σ' H' (s12.trans s')
      | bad=>rw [e] at q1;exact q1
     | false=>exact fun H2 S2 s2=>Hx (q1 σ1 H2 os1 S2 (s1.trans s2))
    | _=>exact False.elim q1
   | ex C=>rw [r] at q1;exact False.elim q1
   | bad=>rw [r] at q1;exact False.elim q1
 ·exact False.elim q
end
end ES
namespace ES
open PySem PySem.Spec PyProof.Rows L2 EV
unseal SE ST SW SA SS SSs
theorem qW {P:Program} {w:World} {H:Hp} {h:Heap} {a:Addr} {o:HO} (x:jt P w H h a o):∃ ob,h.get? a=some ob:=by
 cases o with
 | lst xs=>obtain ⟨_,_,_,_,e⟩:=x;exact ⟨_,e⟩
 | tup xs=>obtain ⟨_,_,_,ob,e,_⟩:=x;exact ⟨_,e⟩
 | dK kvs=>obtain ⟨_,_,_,_,ob,_,_,e,_⟩:=x;exact ⟨_,e⟩
 | dT kvs=>obtain ⟨_,_,_,_,ob,_,_,e,_⟩:=x;exact ⟨_,e⟩
 | set S n=>obtain ⟨ob,_,_,_,e,_⟩:=x;exact ⟨_,e⟩
 | ins C dx fs=>obtain ⟨_,_,_,e,_⟩:=x;exact ⟨_,e⟩
 | own y=>exact x
 | xd fs=>obtain ⟨_,⟨_,_,_,e,_⟩,_⟩:=x;exact ⟨_,e⟩
 | rng lo hi=>obtain ⟨_,_,_,e⟩:=x;exact ⟨_,e⟩
 | frz ob u=>obtain ⟨e,_⟩:=x;exact ⟨_,e⟩
 | tbl ps=>exact ⟨_,(show h.get? a=some _ from x)⟩
 | met f y=>exact ⟨_,(show h.get? a=some _ from x)⟩
 | ext φ=>obtain ⟨_,e,_⟩:=x;exact e
theorem DI {fs:List Addr} {H H':Hp} {h h1 h2 B:Heap} (u:Un fs [] H H' h h1) (same:aw H H') (i1:∀ b o,h.get? b=some o->H b=none->b∉fs->B.get? b=some o)
  (i2:∀ b u o,H' b=some u->h1.get? b=some o->B.get? b=some o) (st:B.StaysIn h2) (up:h1.UpToSlots h2) (ff:∀ b∈fs,∀ o,h1.get? b=some o->∀ vs,o.data ≠ .fields vs):Un fs [] H H' h h2:=by
 have slot:∀ b o,h.get? b=some o->H b=none->b∈fs->b∉([]:List Addr)->∃ sl,h2.get? b=some { o with slots:=sl }:=fun b o e n hb hx=>by
  obtain ⟨sl,e1⟩:=u.slot b o e n hb hx
  obtain ⟨sl2,e2⟩:=up b _ e1 (ff b hb _ e1)
  exact ⟨sl2,e2⟩
 refine ⟨fun b o e n hb _=>st b o (i1 b o e n hb),slot,u.free,fun b o e hx => ?_,u.tups,u.frzs,u.tbls⟩
 cases n:H b with
 | none =>
  by_cases hb:b∈fs
  ·obtain ⟨sl,e2⟩:=slot b o e n hb hx
   exact ⟨_,e2⟩
  ·exact ⟨o,st b o (i1 b o e n hb)⟩
 | some x =>
  obtain ⟨o',e1⟩:=u.there b o e hx
  exact ⟨o',st b o' (i2 b x o' (same b x n) e1)⟩
theorem A8 {P:Program} {w:World} {H':Hp} {h1 h2 B:Heap} (hok:HOk P w H' h1) (i2:∀ b u o,H' b=some u->h1.get? b=some o->B.get? b=some o) (st:B.StaysIn h2):HOk P w H' h2:=fun a o e =>
 (hok a o e).stay (fun b u hb q=>by
  rcases hb with rfl | hb
  ·exact st b u (i2 b o u e q)
  ·exact st b u (i2 b _ u hb q)) (fun _ q=>q) fun _ _ q=>q
theorem ET {P:Program} {w:World} {H':Hp} {h1 h2 B:Heap} (hok:HOk P w H' h1) (i2:∀ b u o,H' b=some u->h1.get? b=some o->B.get? b=some o) (st:B.StaysIn h2):∀ b u o,H' b=some u->h2.get? b=some o->B.get? b=some o:=fun b u o e q=>by
 obtain ⟨ob,e1⟩:=qW (hok b u e)
 have e2:=i2 b u ob e e1
 have e3:=st b ob e2
 rw [q] at e3
 cases e3
 exact e2
theorem JN {base h:Heap} {l:List Env} (x:h.FunFrames base l):∀ b∈frs l,∀ o,h.get? b=some o->∀ vs,o.data ≠ .fields vs:=fun b hb o e=>by
 obtain ⟨_,o',e',d⟩:=x.mem hb
 rw [e] at e'
 cases e'
 exact d
section
variable {X:Cx} {pins:List (Addr×Obj)} {σ:L2.St} {H H':Hp} {s s':Shared} {C ea:Addr}
structure Own (X:Cx):Prop where
 stk:X.stack=X.env::X.outer
 frm:X.env.frame=some X.env.locals
 ex:X.ex=[]
theorem Own.frs (h:Own X):L2.frs X.stack=X.env.locals::X.fs:=by
 rw [h.stk]
 unfold L2.frs
 rw [List.filterMap_cons,h.frm]
 rfl
theorem lJ (I:Inv X pins σ H s) (O:Own X) {B:Heap} (i1:∀ b o,s.heap.get? b=some o->H b=none->b∉L2.frs X.stack->B.get? b=some o):∀ b o,X.s₀.heap.get? b=some o->X.H₀ b=none->b∉X.fs->B.get? b=some o:=fun b o e n hb=>by
 have hx:b∉X.ex:=by rw [O.ex];simp
 refine i1 b o (I.base.keep b o e n hb hx) (I.base.free b o e n hx) fun z => ?_
 rw [O.frs] at z
 rcases List.mem_cons.mp z with q | q
 ·exact absurd (Nat.lt_of_lt_of_le (Heap.lt_size e) I.ok.above) (by rw [q];exact Nat.lt_irrefl _)
 ·exact hb q
theorem EF (I:Inv X pins σ H s) (O:Own X) (h:s.heap.get? ea=none):X.s₀.heap.get? ea=none:=by
 cases q:X.s₀.heap.get? ea with
 | none=>rfl
 | some o =>
  obtain ⟨o',e⟩:=I.base.there ea o q (by rw [O.ex];simp)
  rw [h] at e
  cases e
theorem xc (I:Inv X pins σ H s) (O:Own X):Un X.fs [] X.H₀ H X.s₀.heap s.heap:=by
 have z:=I.base
 rw [O.ex] at z
 exact z
theorem GZ (I:Inv X pins σ H s) (F:FlyX X.prog X.w X.stack H s C H' ea s'):Inv X pins σ H' s':=I.call' (ch:=[]) F.os F.un F.hok F.bare fun b z=>absurd z (by simp)
theorem AY {M:Model} {E:Value->Shared->Prop} {Q:Unit->Shared->Prop} (I:Inv X pins σ H s) (O:Own X) (F:FlyX X.prog X.w X.stack H s C H' ea s') (same:aw X.H₀ H')
  (hQ:∀ s'',FlyX X.prog X.w X.outer X.H₀ X.s₀ C H' ea s''->Q () s''):wpAny M X.A (leaving X.env (.ref ea)) Q E s':=by
 obtain ⟨a0,B,hfl,i1,i2⟩:=F.fly
 have I':=GZ I F
 have ff:=JN hfl.2.2.1
 rw [O.stk] at hfl
 refine wpAny_leaves_onW (by rw [I.ok.frames,O.stk]) O.frm hfl fun h' f1 up=>hQ _ ⟨F.os.trans I.os,F.bare,?_,A8 F.hok i2 f1.1,same,EF I O F.new,a0,B,f1,lJ I O i1,ET F.hok i2 f1.1⟩
 exact DI (xc I' O) same (lJ I O i1) i2 f1.1 up fun b hb=>ff b (by rw [O.frs];exact List.mem_cons_of_mem _ hb)
theorem uf {M:Model} {E:Value->Shared->Prop} {Q:Unit->Shared->Prop} {h1:Heap} {vs:List Value} (I:Inv X pins σ H s) (O:Own X) (made:Heap.MadeExcOf s.heap h1 ea (.ref C) vs) (same:aw X.H₀ H)
  (hQ:∀ s'',FlyX X.prog X.w X.outer X.H₀ X.s₀ C H ea s''->Q () s''):wpAny M X.A (leaving X.env (.ref ea)) Q E { s with heap:=h1 }:=by
 have hst:=I.stack
 have ff:=JN hst
 have i1:∀ b o,s.heap.get? b=some o->H b=none->b∉L2.frs X.stack->(PySem.W.hideAll s.heap (L2.frs X.stack)).get? b=some o:=fun b o e _ hb=>PySem.W.hideAll_get _ e hb
 have i2:∀ b u o,H b=some u->s.heap.get? b=some o->(PySem.W.hideAll s.heap (L2.frs X.stack)).get? b=some o:=fun b u o e q=>PySem.W.hideAll_get _ q fun z=>by
  rw [I.stkFree b z] at e
  cases e
 have hl:=PySem.W.funFrames_hide (as:=L2.frs X.stack) hst fun env he b hb=>List.mem_filterMap.mpr ⟨env,he,hb⟩
 rw [O.stk] at hl
 refine wpAny_leaves_madeW (s:={ s with heap:=h1 }) (base:=PySem.W.hideAll s.heap (L2.frs X.stack)) (by rw [I.ok.frames,O.stk]) O.frm (fun b o e=>PySem.W.of_hideAll _ e) (by rw [O.stk] at *;exact hl) made fun h' t f1 _ _ up=>hQ _ ⟨I.os,I.bare,?_,A8 I.hok i2 f1.1,same,EF I O made.new,_,_,f1,lJ I O i1,ET I.hok i2 f1.1⟩
 exact DI (xc I O) same (lJ I O i1) i2 f1.1 ((Heap.UpToSlots.of_keeps made.keeps).trans up) fun b hb=>ff b (by rw [O.frs];exact List.mem_cons_of_mem _ hb)
end
noncomputable def CXF (P:Program) (w:World):CXT:=fun outer H s E e s'=>∃ C H' ea,e=.ref ea/\FlyX P w outer H s C H' ea s'/\E (.ref C) none H'
noncomputable def spP (K:PySem.W.Frag) (mg:Str->Option Value) (f:List D->R D):Sp:=fun vs H Q E=>∃ ds,Reps K mg H vs ds/\match f ds with
 | .ok d=>∀ v H',aw H H'->Rep K mg H' v d->Q v H'
 | .ex C=>∀ Ca,mg C=some (.ref Ca)->∀ H',aw H H'->E (.ref Ca) none H'
 | .bad=>False
theorem t8 {CX:CXT} {P:Program} {w:World} {K:PySem.W.Frag} {mg:Str->Option Value} {base:Heap} {N:List Str} {qual:Str} {sc:Scope} {f:Addr} {cdv:Value} {A:Around} {outer:List Env} {s:Shared} {H:Hp} {E:XK} :
  Own (B4 CX P w K mg base N qual sc f cdv A outer s H E):=⟨rfl,rfl,rfl⟩
section
variable {P:Program} {w:World} {K:PySem.W.Frag} {mg:Str->Option Value} {base:Heap} {N:List Str} {qual:Str} {sc:Scope} {f:Addr} {cdv:Value} {A:Around} {outer:List Env} {s:Shared} {H H':Hp} {E:XK} {C:Addr} {σ:L2.St}
theorem JQ (same:aw H H') (hE:E (.ref C) none H'):ew (B4 (CXF P w) P w K mg base N qual sc f cdv A outer s H E) C σ H' :=
 fun pins H1 s1 ea s' I F=>AY I t8 F same fun s'' F'=>⟨C,H',ea,rfl,F',hE⟩
theorem JT (same:aw H H') (hE:E (.ref C) none H'):em (B4 (CXF P w) P w K mg base N qual sc f cdv A outer s H E) C σ H' :=
 fun pins s1 h' ea vs I made=>uf I t8 made same fun s'' F'=>⟨C,H',ea,rfl,F',hE⟩
end
structure ScF (N G ps:List Str) (sc:Scope):Prop where
 fs:FnScope N ps sc
 loc:∀ x∈N,Loc sc x
 glb:∀ x∈G,sc.names.lookup x=some .globalImplicit
 dbg:∀ x∈N,(x == ("__debug__":Str))=false/\(x == ("__classdict__":Str))=false
 dbgG:∀ x∈G,(x == ("__debug__":Str))=false/\x≠"__name__"
structure Pl (X:Cx) (N G:List Str):Prop extends Sx X N where
 sto:∀ x∈N,Sto X x
 gb:∀ x∈G,Gb X x
noncomputable instance locDec {sc:Scope} {x:Str}:Decidable (Loc sc x):=inferInstanceAs (Decidable (_\/_))
theorem Jz {sc:Scope} {x:Str} (h:Loc sc x):Vis sc x:=h.elim .inl fun z=>.inr (.inl z)
theorem zG {K:PySem.W.Frag} {mg:Str->Option Value} {H:Hp} {N:List Str} {n m:Nat}:∀ {vs:List V} {ds:List D},Reps K mg H vs ds->ds.length=n->N.length=m->Stt K mg H (L2.start N vs) (EV.start n m ds):=by
 intro vs ds r hn hm
 have hl:=r.length
 refine ⟨by simp [L2.start,EV.start,hl,hn,hm],fun i d e _ => ?_⟩
 unfold EV.start at e
 by_cases hi:i<ds.length
 ·rw [List.getElem?_append_left (by simpa using hi),List.getElem?_map] at e
  cases q:ds[i]? with
  | none=>rw [q] at e;cases e
  | some d' =>
   rw [q] at e
   have e':d'=d:=Option.some.inj (Option.some.inj e)
   subst e'
   obtain ⟨v,h1,h2⟩:=r.get q
   exact ⟨v,by unfold L2.start;rw [List.getElem?_append_left (by simp;omega),List.getElem?_map,h1];rfl,h2⟩
 ·rw [List.getElem?_append_right (by simpa using hi),List.getElem?_replicate] at e
  split at e<;>cases e
theorem tJ {K:PySem.W.Frag} {mg:Str->Option Value} {H:Hp} {n m:Nat} {vs:List V} {ds:List D} (r:Reps K mg H vs ds) (i:Nat) (es:List D):(EV.start n m ds)[i]? ≠ some (some (.own es)):=fun e=>by
 unfold EV.start at e
 by_cases hi:i<ds.length
 ·rw [List.getElem?_append_left (by simpa using hi),List.getElem?_map] at e
  cases q:ds[i]? with
  | none=>rw [q] at e;cases e
  | some d' =>
   rw [q] at e
   have e':d'=.own es:=Option.some.inj (Option.some.inj e)
   subst e'
   obtain ⟨v,h1,h2⟩:=r.get q
   cases h2
 ·rw [List.getElem?_append_right (by simpa using hi),List.getElem?_replicate] at e
  split at e<;>cases e
theorem LB {P:Program} {w:World} {K:PySem.W.Frag} {mg:Str->Option Value} {base:Heap} {x qual:Str} {st:Stmt} {f:Addr} {fd:FuncData} {N G ps:List Str} {k n m:Nat} {g:S}
  (F:Fun K x qual st f fd) (S:ScF N G ps (aa st)) (hn:ps.length=n) (hm:N.length=m)
  (hbody:∀ X:Cx,X.prog=P->X.w=w->X.K=K->X.mg=mg->X.base=base->Room k X.A->Lp X->Own X->Pl X N G->X.env.scope=aa st->SSs X (ag st) g) :
  FnOk P w K mg base (CXF P w) (k+1) f fd ps (spP K mg (fn n m g)):=by
 obtain ⟨oc,od,kV,doc,pm,an,cdv,ct,osl,rfl,lk,hcd⟩:=F.ex
 have len:∀ {ds:List D},fn n m g ds ≠ .bad->ds.length=n:=fun {ds} h=>by
  unfold fn at h
  split at h
  ·assumption
  ·exact absurd rfl h
 refine JM lk hcd S.fs (fun vs H Q E h => ?_) fun A outer s H vs Q E hr h => ?_
 ·obtain ⟨ds,rs,h⟩:=h
  rw [rs.length,hn]
  refine len fun z => ?_
  rw [z] at h
  exact h
 ·obtain ⟨ds,rs,h⟩:=h
  have hl:ds.length=n:=len fun z=>by rw [z] at h;exact h
  refine ⟨_,hbody (B4 (CXF P w) P w K mg base N qual (aa st) f cdv A outer s H E) rfl rfl rfl rfl rfl hr ⟨PassesOwn.leaving,rfl⟩ t8 ⟨⟨⟨rfl,S.fs.nd,fun y hy=>Jz (S.loc y hy),S.dbg⟩,rfl⟩,fun y hy=>⟨S.loc y hy,.inl rfl⟩,fun y hy=>⟨S.glb y hy,(S.dbgG y hy).1,(S.dbgG y hy).2⟩⟩ rfl,_,[],StO.nil (zG rs hl hm) (tJ rs),?_⟩
  rw [wB]
  unfold fn at h
  rw [if_pos hl] at h
  cases e:g (EV.start n m ds) with
  | nx δ=>rw [e] at h;exact fun σ H' os _ s'=>h .non H' (s'.trans (gX _ _)) .non
  | rt d=>rw [e] at h;exact fun v H' s' r=>h v H' s' r
  | ex C δ=>rw [e] at h;exact fun σ H' s' _ Ca hc=>JQ s' (h Ca hc H' s')
  | mk C δ=>rw [e] at h;exact fun σ H' s' Ca hc=>JT s' (h Ca hc H' s')
  | bk δ=>rw [e] at h;exact False.elim h
  | ct δ=>rw [e] at h;exact False.elim h
  | bad=>rw [e] at h;exact False.elim h
noncomputable abbrev at5 (X:Cx) (P:Program) (w:World) (K:PySem.W.Frag) (mg:Str->Option Value) (base:Heap):Cx:={ X with prog:=P,w:=w,K:=K,mg:=mg,base:=base }
theorem mJ {P:Program} {w:World} {K:PySem.W.Frag} {mg:Str->Option Value} {base:Heap} {x qual:Str} {st:Stmt} {f:Addr} {fd:FuncData} {N G ps:List Str} {k n m:Nat} {g:S}
  (F:Fun K x qual st f fd) (S:ScF N G ps (aa st)) (hn:ps.length=n) (hm:N.length=m)
  (hbody:∀ X:Cx,Room k (at5 X P w K mg base).A->Lp (at5 X P w K mg base)->Own (at5 X P w K mg base)->Pl (at5 X P w K mg base) N G->(at5 X P w K mg base).env.scope=aa st->SSs (at5 X P w K mg base) (ag st) g) :
  FnOk P w K mg base (CXF P w) (k+1) f fd ps (spP K mg (fn n m g)):=LB F S hn hm fun X hP hw hK hM hB hr L O Pl hS=>by
 subst hP hw hK hM hB
 exact hbody X hr L O Pl hS
theorem us1 {C:List Value->Prop} (h:∀ a,C [a]) (us:List Value) (hl:us.length=1):C us:=by
 match us,hl with
 | [_],_=>exact h _
theorem us2 {C:List Value->Prop} (h:∀ a b,C [a,b]) (us:List Value) (hl:us.length=2):C us:=by
 match us,hl with
 | a::us,hl=>exact us1 (C:=fun us=>C (a::us)) (h a) us (Nat.succ.inj hl)
theorem us3 {C:List Value->Prop} (h:∀ a b c,C [a,b,c]) (us:List Value) (hl:us.length=3):C us:=by
 match us,hl with
 | a::us,hl=>exact us2 (C:=fun us=>C (a::us)) (h a) us (Nat.succ.inj hl)
theorem us4 {C:List Value->Prop} (h:∀ a b c d,C [a,b,c,d]) (us:List Value) (hl:us.length=4):C us:=by
 match us,hl with
 | a::us,hl=>exact us3 (C:=fun us=>C (a::us)) (h a) us (Nat.succ.inj hl)
theorem us5 {C:List Value->Prop} (h:∀ a b c d e,C [a,b,c,d,e]) (us:List Value) (hl:us.length=5):C us:=by
 match us,hl with
 | a::us,hl=>exact us4 (C:=fun us=>C (a::us)) (h a) us (Nat.succ.inj hl)
theorem us6 {C:List Value->Prop} (h:∀ a b c d e f,C [a,b,c,d,e,f]) (us:List Value) (hl:us.length=6):C us:=by
 match us,hl with
 | a::us,hl=>exact us5 (C:=fun us=>C (a::us)) (h a) us (Nat.succ.inj hl)
theorem cw {K:PySem.W.Frag} {x qual:Str} {st:Stmt} {f:Addr} {fd:FuncData} {ps:List Str} (F:Fun K x qual st f fd) (hp:ps.length=1)
  (h:∀ (kV doc pm:Value) (an:Option Addr) (cdv ct:Value) (a:Value),bindArgs (PySem.W.fnOf x qual (aL st) (ag st) (aa st) .none kV doc pm an cdv ct) ⟨[a],[]⟩=pure (ps.zip [a])):Binds K fd ps [] :=
 F.binds fun kV doc pm an cdv ct us hl=>us1 (C:=fun us=>bindArgs (PySem.W.fnOf x qual (aL st) (ag st) (aa st) .none kV doc pm an cdv ct) ⟨us,[]⟩=pure (ps.zip us)) (h kV doc pm an cdv ct) us (hl.trans hp)
theorem cL {K:PySem.W.Frag} {x qual:Str} {st:Stmt} {f:Addr} {fd:FuncData} {ps:List Str} (F:Fun K x qual st f fd) (hp:ps.length=2)
  (h:∀ (kV doc pm:Value) (an:Option Addr) (cdv ct:Value) (a b:Value),bindArgs (PySem.W.fnOf x qual (aL st) (ag st) (aa st) .none kV doc pm an cdv ct) ⟨[a,b],[]⟩=pure (ps.zip [a,b])):Binds K fd ps [] :=
 F.binds fun kV doc pm an cdv ct us hl=>us2 (C:=fun us=>bindArgs (PySem.W.fnOf x qual (aL st) (ag st) (aa st) .none kV doc pm an cdv ct) ⟨us,[]⟩=pure (ps.zip us)) (h kV doc pm an cdv ct) us (hl.trans hp)
theorem fM {K:PySem.W.Frag} {x qual:Str} {st:Stmt} {f:Addr} {fd:FuncData} {ps:List Str} (F:Fun K x qual st f fd) (hp:ps.length=3)
  (h:∀ (kV doc pm:Value) (an:Option Addr) (cdv ct:Value) (a b c:Value),bindArgs (PySem.W.fnOf x qual (aL st) (ag st) (aa st) .none kV doc pm an cdv ct) ⟨[a,b,c],[]⟩=pure (ps.zip [a,b,c])):Binds K fd ps [] :=
 F.binds fun kV doc pm an cdv ct us hl=>us3 (C:=fun us=>bindArgs (PySem.W.fnOf x qual (aL st) (ag st) (aa st) .none kV doc pm an cdv ct) ⟨us,[]⟩=pure (ps.zip us)) (h kV doc pm an cdv ct) us (hl.trans hp)
theorem mM {K:PySem.W.Frag} {x qual:Str} {st:Stmt} {f:Addr} {fd:FuncData} {ps:List Str} (F:Fun K x qual st f fd) (hp:ps.length=4)
  (h:∀ (kV doc pm:Value) (an:Option Addr) (cdv ct:Value) (a b c d:Value),bindArgs (PySem.W.fnOf x qual (aL st) (ag st) (aa st) .none kV doc pm an cdv ct) ⟨[a,b,c,d],[]⟩=pure (ps.zip [a,b,c,d])):Binds K fd ps [] :=
 F.binds fun kV doc pm an cdv ct us hl=>us4 (C:=fun us=>bindArgs (PySem.W.fnOf x qual (aL st) (ag st) (aa st) .none kV doc pm an cdv ct) ⟨us,[]⟩=pure (ps.zip us)) (h kV doc pm an cdv ct) us (hl.trans hp)
theorem Fd {K:PySem.W.Frag} {x qual:Str} {st:Stmt} {f:Addr} {fd:FuncData} {ps:List Str} (F:Fun K x qual st f fd) (hp:ps.length=5)
  (h:∀ (kV doc pm:Value) (an:Option Addr) (cdv ct:Value) (a b c d e:Value),bindArgs (PySem.W.fnOf x qual (aL st) (ag st) (aa st) .none kV doc pm an cdv ct) ⟨[a,b,c,d,e],[]⟩=pure (ps.zip [a,b,c,d,e])):Binds K fd ps [] :=
 F.binds fun kV doc pm an cdv ct us hl=>us5 (C:=fun us=>bindArgs (PySem.W.fnOf x qual (aL st) (ag st) (aa st) .none kV doc pm an cdv ct) ⟨us,[]⟩=pure (ps.zip us)) (h kV doc pm an cdv ct) us (hl.trans hp)
theorem Fc {K:PySem.W.Frag} {x qual:Str} {st:Stmt} {f:Addr} {fd:FuncData} {ps:List Str} (F:Fun K x qual st f fd) (hp:ps.length=6)
  (h:∀ (kV doc pm:Value) (an:Option Addr) (cdv ct:Value) (a b c d e f:Value),bindArgs (PySem.W.fnOf x qual (aL st) (ag st) (aa st) .none kV doc pm an cdv ct) ⟨[a,b,c,d,e,f],[]⟩=pure (ps.zip [a,b,c,d,e,f])):Binds K fd ps [] :=
 F.binds fun kV doc pm an cdv ct us hl=>us6 (C:=fun us=>bindArgs (PySem.W.fnOf x qual (aL st) (ag st) (aa st) .none kV doc pm an cdv ct) ⟨us,[]⟩=pure (ps.zip us)) (h kV doc pm an cdv ct) us (hl.trans hp)
structure FnP (P:Program) (w:World) (K:PySem.W.Frag) (mg:Str->Option Value) (base:Heap) (x:Str) (k:Nat) (f:List D->R D):Prop where
 ex:∃ fa fd ps,FnOk P w K mg base (CXF P w) k fa fd ps (spP K mg f)/\mg x=some (.ref fa)/\PySem.W.keepIn K (.ref fa)=true/\Binds K fd ps []
theorem rR {P:Program} {w:World} {K:PySem.W.Frag} {mg:Str->Option Value} {base:Heap} {x:Str} {fa:Addr} {fd:FuncData} {ps:List Str} {k:Nat} {f:List D->R D}
  (F:FnOk P w K mg base (CXF P w) k fa fd ps (spP K mg f)) (kp:PySem.W.keepIn K (.ref fa)=true) (hm:mg x=some (.ref fa)) (hb:Binds K fd ps []):FnP P w K mg base x k f:=⟨fa,fd,ps,F,hm,kp,hb⟩
structure Callee (X:Cx) (x:Str) (f:List D->R D):Prop where
 ex:∃ k fa fd ps,FnOk X.prog X.w X.K X.mg X.base (CXF X.prog X.w) k fa fd ps (spP X.K X.mg f)/\Room k X.A/\X.mg x=some (.ref fa)/\PySem.W.keepIn X.K (.ref fa)=true/\Binds X.K fd ps []
theorem FnP.callee {X:Cx} {x:Str} {k j:Nat} {f:List D->R D} (F:FnP X.prog X.w X.K X.mg X.base x k f) (hr:Room j X.A) (h:k<=j):Callee X x f:=by
 obtain ⟨fa,fd,ps,a,b,c,d⟩:=F.ex
 exact ⟨k,fa,fd,ps,a,hr.mono h,b,c,d⟩
section
variable {X:Cx} {x:Str} {f:List D->R D} {e:Expr} {es:List Expr} {gs:List E} {p pos:Pos}
theorem IA {k:Nat} {fa:Addr} {fd:FuncData} {ps:List Str} {pins:List (Addr×Obj)} {σ:L2.St} {H:Hp} {s:Shared} {Q:VK} {us:List Value} {vs:List V} {ds:List D}
  (F:FnOk X.prog X.w X.K X.mg X.base (CXF X.prog X.w) k fa fd ps (spP X.K X.mg f)) (hr:Room k X.A) (hb:Binds X.K fd ps []) (I:Inv X pins σ H s) (r:Vals vs us) (rs:Reps X.K X.mg H vs ds) (q:RQ X σ H (f ds) Q) :
  wpAny (model X.prog X.w) X.A (PySem.call (.ref fa) us) (EP X pins σ Q) X.xe s:=by
 have hsp:spP X.K X.mg f vs H Q (fun c _ H'=>∃ C Ca,f ds=.ex C/\X.mg C=some (.ref Ca)/\c=.ref Ca/\aw H H'):=⟨ds,rs,by
  cases e:f ds with
  | ok d=>rw [e] at q;exact q
  | ex C=>exact fun Ca hc H' s'=>⟨C,Ca,rfl,hc,rfl,s'⟩
  | bad=>rw [e] at q;exact q⟩
 have hl:us.length=ps.length:=by rw [<- r.length];exact F.len _ _ _ _ hsp
 have hb':=hb s us I.kIn (by rw [List.append_nil];exact hl)
 rw [List.append_nil] at hb'
 refine wpAny_call (codeAny_mono (F.run X.A X.stack s H ⟨us,[]⟩ us vs _ _ hr I.env0 hb' r hsp) fun r s' hq => ?_)
 cases r with
 | error er =>
  obtain ⟨C',H',ea,rfl,FX,C,Ca,e1,hc,e2,s2⟩:=hq
  cases e2
  rw [e1] at q
  exact q C' hc H' s2 pins H s ea s' I FX
 | ok fl =>
  cases fl with
  | ret u=>exact I.after hq
  | next=>exact False.elim hq
  | brk=>exact False.elim hq
  | cont=>exact False.elim hq
theorem JY (c:Callee X x f) (G:Gb X x) (ha:SA X (e::es) gs) (he:starEach (e::es) X.env=(false,eval e X.env)::starEach es X.env:=by rfl) (hpl:(backTo pos (starEach es X.env)).any (·.1)=false:=by rfl) :
  SE X (.Call (.Name x p) (e::es) [] pos) (EV.call f gs):=by
 obtain ⟨k,fa,fd,ps,F,hr,hm,hk,hb⟩:=c.ex
 intro pins s σ H Q I ⟨δ,hσ,h⟩
 refine wpAny_Call_Name_kw (pT I G.g hm ?_ G.d)
 refine PySem.W.callWith_K (h₀:=X.base) I.ok.mod.kin hk (thn (ha pos pins s σ H _ I ⟨δ,hσ,RA.bind h⟩) fun us s1 ⟨vs,H1,I1,r,sm,ds,rs,q⟩=>⟨I1.kIn,IA F hr hb I1 r rs q⟩) he hpl
end
theorem Gg {K:PySem.W.Frag} {h:Heap} {C:Addr} {bmB:List Value} {newId:String} (KX:K.In h) (q:PySem.W.excIn K C bmB newId=true) :
  ∃ bm M nm qn bs hd sn sub ab col dd k0 k1 k2 k3 k5 mN,h.get? C=some (excClassObj nm qn C M bs bm hd sn sub ab col dd k0 k1 k2 k3 k5 newId)/\h.Ns M mN/\mN "__init__"=none/\OwnTail h bmB bm:=by
 unfold PySem.W.excIn at q
 split at q
 ·rename_i d1 cd sl hlk
  split at q
  ·rename_i C' bm k0 k1 k2 k3 n k5 e1 e2
   simp only [Bool.and_eq_true,beq_iff_eq,Bool.not_eq_true'] at q
   obtain ⟨⟨⟨⟨⟨r1,r2⟩,r3⟩,r4⟩,r5⟩,r6⟩:=q
   subst r1 r2
   obtain ⟨nm,bs,mro,ns,qn,hd,sn,sub,ab,col,del⟩:=cd
   dsimp only at e1 r3 r5 r6
   subst e1 r3
   have e3:sl = #[k0,k1,k2,k3,some (.builtin n),k5]:=by
    obtain ⟨l⟩:=sl
    simp only at e2
    rw [e2]
   subst e3
   exact ⟨bm,ns,nm,qn,bs,hd,sn,sub,ab,col,d1,k0,k1,k2,k3,k5,_,KX _ _ hlk,.of_isNs (PySem.W.isNs_of_in KX r5),PySem.W.nsMap_none_of_in KX r5 r6,PySem.W.tail_of_in KX r4⟩
  ·cases q
 ·cases q
def bmV:List Value:=[.type "ValueError",.type "Exception",.type "BaseException",.type "object"]
section
variable {X:Cx} {pos:Pos} {x:String} {C:Addr}
theorem gO (hc:X.calm=true) {np cp p3:Pos} {m:Str} {j:Nat} (G:Gb X x) (hm:X.mg x=some (.ref C)) (hq:PySem.W.excIn X.K C bmV "ValueError.__new__"=true) :
  SS X (.Raise (some (.Call (.Name x np) [.Constant (.str m) j p3] [] cp)) none pos) (raise x):=by
 intro pins s σ H D I ⟨δ,os,S,h⟩
 obtain ⟨bm,M,nm,qn,bs,hd,sn,sub,ab,col,dd,k0,k1,k2,k3,k5,mN,hC,hN,hni,T⟩:=Gg I.mod.kin hq
 have FB:ExcBaseFacts "ValueError" "ValueError.__new__" "ValueError.__init__" bmV:=PySem.F.excBase_ValueError
 refine wpAny_Raise_call_subT (C:=C) (nm:=nm) (q:=qn) (N:=M) (bs:=bs) (bm:=bm) (hdct:=hd) (sn:=sn) (sub:=sub) (ab:=ab) (col:=col) (dd:=dd) (k0:=k0) (k1:=k1) (k2:=k2) (k3:=k3) (k5:=k5)
  FB (mN:=mN) (T.hasType FB.hasBase) (I.ok.hd hc) rfl hni (pT I G.g hm ⟨rfl,?_⟩ G.d)
 have hsp:=(t6 (X:=X) (Ep (x:=m) (j:=j) (pos:=p3)) An) cp pins s σ H (fun vs H1=>vs.length=1/\H1=H) I (show (1=1/\H=H) from ⟨rfl,rfl⟩)
 refine Calls.evalArgs_plain (thn hsp fun us s2 ⟨vs,H1,I1,r,q1,q2⟩ => ?_)
 subst q2
 have hl:us.length=1:=by rw [<- r.length];exact q1
 exact ⟨rfl,by show us.length<=_;rw [hl,sizeLine_eq];decide,I1.bk _ _ hC,hN.keeps I1.bk,T.keeps I1.bk,fun h' e1 made=>h σ H1 (gX _ _) C hm pins s2 h' e1 us I1 made⟩
end
section
variable {K:PySem.W.Frag} {M:Model} {h:Heap} {C C' e:Addr}
end
section
variable {X:Cx} {pins:List (Addr×Obj)} {σ:L2.St} {H H':Hp} {s s':Shared} {C ea:Addr} {W:Value->Shared->Prop}
end
structure Catch (K:PySem.W.Frag) (C C':Addr):Prop where
 c1:(PySem.W.clsIn K C').isSome=true
 c2:PySem.W.typeIn K (.ref C')=some (.type "type")
 c3:PySem.W.subIn K (.type "type") (.type "tuple")=some false
 c4:PySem.W.mroIn K C' (.type "BaseException")=some true
 c5:PySem.W.mroIn K C (.ref C')=some true
section
variable {X:Cx} {N G:List Str} {pos np hpos:Pos} {n:Str} {cls:String} {C':Addr} {body suite:List Stmt} {b₀:Stmt} {gb gs:S}
end
end ES
namespace ES
open PySem PySem.Spec PyProof.Rows L2 EV
unseal SE ST SW SA SS SSs
noncomputable def rC (X:Cx) (f:List D->R D):List V->Hp->VK->Prop:=fun vs H Q=>∃ ds d,Reps X.K X.mg H vs ds/\f ds=.ok d/\∀ v H',aw H H'->Rep X.K X.mg H' v d->Q v H'
def NoX (f:List D->R D):Prop:=∀ ds C,f ds ≠ .ex C
theorem RQ.cl {X:Cx} {σ:L2.St} {H:Hp} {f:List D->R D} (nx:NoX f) {vs:List V} {ds:List D} {Q:VK} (r:Reps X.K X.mg H vs ds) (h:RQ X σ H (f ds) Q):rC X f vs H Q:=by
 cases e:f ds with
 | ok d=>rw [e] at h;exact ⟨ds,d,r,e,h⟩
 | ex C=>exact absurd e (nx ds C)
 | bad=>rw [e] at h;exact False.elim h
section
variable {X:Cx} {x:Str} {id T:String} {f:List D->R D} {e o:Expr} {es:List Expr} {gs:List E} {g:E} {p pos apos:Pos}
theorem cJ (hc:gJ X (.builtin id) (rC X f)) (nx:NoX f) (G:Gb X x) (hm:X.mg x=none) (hv:bootBuiltins x=some (.builtin id)) (ha:SA X (e::es) gs)
  (he:starEach (e::es) X.env=(false,eval e X.env)::starEach es X.env:=by rfl) (hpl:(backTo pos (starEach es X.env)).any (·.1)=false:=by rfl):SE X (.Call (.Name x p) (e::es) [] pos) (EV.call f gs) :=
 PE.weak (vx hc G.g hm hv ha G.n G.d he hpl) fun σ H Q ⟨δ,hσ,h⟩=>⟨δ,hσ,(RA.bind h).to fun vs H' s ⟨_,ds,rs,q⟩=>RQ.cl nx rs q⟩
theorem fu (hc:gJ X (.type T) (rC X f)) (nx:NoX f) (G:Gb X x) (hm:X.mg x=none) (hv:bootBuiltins x=some (.type T)) (ha:SA X (e::es) gs)
  (he:starEach (e::es) X.env=(false,eval e X.env)::starEach es X.env:=by rfl) (hpl:(backTo pos (starEach es X.env)).any (·.1)=false:=by rfl):SE X (.Call (.Name x p) (e::es) [] pos) (EV.call f gs) :=
 PE.weak (Al hc G.g hm hv ha G.n G.d he hpl) fun σ H Q ⟨δ,hσ,h⟩=>⟨δ,hσ,(RA.bind h).to fun vs H' s ⟨_,ds,rs,q⟩=>RQ.cl nx rs q⟩
theorem nN {H:Hp} {vs:List V} {d:D} (r:Reps X.K X.mg H vs [d]):∃ v,vs=[v]/\Rep X.K X.mg H v d:=by
 cases r with
 | cons r rr=>cases rr;exact ⟨_,rfl,r⟩
theorem IC {H:Hp} {vs:List V} {d d':D} (r:Reps X.K X.mg H vs [d,d']):∃ v v',vs=[v,v']/\Rep X.K X.mg H v d/\Rep X.K X.mg H v' d':=by
 cases r with
 | cons r rr =>
  cases rr with
  | cons r' rr=>cases rr;exact ⟨_,_,rfl,r,r'⟩
theorem jR:NoX nD:=fun ds C z=>by unfold nD at z;split at z<;>first | cases z | exact dF z
theorem jU:gJ X (.builtin "len") (rC X nD):=by
 intro pins s σ H xs us Q I rs ⟨ds,d,r,e,q⟩
 unfold nD at e
 split at e
 ·cases e
  obtain ⟨v,rfl,r1⟩:=nN r
  cases r1 with
  | @lst a ys _ hq rr=>exact kn pins s σ H _ us Q I rs ⟨a,ys,rfl,.inl hq,by rw [rr.length];exact q _ _ (aw.refl _) (.int _)⟩
 ·cases e
  obtain ⟨v,rfl,r1⟩:=nN r
  cases r1 with
  | @tup a ys _ hq rr=>exact kn pins s σ H _ us Q I rs ⟨a,ys,rfl,.inr hq,by rw [rr.length];exact q _ _ (aw.refl _) (.int _)⟩
 ·split at e
  ·rename_i hz
   cases e
   obtain ⟨v,rfl,r1⟩:=nN r
   cases r1
   exact rX pins s σ H _ us Q I rs ⟨_,rfl,Nat.le_trans hz (by rw [sizeLine_eq];decide),q _ _ (aw.refl _) (.int _)⟩
  ·cases e
 ·cases e
theorem CK:NoX yC:=fun ds C z=>by unfold yC at z;split at z<;>cases z
theorem Dh:gJ X (.builtin "abs") (rC X yC):=by
 intro pins s σ H xs us Q I rs ⟨ds,d,r,e,q⟩
 unfold yC at e
 split at e
 ·cases e
  obtain ⟨v,rfl,r1⟩:=nN r
  cases r1
  exact Dg pins s σ H _ us Q I rs ⟨_,rfl,q _ _ (aw.refl _) (.int _)⟩
 ·cases e
theorem Lm:NoX Ho:=fun ds C z=>by unfold Ho at z;split at z<;>cases z
theorem LI (hc:X.calm=true):gJ X (.builtin "max") (rC X Ho):=by
 intro pins s σ H xs us Q I rs ⟨ds,d,r,e,q⟩
 unfold Ho at e
 split at e
 ·cases e
  obtain ⟨v,v',rfl,r,r'⟩:=IC r
  cases r;cases r'
  exact Bv hc pins s σ H _ us Q I rs ⟨_,_,rfl,q _ _ (aw.refl _) (.int _)⟩
 ·cases e
theorem Jq:NoX BL:=fun ds C z=>by unfold BL at z;split at z<;>cases z
theorem J2:gJ X (.type "int") (rC X BL):=by
 intro pins s σ H xs us Q I rs ⟨ds,d,r,e,q⟩
 unfold BL at e
 split at e
 ·cases e
  obtain ⟨v,rfl,r1⟩:=nN r
  cases r1
  exact rY pins s σ H _ us Q I rs (.inl ⟨_,rfl,q _ _ (aw.refl _) (.int _)⟩)
 ·cases e
  obtain ⟨v,rfl,r1⟩:=nN r
  cases r1
  exact rY pins s σ H _ us Q I rs (.inr ⟨_,rfl,q _ _ (aw.refl _) (.int _)⟩)
 ·cases e
theorem AM:MtR X "int.bit_length" (fun x xs H Q=>∃ i,x=.int i/\xs=[]/\Q (.int (nb i)) H):=by
 intro pins s σ H x xs v us Q I rx rs ⟨i,ex,exs,q⟩
 subst ex exs
 obtain ⟨t,rfl⟩:=rx
 cases rs
 refine call_int_bit_length ⟨.int (nb i),H,I.tok _,⟨_,by rw [AL]⟩,q⟩
theorem wR (ho:SE X o g) (hbase:attributeBase o "bit_length" X.env (eval o X.env)=eval o X.env:=by rfl) (hline:(apos.endLine == pos.line)=true:=by rfl):SE X (.Call (.Attribute o "bit_length" apos) [] [] pos) (EV.call jW [g]) :=
 PE.weak (Jc PySem.F.plainAttrs_int PySem.F.slot_int_bit_length PySem.F.type_int_bit_length AM ho hbase hline) fun σ H Q ⟨δ,hσ,h⟩=>⟨δ,hσ,by
  have h':RQ X σ H ((g δ).bind fun d=>jW [d]) Q:=by
   unfold EV.call evs at h
   cases r:g δ with
   | ok d=>rw [r] at h;exact h
   | ex C=>rw [r] at h;exact h
   | bad=>rw [r] at h;exact h
  refine (RQ.bind h').to fun v H' s ⟨_,d,r,q⟩ => ?_
  unfold jW at q
  split at q
  ·rename_i e
   cases e
   cases r
   exact ⟨rfl,_,rfl,rfl,q _ _ (aw.refl _) (.int _)⟩
  ·exact False.elim q⟩
noncomputable def tyV (mg:Str->Option Value):D->Option Value
 | .non=>some (.type "NoneType")
 | .bl _=>some (.type "bool")
 | .int _=>some (.type "int")
 | .str _=>some (.type "str")
 | .tup _=>some (.type "tuple")
 | .lst _=>some (.type "list")
 | .exc n=>mg n
 | _=>none
noncomputable def P4 (mg:Str->Option Value):D->Option Value
 | .ty n=>some (.type n)
 | .cls n=>mg n
 | _=>none
def Isi (X:Cx) (c:D):Prop:=∀ d k t u,gq [d,c]=.ok (.bl k)->tyV X.mg d=some t->P4 X.mg c=some u->PySem.W.kitOne X.K t u=some k
def nA (X:Cx):Prop:=∀ (e C:Addr) (n:String),av.contains n=true->X.mg n=some (.ref C)->PySem.W.KitX X.K (.ref e) (.ref C) (fun h=>∃ o vs,h.get? e=some o/\o.cls=.ref C/\o.data=.fields vs)
theorem BJ {ds:List D}:(∃ d c k,ds=[d,c]/\gq ds=.ok (.bl k))\/gq ds=.bad:=by
 rcases ds with _ | ⟨d,_ | ⟨c,_ | ⟨x,y⟩⟩⟩
 ·exact .inr rfl
 ·exact .inr rfl
 ·cases c<;>first
   | exact .inr rfl
   | (cases d<;>first
     | exact .inr rfl
     | exact isi_or rfl)
 ·first
   | exact .inr rfl
   | (cases c<;>exact .inr rfl)
theorem Bh {n:String} {c:D} {k:Bool} (h:gq [.exc n,c]=.ok (.bl k)):av.contains n=true:=by
 cases c with
 | cls B =>
  have z:=(isi_ite h).1
  rw [Bool.and_eq_true] at z
  exact z.1
 | ty B =>
  have z:=(isi_ite h).1
  rw [Bool.and_eq_true] at z
  exact z.1
 | _=>cases h
theorem LJ {c:D} (hI:Isi X c) (hE:nA X):gJ X (.builtin "isinstance") (fun vs H Q=>∃ dx d,Reps X.K X.mg H vs [dx,c]/\gq [dx,c]=.ok d/\∀ v H',aw H H'->Rep X.K X.mg H' v d->Q v H'):=by
 intro pins s σ H xs us Q I rs ⟨dx0,d,r,e,q⟩
 rcases BJ (ds:=[dx0,c]) with ⟨dx,dc,k,ez,e'⟩ | e'<;>rw [e'] at e<;>cases e
 cases ez
 obtain ⟨v,v',rfl,r1,r2⟩:=IC r
 cases rs with
 | cons h1 h2 =>
  cases h2 with
  | cons h2 h3 =>
   cases h3
   rename_i u w
   have fin:∀ tk,EP X pins σ Q (.bool k) { s with toks:=tk }:=fun tk=>⟨.bl k,H,I.tok tk,rfl,q _ _ (aw.refl _) (.bl k)⟩
   have hw:P4 X.mg c=some w:=by
    cases r2 with
    | ty n=>cases h2;rfl
    | cls hc=>cases h2;exact hc
    | _=>cases dx0<;>cases e'
   cases r1 with
   | non=>cases (show u=Value.none from h1);exact PySem.W.kia_one PySem.W.kitx_none I.kIn True.intro (hI _ k _ _ e' rfl hw) (fun z=>nomatch z) fin
   | bl y=>cases (show u=Value.bool y from h1);exact PySem.W.kia_one PySem.W.kitx_bool I.kIn True.intro (hI _ k _ _ e' rfl hw) (fun z=>nomatch z) fin
   | int i=>obtain ⟨t,z⟩:=(show ∃ t,u=Value.int i t from h1);cases z;exact PySem.W.kia_one PySem.W.kitx_int I.kIn True.intro (hI _ k _ _ e' rfl hw) (fun z=>nomatch z) fin
   | str y=>obtain ⟨t,z⟩:=(show ∃ t,u=Value.str y t from h1);cases z;exact PySem.W.kia_one PySem.W.kitx_str I.kIn True.intro (hI _ k _ _ e' rfl hw) (fun z=>nomatch z) fin
   | @tup a ys ds hq rr =>
    cases (show u=Value.ref a from h1)
    obtain ⟨its,_,⟨o,g1,g2,_⟩,_⟩:=I.tuple hq
    exact PySem.W.kia_one PySem.W.kitx_tuple I.kIn ⟨o,g1,g2⟩ (hI _ k _ _ e' rfl hw) (fun z=>nomatch z) fin
   | @lst a ys ds hq rr =>
    cases (show u=Value.ref a from h1)
    obtain ⟨its,_,⟨o,n,g1,g2,_⟩,_⟩:=I.list hq
    exact PySem.W.kia_one PySem.W.kitx_list I.kIn ⟨o,g1,g2⟩ (hI _ k _ _ e' rfl hw) (fun z=>nomatch z) fin
   | @exc a C n hn hq =>
    cases (show u=Value.ref a from h1)
    exact PySem.W.kia_one (hE a C n (Bh e') hn) I.kIn (I.hok a _ hq).1 (hI _ k _ _ e' hn hw) (fun z=>nomatch z) fin
   | ty n=>cases c<;>cases e'
   | cls _=>cases c<;>cases e'
   | ins _ _ _=>cases c<;>cases e'
theorem Bl {e2:Expr} {c:D} (hI:Isi X c) (hE:nA X) (G:Gb X "isinstance") (hm:X.mg "isinstance"=none) (ha:SE X e g) (hb:SE X e2 (con c))
  (hs:starEach [e,e2] X.env=(false,eval e X.env)::starEach [e2] X.env:=by rfl) (hs2:starEach [e2] X.env=[(false,eval e2 X.env)]:=by rfl) (hpl:(backTo pos (starEach [e2] X.env)).any (·.1)=false:=by rfl) :
  SE X (.Call (.Name "isinstance" p) [e,e2] [] pos) (EV.call gq [g,con c]) :=
 PE.weak (vx (LJ hI hE) G.g hm PyProof.Rows.boot_isinstance (aj ha (aj hb gI hs2) hs) G.n G.d hs hpl) fun σ H Q ⟨δ,hσ,h⟩=>⟨δ,hσ,by
  cases r:g δ with
  | ok d =>
   have e1:evs [g,con c] δ=.ok [d,c]:=by simp [evs,r,con,R.bind]
   unfold EV.call at h
   rw [e1] at h ⊢
   refine fun vs H' s rs => ?_
   have h':RQ X σ H' (gq [d,c]) Q:=RQ.mono s h
   rcases BJ (ds:=[d,c]) with ⟨_,_,k,_,e'⟩ | e'
   ·rw [e'] at h';exact ⟨d,_,rs,e',h'⟩
   ·rw [e'] at h';exact False.elim h'
  | ex C =>
   have e1:evs [g,con c] δ=.ex C:=by simp [evs,r,R.bind]
   unfold EV.call at h
   rw [e1] at h ⊢
   exact h
  | bad =>
   have e1:evs [g,con c] δ=.bad:=by simp [evs,r,R.bind]
   unfold EV.call at h
   rw [e1] at h
   exact False.elim h⟩
end
end ES
namespace ES
open PySem PySem.Spec PyProof.Rows L2 EV
unseal SE ST SW SA SS SSs
section
variable {prog:Program} {w:World} {A:Around} {s:Shared} {K:PySem.W.Frag} {e C:Addr}
open PySem.W PySem.Builtin PySem.Builtin.Getset_descriptor in
theorem HD {R:Result->Shared->Prop} {tp:Value} (L1:Looks (model prog w) s.heap (isSubtype (.ref C) (.type "object")) true) (L0:Looks (model prog w) s.heap (typeOf (.ref e)) (.ref C)) (done:R (.ok (.ret (.ref C))) s) :
  codeAny (model prog w) A (.call (.builtin "getset_descriptor.__get__") ⟨[.builtin "object.__class__",.ref e,tp],[]⟩) R s:=by
 obtain ⟨hh,g,dr,t,os⟩:=s
 refine codeAny_call_builtin KF.slot_gs.plain KF.entry_gs (KF.slot_gs.check _ _ _ _ _ _ _ _ KF.type_class (KF.args_gs _ _ tp) ?_)
 unfold Builtin.«getset_descriptor.__get__»;unfold descrGet;rw [dga_obj]
 refine wpAny_bind (wpAny_pure ?_)
 simp only [descrGetter,descrCheckInstance,descrNameAndClass,isInstance,KF.owner_class]
 repeat lk
 refine ⟨Code.quiet_builtin _ (by decide +kernel),?_⟩
 refine codeAny_builtin KF.entry_class ?_
 unfold Builtin.«object.__class__»;unfold shownTypeOf
 repeat lk
 exact done
open PySem.W PySem.Builtin PySem.Builtin.Getset_descriptor in
theorem B8 {E:Value->Shared->Prop} {Q:Fin->Shared->Prop} {tk:Tok} (L1:Looks (model prog w) s.heap (isSubtype (.ref C) (.type "object")) true) (L0:Looks (model prog w) s.heap (typeOf (.ref e)) (.ref C))
  (L2:Looks (model prog w) s.heap (typeLookup (.ref C) "__class__") (some (.builtin "object.__class__"))) (done:Q (.done (.ret (.ref C))) s) :
  wpAny (model prog w) A (Builtin.«object.__getattribute__» ⟨[.ref e,.str "__class__" tk],[]⟩) Q E s:=by
 obtain ⟨hh,g,dr,t,os⟩:=s
 have f5:=F.typeOf_object_class
 have f6:=F.slot_gs_get.lookup
 have f7:=F.slot_gs_set.lookup
 have hT5:(⟨hh,g,dr,t,os⟩:Shared).TypeIs (.builtin "object.__class__") "getset_descriptor":=F.typeOf_object_class
 repeat (any_goals (first | assumption | with_reducible refine L0.at ?_ | with_reducible refine L2.at ?_ | wp_step))
 refine HD L1 L0 ?_
 repeat (any_goals (first | assumption | wp_step))
open PySem.W PySem.Builtin PySem.Builtin.Getset_descriptor in
theorem B9 {M:Model} {E:Value->Shared->Prop} {nameV:Value} {Q:Unit->Shared->Prop} (L3:Looks M s.heap (isSubtype (.ref C) (.type "BaseException")) true) (L0:Looks M s.heap (typeOf (.ref e)) (.ref C)) (done:Q () s) :
  wpAny M A (checkBuiltinCall "BaseException.__getattribute__" ⟨[.ref e,nameV],[]⟩) Q E s:=by
 obtain ⟨hh,g,dr,t,os⟩:=s
 have k1:builtinKind "BaseException.__getattribute__"=some .slot:=by decide +kernel
 have k2:splitId "BaseException.__getattribute__"=some ("BaseException","__getattribute__"):=by decide +kernel
 have ha:=F.args_bexc_ga (.ref e) nameV
 simp only [checkBuiltinCall,k1,k2]
 refine wpAny_bind ?_
 unfold isInstance
 repeat (first | with_reducible refine L0.at ?_ | with_reducible refine L3.at ?_ | wp_step)
 exact done
structure XCls (K:PySem.W.Frag) (C:Addr):Prop where
 c0:PySem.W.mroIn K C (.type "object")=some true
 c1:PySem.W.mroIn K C (.type "BaseException")=some true
 c2:PySem.W.findIn K (.ref C) "__class__"=some (some (.builtin "object.__class__"))
 c3:PySem.W.findIn K (.ref C) "__getattribute__"=some (some (.builtin "BaseException.__getattribute__"))
 c4:PySem.W.findIn K (.ref C) "__getattr__"=some none
 c5:∃ cd,PySem.W.clsIn K C=some cd
open PySem.W PySem.Builtin PySem.Builtin.Getset_descriptor in
theorem Kv {E:Value->Shared->Prop} {Q:Value->Shared->Prop} {tk:Tok} (FB:ExcAttrFacts "ValueError") (L0:Looks (model prog w) s.heap (typeOf (.ref e)) (.ref C)) (c:XCls K C) (KX:K.In s.heap) (done:Q (.ref C) s) :
  wpAny (model prog w) A (getAttrBy (.ref e) (.str "__class__" tk) false) Q E s:=by
 have L1:Looks (model prog w) s.heap (isSubtype (.ref C) (.type "object")) true:=looks_mroIn KX c.c0
 have L3:Looks (model prog w) s.heap (isSubtype (.ref C) (.type "BaseException")) true:=looks_mroIn KX c.c1
 have L2:Looks (model prog w) s.heap (typeLookup (.ref C) "__class__") (some (.builtin "object.__class__")):=looks_findIn KX c.c2
 have L4:Looks (model prog w) s.heap (typeLookup (.ref C) "__getattribute__") (some (.builtin "BaseException.__getattribute__")):=looks_findIn KX c.c3
 have L5:Looks (model prog w) s.heap (typeLookup (.ref C) "__getattr__") none:=looks_findIn KX c.c4
 obtain ⟨hh,g,dr,t,os⟩:=s
 have f3:=FB.ga.bind (.ref e)
 have q2:(Value.builtin "BaseException.__getattribute__" == Value.builtin "object.__getattribute__")=false:=by decide +kernel
 have q0:(false&&onTheHeap (Value.builtin "BaseException.__getattribute__"))=false:=rfl
 have q1:(onTheHeap (Value.ref C)&&Value.builtin "BaseException.__getattribute__" == Value.builtin "object.__getattribute__")=false:=by rw [q2];rfl
 repeat (any_goals (first | assumption | with_reducible refine L0.at ?_ | with_reducible refine L4.at ?_ | with_reducible refine L5.at ?_ | wp_step))
 refine codeAny_call_builtin FB.ga.plain F.entry_bexc_ga (B9 L3 L0 (B8 L1 L0 L2 ?_))
 repeat (any_goals (first | assumption | wp_step))
open PySem.W in
theorem G3 (c:XCls K C):KitX K (.ref e) (.ref C) (fun h=>∃ o vs,h.get? e=some o/\o.cls=.ref C/\o.data=.fields vs) where
 ty:=fun M h KX ⟨o,vs,h1,h2,h3⟩=>h2▸(Looks.ld h1).andThen .now
 it:=fun M h KX _=>by
  obtain ⟨cd,hc⟩:=c.c5
  unfold clsIn at hc
  split at hc
  ·rename_i hlk
   intro A' Q' E' s' k q
   unfold isType loadHead
   exact wpAny_bind (wpAny_loadPart (k _ _ (KX _ _ hlk)) (wpAny_pure q))
  ·cases hc
 ne:=fun h tp dd its n sl KX htp=>by
  obtain ⟨cd,hc⟩:=c.c5
  unfold clsIn at hc
  split at hc
  ·rename_i hlk
   have h1:=KX _ _ hlk
   by_cases z:C=tp
   ·subst z
    rw [htp] at h1
    cases h1
   ·simpa using z
  ·cases hc
 ca:=fun {prog w A E Q s} KX ⟨o,vs,h1,h2,h3⟩ q=>by
  obtain ⟨hh,g,dr,t,os⟩:=s
  have L0:Looks (model prog w) hh (typeOf (.ref e)) (.ref C):=h2▸(Looks.ld h1).andThen .now
  have by_:∀ {tk:Tok} {t':Nat} {E':Value->Shared->Prop} {Q':Value->Shared->Prop},Q' (.ref C) ⟨hh,g,dr,t',os⟩->wpAny (model prog w) A (getAttrBy (.ref e) (.str "__class__" tk) false) Q' E' ⟨hh,g,dr,t',os⟩:=fun {tk t' E' Q'} done=>Kv (s:=⟨hh,g,dr,t',os⟩) PySem.F.excAttr_ValueError L0 c KX done
  clear h1
  unfold getAttr? getAttrBy?
  repeat (any_goals (first | assumption | with_reducible apply by_ | wp_step))
end
theorem jn {X:Cx} (h:∀ (n:String) (C:Addr),av.contains n=true->X.mg n=some (.ref C)->XCls X.K C):nA X:=fun e C n hx hn=>G3 (h n C hx hn)
end ES
namespace ES
open PySem PySem.Spec PyProof.Rows L2 EV
unseal SE ST SW SA SS SSs
theorem mG {G:List Str} (i:Nat) {x:Str} (h:G[i]? = some x:=by rfl):x∈G:=List.mem_of_getElem? h
structure XF (K:PySem.W.Frag) (mg:Str->Option Value) (n:String):Prop where
 ex:mg n=none\/∃ C,mg n=some (.ref C)/\XCls K C
theorem oW {K:PySem.W.Frag} {mg:Str->Option Value} (h:∀ n∈av,XF K mg n) (n:String) (C:Addr) (hn:av.contains n=true) (hm:mg n=some (.ref C)):XCls K C:=by
 rcases (h n (by simpa using hn)).ex with z | ⟨C',z,x⟩
 ·rw [hm] at z;cases z
 ·rw [hm] at z;cases z;exact x
structure CF (K:PySem.W.Frag) (mg:Str->Option Value) (B:Addr) (n:String):Prop where
 ex:mg n=none\/∃ C,mg n=some (.ref C)/\PySem.W.mroIn K C (.ref B)=some true
structure CB (K:PySem.W.Frag) (B:Addr):Prop where
 c1:∃ cd,PySem.W.clsIn K B=some cd
 c2:PySem.W.typeIn K (.ref B)=some (.type "type")
 c3:PySem.W.subIn K (.type "type") (.type "tuple")=some false
 c4:PySem.W.mroIn K B (.type "BaseException")=some true
theorem rL {X:Cx} {n:String} (hn:n≠"ValueError") (i0:PySem.W.kitOne X.K (.type "NoneType") (.type n)=some false) (i1:PySem.W.kitOne X.K (.type "bool") (.type n)=some (n == "int"||n == "bool")) (i2:PySem.W.kitOne X.K (.type "int") (.type n)=some (n == "int"))
  (i3:PySem.W.kitOne X.K (.type "str") (.type n)=some (n == "str")) (i4:PySem.W.kitOne X.K (.type "tuple") (.type n)=some (n == "tuple")) (i5:PySem.W.kitOne X.K (.type "list") (.type n)=some (n == "list")):Isi X (.ty n):=by
 intro d k t u e ht hu
 cases hu
 cases d with
 | exc C =>
  have z:=(isi_ite e).1
  rw [Bool.and_eq_true,beq_iff_eq] at z
  exact absurd z.2 hn
 | non=>cases ht;obtain ⟨_,rfl⟩:=isi_ite e;exact i0
 | bl b=>cases ht;obtain ⟨_,rfl⟩:=isi_ite e;exact i1
 | int b=>cases ht;obtain ⟨_,rfl⟩:=isi_ite e;exact i2
 | str b=>cases ht;obtain ⟨_,rfl⟩:=isi_ite e;exact i3
 | tup b=>cases ht;obtain ⟨_,rfl⟩:=isi_ite e;exact i4
 | lst b=>cases ht;obtain ⟨_,rfl⟩:=isi_ite e;exact i5
 | _=>cases e
structure IF (K:PySem.W.Frag) (mg:Str->Option Value) (c:Value) (k:Bool) (n:String):Prop where
 ex:mg n=none\/∃ C,mg n=some (.ref C)/\PySem.W.kitOne K (.ref C) c=some k
theorem iE:∀ {ns:List Int},PySem.W.WData.weightAll (ns.map PySem.W.WData.int)<=2^20->∀ n∈ns,nb n<=2^20
 | [],_,_,h=>nomatch h
 | m::r,hw,n,h=>by
  rw [List.map_cons,PySem.W.WData.weightAll] at hw
  rcases List.mem_cons.mp h with rfl | h
  ·have:PySem.W.WData.weight (.int n)=Builtin.Int.intBits n:=by simp only [PySem.W.WData.weight,Builtin.Int.intBits]
   rw [AL]
   omega
  ·exact iE (ns:=r) (by omega) n h
open PySem.W PySem.Calls Att in
theorem uB {l:OpenLaw} {n:Nat} {q:Program} {loose:List Str} {XP:(Str->Option Value)->Heap->Prop} {YP:World->Heap->Prop} {d:DefRec}
  (hn:l.most=some n) (hdf:d.params.defaults=[])
  (call:∀ (w:World) (s₀ s₁:Shared) (mg mb:Str->Option Value) (fa:Addr) (a:Addr) (vs:List Value) (ns:List Int),
   Ground q loose [] XP w s₀ mg mb s₁.heap->YP w s₁.heap->mg d.name=some (.ref fa) ->
   s₁.heap.get? a=some { cls:=.type "list",data:=.seq vs.toArray }->IntsAre vs ns->ns.length<=n->(∀ m∈ns,nb m<=2^20)->s₁.gens = #[] ->
   codeAny (model l.prog w) callerA (.call (.ref fa) ⟨[.ref a],[]⟩) (fun r s'=>r=.ok (.ret (.bool true))/\OldK s₁.heap s'.heap/\s'.os=s₁.os/\AllBare s'.gens) s₁) :
  WalkO q loose XP YP l.row.toRowW d [] (fun f vs=>PySem.call f vs):=by
 intro w s₀ s₁ mg mb G Y fa o pm cd doc dV kV ho hd hcd hD hmg hg args vals as hpre hlay hrd hwl hlo
 obtain rfl:dV=.none:=Dflts.none hD hdf
 obtain rfl:kV=.none:=Dflts.noKw hD
 obtain ⟨a,vs,ns,rfl,rfl,hobj,hints,hlen⟩:=zS hn hpre hwl
 have hb:∀ m∈ns,nb m<=2^20:=by
  have h1:=(layableW_iff.mp (layW_cons hlay).1).2.2
  rw [WData.weight] at h1
  exact iE h1
 refine enter_call (codeAny_mono (call w s₀ s₁ mg mb fa a vs ns G Y hmg hobj hints hlen hb hg) fun r s' hq => ?_)
 obtain ⟨rfl,h2,h3,h4⟩:=hq
 exact ⟨.inl ⟨.bool true,.bool true,[],rfl,fun _=>rfl,.bool true,Ah l _,fun _=>⟨List.Pairwise.nil,fun _ hm=>(nomatch hm)⟩⟩,h2,h3,h4⟩
theorem Cd {l:PySem.W.OpenLaw} {k:Nat} {q:Program} {loose:List Str} {XP:(Str->Option Value)->Heap->Prop} {YP:World->Heap->Prop} {d:DefRec} {K:Params->PySem.W.Frag} {x:Str} {f:List D->R D}
  (hf:Good f) (hn:l.most=some 63) (hdf:d.params.defaults=[]) (hr:Room k callerA)
  (hY:∀ (w:World) (h:Heap),YP w h->(K w.params).In h)
  (F:∀ (w:World) (mg:Str->Option Value) (fa:Addr) (h:Heap),(K w.params).In h->h.Ns mainGlobals mg->mg d.name=some (.ref fa) ->
   ∃ fd:FuncData,(∀ (s:Shared) (u:Value),BindsTo s fd ⟨[u],[]⟩ [(x,u)]) /\
    ∀ base:Heap,(K w.params).In base->base.Ns mainGlobals mg->FnOk l.prog w (K w.params) mg base (CXF l.prog w) k fa fd [x] (spP (K w.params) mg f)) :
  PySem.W.WalkO q loose XP YP l.row.toRowW d [] (fun f vs=>PySem.call f vs):=by
 refine uB hn hdf fun w s₀ s₁ mg mb fa a vs ns G Y hmg hobj hints hlen hbits hg => ?_
 have KX:=hY w _ Y
 obtain ⟨fd,hb,hF⟩:=F w mg fa _ KX G.T.g hmg
 refine CU KX G.T.g G.T.b G.T.builtins G.T.nolimit hg hobj hints (Nat.le_trans hlen (by decide)) hr hF hb (fun H hO hS=>⟨[.lst (ns.map .int)],.cons (.lst hS (Reps.ints ns)) .nil,?_⟩) fun H e s' ⟨_,_,_,_,_,z⟩=>z
 rw [hf ns hlen hbits]
 exact fun v H' _ r=>by cases r;rfl
end ES
namespace ES
open PySem PySem.Spec PyProof.Rows L2 EV
unseal SE ST SW SA SS SSs
structure FldOk (X:Cx) (cn f:String):Prop where
 ex:∃ C,X.mg cn=some (.ref C)/\Cls X.K C/\ju X.K C f
structure MethOk (X:Cx) (cn m:String) (F:List D->R D):Prop where
 ex:∃ C fa k fd ps,X.mg cn=some (.ref C)/\Cls X.K C/\Meth X.K C m fa/\FnOk X.prog X.w X.K X.mg X.base (CXF X.prog X.w) k fa fd ps (spP X.K X.mg F)/\Room k X.A/\Binds X.K fd ps []
section
variable {X:Cx} {o e:Expr} {es:List Expr} {go:E} {gs:List E} {pos apos p:Pos} {cn f m:String} {F:List D->R D}
theorem Bm (h:FldOk X cn f) (ho:SE X o go) (hb:attributeBase o f X.env (eval o X.env)=eval o X.env:=by rfl):SE X (.Attribute o f pos) (un (yB cn f) go):=by
 obtain ⟨C,hC,cl,na⟩:=h.ex
 refine PE.weak (Jb ho hb) fun σ H Q ⟨δ,hσ,h⟩=>⟨δ,hσ,(RQ.bind h).to fun v H' s ⟨_,d,r,q⟩ => ?_⟩
 cases r with
 | @ins a C' dx n fs ds hn ha rf =>
  unfold yB at q
  simp only at q
  split at q
  ·rename_i hcn
   rw [beq_iff_eq] at hcn
   subst hcn
   split at q
   ·rename_i d hd
    obtain ⟨v,e1,e2⟩:=rf.lookup hd
    rw [hC] at hn
    cases hn
    exact ⟨a,C,dx,fs,v,rfl,ha,cl,na,e1,q _ _ (aw.refl _) e2⟩
   ·exact False.elim q
  ·exact False.elim q
 | _=>exact False.elim q
theorem GI {σ:L2.St} {H:Hp} {δ:Dt} {d:D} {es:List E} {Q:VK} (h:RQ X σ H (if fJ cn m d then (evs es δ).bind fun ds=>F (d::ds) else .bad) Q):fJ cn m d=true/\RA X σ H (evs es δ) fun vs H'=>aw H H'/\∃ ds,Reps X.K X.mg H' vs ds/\RQ X σ H' (F (d::ds)) Q:=by
 by_cases hm:fJ cn m d=true
 ·rw [if_pos hm] at h
  refine ⟨hm,?_⟩
  have h2:RQ X σ H ((evs es δ).bind fun ds=>F (d::ds)) Q:=h
  cases r:evs es δ with
  | ok ds=>rw [r] at h2;exact fun vs H' s rs=>⟨s,ds,rs,RQ.mono s h2⟩
  | ex C=>rw [r] at h2;exact h2
  | bad=>rw [r] at h2;exact h2
 ·rw [if_neg hm] at h;exact False.elim h
theorem wO {pl:Sem Bool} (h:MethOk X cn m F) (ho:SE X o go) (ha:SA X (e::es) gs)
  (hst:starEach (e::es) X.env=(false,eval e X.env)::starEach es X.env:=by rfl) (hpl:(backTo pos (starEach es X.env)).any (·.1)=false:=by rfl)
  (ht:eval (.Call (.Attribute o m apos) (e::es) [] pos) X.env=(do
   let ov<-eval o X.env
   standAt apos.atName
   let (f,first)<-holding [ov] (getMethod ov m pl)
   callWith pos f first (backTo pos (starEach (e::es) X.env)) (backToKw pos (keywordEach [] X.env))):=by rfl) :
  SE X (.Call (.Attribute o m apos) (e::es) [] pos) (Hu cn m F go gs):=by
 obtain ⟨C,fa,k,fd,ps,hC,cl,hm,FO,hr,hb⟩:=h.ex
 intro pins s σ H Q I ⟨δ,hσ,h⟩
 refine PySem.W.methodCall_KW (pl:=pl) (thn (ho pins s σ H _ I ⟨δ,hσ,RQ.bind h⟩) fun u s1 ⟨x,H1,I1,rx,sm,d,rd,q⟩ => ?_) ht
 obtain ⟨im,qa⟩:=GI q
 cases rd with
 | @ins a C' dx n fs ds hn hA rf =>
  unfold fJ at im
  rw [Bool.and_eq_true,beq_iff_eq] at im
  obtain ⟨e1,e2⟩:=im
  subst e1
  rw [hC] at hn
  cases hn
  have l:fs.lookup (m:Str)=none:=rf.lookupN (by simpa using e2)
  obtain rfl:u=Value.ref a:=rx
  refine yj I1 hA cl hm l ?_
  refine PySem.W.callWith_K (first:=[.ref a]) (h₀:=X.base) I.ok.mod.kin hm.kp (thn (ha pos pins s1 σ H1 _ I1 ⟨δ,hσ.mono sm,qa⟩) fun us s2 ⟨vs,H2,I2,r,sm2,ds',rs,q2⟩=>⟨I2.kIn,?_⟩) hst hpl
  exact IA (us:=.ref a::us) (vs:=.ref a::vs) FO hr hb I2 (.cons rfl r) (.cons (.ins hC (sm2 _ _ hA) (rf.mono sm2)) rs) q2
 | _=>cases im
noncomputable def spI (K:PySem.W.Frag) (f:Str):Sp:=fun vs H Q _=>∃ x v C dx,vs=[.ref x,v]/\H x=some (.ins C dx [])/\Cls K C/\ju K C f/\Q .non (upd H x (.ins C dx [(f,v)]))
theorem GP {P:Program} {w:World} {K:PySem.W.Frag} {mg:Str->Option Value} {base:Heap} {x qual ps pa f:Str} {st:Stmt} {fa:Addr} {fd:FuncData} {p1 p2 p3 p4:Pos} {k:Nat} (F:Fun K x qual st fa fd)
  (S:FnScope [ps,pa] [ps,pa] (aa st)) (h0:(aa st).names.lookup ps=some .local) (h1:(aa st).names.lookup pa=some .local) (d0:(ps == ("__debug__":Str))=false/\(ps == ("__classdict__":Str))=false) (d1:(pa == ("__debug__":Str))=false/\(pa == ("__classdict__":Str))=false)
  (hb:ag st=[.Assign [.Attribute (.Name ps p1) f p2] (.Name pa p3) p4]) (hsw:∀ env,swapsWith (.Name pa p3) (some (.Attribute (.Name ps p1) f p2)) p4.line env=pure false):FnOk P w K mg base CX0 (k+1) fa fd [ps,pa] (spI K f):=by
 refine F.ok S (fun vs H Q E h => ?_) fun cdv A outer s H vs Q E hr h => ?_
 ·obtain ⟨_,_,_,_,rfl,_⟩:=h
  rfl
 ·obtain ⟨a,v,C,dx,rfl,hH,cl,na,q⟩:=h
  rw [hb]
  refine ⟨_,Ag (IP (Ak (i:=0) rfl (.inl h0) d0.1 d0.2) (Ak (i:=1) rfl (.inl h1) d1.1 d1.2) (hsw _)),?_⟩
  exact ⟨v,rfl,_,rfl,a,C,dx,[],rfl,hH,cl,na,by decide,q⟩
structure MakeOk (X:Cx) (cn f:String):Prop where
 ex:∃ C fa k fd ps,X.mg cn=some (.ref C)/\Cls X.K C/\ju X.K C f/\Mk X.K C fa/\FnOk X.prog X.w X.K X.mg X.base CX0 k fa fd ps (spI X.K f)/\Room (k+1) X.A/\Binds X.K fd ps []
theorem G9 (h:MakeOk X cn f) (G:Gb X cn) (ha:SA X (e::es) gs) (he:starEach (e::es) X.env=(false,eval e X.env)::starEach es X.env:=by rfl) (hpl:(backTo pos (starEach es X.env)).any (·.1)=false:=by rfl) :
  SE X (.Call (.Name cn p) (e::es) [] pos) (EV.call (mk1 cn f) gs):=by
 obtain ⟨C,fa,k,fd,ps,hC,cl,na,M,F,hr,hb⟩:=h.ex
 refine PE.weak (F9 (E:=fun _ _ _=>False) M F hr G.g hC hb .nil K9 ha G.d he hpl) fun σ H Q ⟨δ,hσ,h⟩=>⟨δ,hσ,(RA.bind h).to fun vs H' s ⟨_,ds,rs,q⟩ x dx hx hdx hne => ?_⟩
 unfold mk1 at q
 split at q
 ·rename_i d
  obtain ⟨v,rfl,r⟩:=nN rs
  refine ⟨x,v,C,dx,rfl,bG,cl,na,rfl,?_⟩
  have s1:aw H' (upd H' dx (.own x)):=a9 hdx _
  have hx1:(upd H' dx (.own x)) x=none:=by rw [bI (Ne.symm hne)];exact hx
  have s2:aw (upd H' dx (.own x)) (upd (upd H' dx (.own x)) x (.ins C dx [])):=a9 hx1 _
  have s3:aw H' (upd (upd (upd H' dx (.own x)) x (.ins C dx [])) x (.ins C dx [((f:Str),v)])):=fun b o e=>by
   have hb:b≠x:=cU e hx
   rw [bI hb,bI hb]
   exact s1 b o e
  exact q _ _ s3 (.ins hC bG (.cons (r.mono s3) .nil))
 ·exact False.elim q
end
end ES
namespace ES
open PySem PySem.Spec PyProof.Rows L2 EV
unseal SE ST SW SA SS SSs
def Dp (X:Cx) (J:It) (H:Hp) (ds:List D):Prop:=∀ Hc,aw H Hc ->
 (∀ i d,ds[i]? = some d->J.go i Hc/\∀ x H',J.yld i Hc x H'->H'=Hc/\Rep X.K X.mg H x d)/\∀ i,ds.length<=i->J.stop i Hc
def RI (X:Cx) (σ:L2.St) (H:Hp) (r:R (List D)) (Q:It->Hp->Prop):Prop:=match r with
 | .ok ds=>∀ J H',aw H H'->Dp X J H' ds->Q J H'
 | .ex C=>∀ Ca,X.mg C=some (.ref Ca)->∀ H',aw H H'->ew X Ca σ H'
 | .bad=>False
noncomputable def tI (X:Cx) (g:IT):TI:=fun σ H Q=>∃ δ,Stt X.K X.mg H σ δ/\RI X σ H (g δ) Q
@[irreducible] noncomputable def SI (X:Cx) (tg iter:Expr) (g:IT):Prop:=PI X tg iter (tI X g)
unseal SI
section
variable {X:Cx} {tg e a b:Expr} {g ga gb:E} {σ:L2.St} {H H1:Hp}
theorem RI.mono {r:R (List D)} {Q:It->Hp->Prop} (s:aw H H1) (h:RI X σ H r Q):RI X σ H1 r Q:=by
 cases r with
 | ok d=>exact fun v H' s' r=>h v H' (s.trans s') r
 | ex C=>exact fun Ca hc H' s'=>h Ca hc H' (s.trans s')
 | bad=>exact h
theorem RI.bind {r:R D} {f:D->R (List D)} {Q:It->Hp->Prop} (h:RI X σ H (r.bind f) Q):RQ X σ H r (fun v H'=>aw H H'/\∃ d,Rep X.K X.mg H' v d/\RI X σ H' (f d) Q):=by
 cases r with
 | ok d=>exact fun v H' s r=>⟨s,d,r,h.mono s⟩
 | ex C=>exact h
 | bad=>exact h
theorem PI.weak {t t':TI} (h:PI X tg e t) (w:∀ σ H Q,t' σ H Q->t σ H Q):PI X tg e t':=fun pins s σ H Q I q=>h pins s σ H Q I (w σ H Q q)
theorem ER (h:SE X e g):SI X tg e (itL g):=PI.weak (F8 h) fun σ H Q ⟨δ,hσ,q⟩=>⟨δ,hσ,(RI.bind q).to fun v H' s ⟨_,d,r,q⟩=>by
 cases d with
 | lst ds =>
  cases r with
  | @lst p xs _ hq rs =>
   refine ⟨p,rfl,⟨xs,hq⟩,q _ _ (aw.refl _) fun Hc sc=>⟨fun i d hd => ?_,fun i hi=>⟨xs,sc.seq hq,by rw [rs.length];exact hi⟩⟩⟩
   obtain ⟨v,e1,r1⟩:=rs.get hd
   exact ⟨⟨xs,v,sc.seq hq,e1⟩,fun x H'' ⟨e2,y⟩=>by
    have:=y xs (sc.seq hq)
    rw [e1] at this
    cases this
    exact ⟨e2,r1⟩⟩
 | _=>exact False.elim q⟩
theorem Lv (h:SE X e g):SI X tg e (itT g):=PI.weak (IS h) fun σ H Q ⟨δ,hσ,q⟩=>⟨δ,hσ,(RI.bind q).to fun v H' s ⟨_,d,r,q⟩=>by
 cases d with
 | tup ds =>
  cases r with
  | @tup p xs _ hq rs =>
   refine ⟨p,rfl,⟨xs,hq⟩,q _ _ (aw.refl _) fun Hc sc=>⟨fun i d hd => ?_,fun i hi=>⟨xs,i6 sc hq,by rw [rs.length];exact hi⟩⟩⟩
   obtain ⟨v,e1,r1⟩:=rs.get hd
   exact ⟨⟨xs,v,i6 sc hq,e1⟩,fun x H'' ⟨e2,y⟩=>by
    have:=y xs (i6 sc hq)
    rw [e1] at this
    cases this
    exact ⟨e2,r1⟩⟩
 | _=>exact False.elim q⟩
end
def FI (X:Cx) (σ:L2.St) (H:Hp) (os:Os) (δ:Dt) (r:R (List D)) (Q:It->Hp->Prop):Prop:=match r with
 | .ok ds=>∀ J H',StO X H' σ δ os->aw (hide H os) (hide H' os)->Dp X J (hide H' os) ds->Q J H'
 | .ex C=>∀ Ca,X.mg C=some (.ref Ca)->∀ H',aw (hide H os) H'->Stt X.K X.mg H' σ (noOwn δ)->ew X Ca σ H'
 | .bad=>False
noncomputable def tFI (X:Cx) (g:IT):TI:=fun σ H Q=>∃ δ os,StO X H σ δ os/\FI X σ H os δ (g δ) Q
section
variable {X:Cx} {N:List Str} {tg e:Expr} {g:IT}
theorem JL (hx:X.ex=[]) (h:SI X tg e g):PI X tg e (tFI X g):=by
 intro pins s σ H Q I ⟨δ,os,S,q⟩
 have hl:=S.lsts
 have hw:RI X σ (hide H os) (g δ) (fun J H1=>aw (hide H os) H1/\∃ ds,g δ=.ok ds/\Dp X J H1 ds):=by
  cases r:g δ with
  | ok d=>exact fun v H' s r=>⟨s,d,rfl,r⟩
  | ex C =>
   rw [r] at q
   exact fun Ca hc H' s'=>q Ca hc H' s' (S.noOwn s')
  | bad=>rw [r] at q;exact q
 refine thn (h _ s σ _ _ (pV I hl) ⟨δ,S.st,hw⟩) fun v s1 h1=>thn h1 fun itv s2 h2 => ?_
 obtain ⟨it,fp,tn,J,H1,e1,I1,T,st,fpk,sm,ds,e2,wk⟩:=h2
 obtain ⟨I2,hn⟩:=pU hx I hl I1
 rw [e2] at q
 have eh:=jg (H:=H) hn
 refine ⟨it,fp,tn,J,iQ H H1 os,e1,I2,T,st,fun b hb => ?_,q J _ (S.shown sm hn) (by rw [eh];exact sm) (by rw [eh];exact wk)⟩
 obtain ⟨f0,f1,f2,f3,f4,f5⟩:=fpk b hb
 have nb:b∉qj os:=fun z=>by
  obtain ⟨xs,hh⟩:=hl b z
  obtain ⟨o,eo⟩:∃ o,s.heap.get? b=some o:=by
   obtain ⟨_,its,n,_,eo⟩:=I.hok b _ hh
   exact ⟨_,eo⟩
  exact f5 (b,o) (List.mem_append_right _ (List.mem_append_right _ (fI z eo))) rfl
 refine ⟨by unfold iQ;rw [if_neg nb];exact f0,f1,f2,f3,f4,fun p hp=>f5 p ?_⟩
 rw [<- List.append_assoc]
 exact List.mem_append_left _ hp
variable {body:List Stmt} {gb:S} {pos:Pos}
theorem vj (C:Sx X N) (L:Lp X) (i:Nat) {x:Str} {pos':Pos} (hN:N[i]? = some x) (hx:Sto X x) (he:SI X (.Name x pos') e g) (hb:SSs X body gb) (hs:∀ x,foldedSetIterable e X.env x=pure x:=by intro _;rfl) :
  SS X (.For (.Name x pos') e body [] pos) (EX i g gb):=by
 refine PS.weak (IM L.own L.calm (JL C.ex he) (Aj (i:=i) (by rw [C.sc.n];exact C.sc.nd) (by rw [C.sc.n];exact hN) hx.1 hx.2) hb hs) fun D σ H ⟨δ,os,S,q⟩=>⟨δ,os,S,?_⟩
 unfold EX ovI at q
 cases r:g δ with
 | ok ds =>
  rw [r] at q
  intro J H1 S1 s1 wk
  refine ⟨fun n m σ' H'=>m=ds.length - n/\n<=ds.length/\Pv X D (hide H os) (hide H1 os) i gb ds n σ' H',⟨ds.length,by simp,Nat.zero_le _,δ,os,S1,aw.refl _,s1,by rw [List.drop_zero];exact q⟩,?_⟩
  rintro n m σ' H' ⟨rfl,hn,p⟩
  obtain ⟨δ',os',S',s',s0,q'⟩:=id p
  have w:=wk H' (s'.trans (gX _ _))
  by_cases hlt:n<ds.length
  ·have hd:ds[n]? = some ds[n]:=List.getElem?_eq_getElem hlt
   refine .inr ⟨(w.1 n _ hd).1,Pv X D (hide H os) (hide H1 os) i gb ds (n+1),fun σ2 H2 z=>⟨ds.length - (n+1),by omega,rfl,by omega,z⟩,fun x H'' y => ?_⟩
   obtain ⟨e1,r1⟩:=(w.1 n _ hd).2 x H'' y
   subst e1
   exact Ft hd (fun H' s'=>r1.mono s') p
  ·exact .inl ⟨w.2 n (by omega),JS (by omega) p⟩
 | ex C=>rw [r] at q;exact fun Ca hc H' s' st=>q σ H' s' st Ca hc
 | bad=>rw [r] at q;exact q
end
end ES
namespace ES
open PySem PySem.Spec PyProof.Rows L2 EV
unseal SE ST SW SA SS SSs SI
noncomputable def B5 (env:Env):List (Str×NameKind)->List (Str×Addr)->List (Str×Addr)
 | [],cs=>cs
 | (n,k)::r,cs=>B5 env r (if k == .free then (n,(env.cells.lookup n).getD 0)::cs else cs)
theorem yr {sc:Scope} {env:Env} (h:∀ y,(y,NameKind.free)∈sc.names->∃ c,env.cells.lookup y=some c):closureFor sc env=pure (B5 env sc.names []):=by
 unfold closureFor
 have key:∀ (l:List (Str×NameKind)) (cs:List (Str×Addr)),(∀ y,(y,NameKind.free)∈l->∃ c,env.cells.lookup y=some c) ->
   (forIn l cs fun x (r:List (Str×Addr))=>(match x with | (name,kind)=>if (kind == NameKind.free)=true then do let a<-cellOf env name;pure (ForInStep.yield ((name,a)::r)) else pure (ForInStep.yield r)):Sem _)=pure (B5 env l cs):=by
  intro l
  induction l with
  | nil=>intro cs _;rfl
  | cons p r ih =>
   intro cs hl
   obtain ⟨n,k⟩:=p
   rw [List.forIn_cons]
   by_cases hk:(k == NameKind.free)=true
   ·obtain ⟨c,hc⟩:=hl n (by rw [beq_iff_eq] at hk;subst hk;exact .head _)
    simp only [hk,if_true,cellOf,hc,B5]
    exact ih _ fun y hy=>hl y (.tail _ hy)
   ·simp only [hk,Bool.false_eq_true,if_false,B5]
    exact ih _ fun y hy=>hl y (.tail _ hy)
 simp only [key sc.names [] h]
 rfl
theorem Fb {env:Env}:∀ {l:List (Str×NameKind)} {cs:List (Str×Addr)},(∀ y,(y,NameKind.free)∈l->∃ c,env.cells.lookup y=some c)->(∀ y c,cs.lookup y=some c->env.cells.lookup y=some c)->∀ y c,(B5 env l cs).lookup y=some c->env.cells.lookup y=some c
 | [],_,_,h=>h
 | (n,k)::r,cs,hl,h=>by
  refine Fb (l:=r) (fun y hy=>hl y (.tail _ hy)) fun y c e => ?_
  by_cases hk:(k == NameKind.free)=true
  ·rw [if_pos hk,List.lookup_cons] at e
   cases q:(y == n) with
   | true =>
    rw [q] at e
    obtain ⟨c',hc⟩:=hl n (by rw [beq_iff_eq] at hk;subst hk;exact .head _)
    rw [beq_iff_eq] at q
    subst q
    rw [hc] at e ⊢
    simpa using e
   | false=>rw [q] at e;exact h y c e
  ·rw [if_neg hk] at e;exact h y c e
theorem Bu {env:Env}:∀ {l:List (Str×NameKind)} {cs:List (Str×Addr)} {y:Str},((y,NameKind.free)∈l\/∃ c,cs.lookup y=some c)->∃ c,(B5 env l cs).lookup y=some c
 | [],_,_,h=>h.elim (fun z=>nomatch z) id
 | (n,k)::r,cs,y,h=>by
  refine Bu (l:=r) ?_
  rcases h with h | ⟨c,h⟩
  ·rcases List.mem_cons.mp h with z | z
   ·cases z
    exact .inr ⟨_,by rw [if_pos (show (NameKind.free == NameKind.free)=true from rfl),List.lookup_cons,beq_self_eq_true]⟩
   ·exact .inl z
  ·refine .inr ?_
   by_cases hk:(k == NameKind.free)=true
   ·rw [if_pos hk,List.lookup_cons]
    cases q:(y == n) with
    | true=>exact ⟨_,rfl⟩
    | false=>exact ⟨c,h⟩
   ·rw [if_neg hk];exact ⟨c,h⟩
theorem gP {sc:Scope} {env:Env} {x:Str} {k:NameKind} (hk:k ≠ .free):sc.names.lookup x=some k->(relabel sc env).names.lookup x=some k:=by
 unfold relabel
 simp only
 generalize sc.names=l
 induction l with
 | nil=>intro h;cases h
 | cons p r ih =>
  obtain ⟨n,k'⟩:=p
  intro h
  rw [List.lookup_cons] at h
  rw [List.map_cons]
  cases q:(x == n) with
  | true =>
   rw [q] at h
   have e:k'=k:=by simpa using h
   subst e
   have:(k' == NameKind.free)=false:=by simpa using hk
   simp [this,List.lookup_cons,q]
  | false =>
   rw [q] at h
   split<;>(rw [List.lookup_cons,q];exact ih h)
theorem j9 {sc:Scope} {env:Env} {x:Str} (hf:env.scope.kind=.function) (hc:env.kindOf x=some .cell):sc.names.lookup x=some .free->(relabel sc env).names.lookup x=some .cell:=by
 unfold relabel
 simp only
 generalize sc.names=l
 induction l with
 | nil=>intro h;cases h
 | cons p r ih =>
  obtain ⟨n,k'⟩:=p
  intro h
  rw [List.lookup_cons] at h
  rw [List.map_cons]
  cases q:(x == n) with
  | true =>
   rw [q] at h
   have e:k'=.free:=by simpa using h
   subst e
   rw [beq_iff_eq] at q
   subst q
   simp [hf,hc,List.lookup_cons]
  | false =>
   rw [q] at h
   split<;>(rw [List.lookup_cons,q];exact ih h)
theorem om {sc:Scope} {env:Env} {x:Str} {k:NameKind}:(relabel sc env).names.lookup x=some k->sc.names.lookup x=some k\/(sc.names.lookup x=some .free/\k=.cell):=by
 unfold relabel
 simp only
 generalize sc.names=l
 induction l with
 | nil=>intro h;cases h
 | cons p r ih =>
  obtain ⟨n,k'⟩:=p
  intro h
  rw [List.map_cons] at h
  rw [List.lookup_cons]
  cases q:(x == n) with
  | true =>
   split at h
   ·rename_i hc
    rw [List.lookup_cons,q] at h
    have e:NameKind.cell=k:=by simpa using h
    simp only [Bool.and_eq_true,beq_iff_eq] at hc
    exact .inr ⟨by rw [hc.1.1],e.symm⟩
   ·rw [List.lookup_cons,q] at h
    have e:k'=k:=by simpa using h
    exact .inl (by rw [e])
  | false=>split at h<;>(rw [List.lookup_cons,q] at h;exact ih h)
structure ScC (x:Str) (ks G:List Str) (sc:Scope):Prop where
 kind:sc.kind=.function
 noc:∀ y∈sc.names,y.2 ≠ .cell
 nms:∀ y∈sc.names,y.2=.local->sc.names.lookup y.1=some .local
 loc:sc.names.lookup x=some .local
 fre:∀ y∈ks,sc.names.lookup y=some .free
 all:∀ y∈sc.names,y.2=.free->y.1∈ks
 glb:∀ y∈G,sc.names.lookup y=some .globalImplicit
 nd:(x::ks).Nodup
 dbg:∀ y∈x::ks,(y == ("__debug__":Str))=false/\(y == ("__classdict__":Str))=false
 dbgG:∀ y∈G,(y == ("__debug__":Str))=false/\y≠"__name__"
noncomputable def cxC (X:Cx) (x:Str) (ks:List Str) (sc:Scope) (C:Addr) (fp:List Addr) (s:Shared) (H:Hp):Cx :=
 { X with N:=x::ks,s₀:=s,H₀:=H,env:={ newEnv sc C X.env.globals (B5 X.env sc.names []) X.env.qual none .none (some X.env) X.env.builtins with scope:=relabel sc X.env },outer:=X.stack,stack:=X.stack,ex:=fp,fn:=fun _=>false,pn:=[],xe:=fun _ _=>False }
theorem HH {fs ex:List Addr} {H H':Hp} {h h1 h2:Heap} {C:Addr} (u:Un fs ex H H' h h1) (hC:h.objs.size<=C) (sb:Heap.SameBut C h1 h2):Un fs ex H H' h h2:=by
 have ne:∀ {b:Addr} {o:Obj},h.get? b=some o->b≠C:=fun {b o} e=>Nat.ne_of_lt (Nat.lt_of_lt_of_le (Heap.lt_size e) hC)
 refine ⟨fun b o e n hb hx=>(sb.2 b (ne e)).trans (u.keep b o e n hb hx),fun b o e n hb hx => ?_,u.free,fun b o e hx => ?_,u.tups,u.frzs,u.tbls⟩
 ·obtain ⟨sl,q⟩:=u.slot b o e n hb hx
  exact ⟨sl,(sb.2 b (ne e)).trans q⟩
 ·obtain ⟨o',q⟩:=u.there b o e hx
  exact ⟨o',(sb.2 b (ne e)).trans q⟩
theorem GS {P:Program} {w:World} {H:Hp} {h1 h2:Heap} {C:Addr} (hok:HOk P w H h1) (hC:H C=none) (sb:Heap.SameBut C h1 h2):HOk P w H h2:=fun b u e =>
 (hok b u e).stay (fun c o hc q=>(sb.2 c (fun z=>by
  subst z
  rcases hc with rfl | hc
  ·rw [hC] at e;cases e
  ·rw [hC] at hc;cases hc)).trans q) (fun _ q=>q) fun _ _ q=>q
theorem AU {prog:Program} {w:World} {A:Around} {R:Result->Shared->Prop} {s:Shared} {elt target iter:Expr} {ifs:List Expr} {scope:Scope} {pos:Pos} {it acc:Value} {env:Env} (J:Nat->Shared->Prop)
  (turn:∀ n s,J n s->wpAny (model prog w) A (pyNext it) (fun r s1=>match r with
   | none=>R (.ok .next) s1
   | some v=>wpAny (model prog w) A (letOwnedTupleGo target it v) (fun _ s2=>wpAny (model prog w) A (assign target env v) (fun _ s3 =>
     wpAny (model prog w) A (forIn ifs true fun c r=>if r=true then do let ok<-isTrue c env (eval c env);pure (ForInStep.yield ok) else pure (ForInStep.yield r)) (fun ok s4 =>
      if ok=true then wpAny (model prog w) A (eval elt env) (fun x s5=>wpAny (model prog w) A (PySem.call (.builtin "list.append") [acc,x]) (fun _ s6=>∃ m,m<n/\J m s6) (fun _ _=>False) s5) (fun _ _=>False) s4
      else ∃ m,m<n/\J m s4) (fun _ _=>False) s3) (fun _ _=>False) s2) (fun _ _=>False) s1) (fun _ _=>False) s)
  (n:Nat) (h:J n s):codeAny (model prog w) A (.compLoop (.ListComp elt [⟨target,iter,ifs,0⟩] scope pos) 0 it acc env) R s:=by
 refine codeAny_loop rfl J (fun n s hJ => ?_) n h
 show wpAny _ _ ((compTurn (.ListComp elt [⟨target,iter,ifs,0⟩] scope pos) 0 it acc env).onRaise fun x=>do
  noteFrame x env
  theTreesLotGoes x) _ _ s
 refine wpAny_noted ?_
 rw [compTurn_list]
 refine wpAny_bind (wpAny_standAt (wpAny_bind (wpAny_mono (turn n s hJ) (fun r s1 h1 => ?_) fun _ _ z=>z.elim)))
 cases r with
 | none=>exact wpAny_pure h1
 | some v =>
  refine wpAny_bind (wpAny_mono h1 (fun _ s2 h2 => ?_) fun _ _ z=>z.elim)
  refine wpAny_bind (wpAny_mono h2 (fun _ s3 h3 => ?_) fun _ _ z=>z.elim)
  refine wpAny_bind (wpAny_mono h3 (fun ok s4 h4 => ?_) fun _ _ z=>z.elim)
  cases ok with
  | true =>
   rw [if_pos rfl] at h4
   simp only [if_true]
   refine wpAny_bind (wpAny_bind (wpAny_mono h4 (fun x s5 h5 => ?_) fun _ _ z=>z.elim))
   exact wpAny_bind (wpAny_mono h5 (fun _ s6 h6=>wpAny_pure (wpAny_pure ⟨rfl,h6⟩)) fun _ _ z=>z.elim)
  | false =>
   rw [if_neg Bool.false_ne_true] at h4
   simp only [Bool.false_eq_true,if_false]
   first
    | exact wpAny_pure ⟨rfl,h4⟩
    | exact wpAny_bind (wpAny_pure (wpAny_pure ⟨rfl,h4⟩))
theorem vn {st:D->R (Option D)}:∀ {l1 l2 rs:List D},runC st (l1++l2)=.ok rs->∃ r1 r2,runC st l1=.ok r1/\runC st l2=.ok r2/\rs=r1++r2
 | [],l2,rs,h=>⟨[],rs,rfl,h,rfl⟩
 | d::l1,l2,rs,h=>by
  rw [List.cons_append] at h
  simp only [runC] at h ⊢
  cases q:st d with
  | ok o =>
   rw [q] at h
   simp only [R.bind] at h ⊢
   cases q2:runC st (l1++l2) with
   | ok r =>
    rw [q2] at h
    obtain ⟨r1,r2,e1,e2,e3⟩:=vn q2
    rw [e1]
    cases o with
    | none =>
     have e:r=rs:=by simpa using h
     exact ⟨r1,r2,rfl,e2,by rw [<- e,e3]⟩
    | some x =>
     have e:x::r=rs:=by simpa using h
     exact ⟨x::r1,r2,rfl,e2,by rw [<- e,e3];rfl⟩
   | ex C=>rw [q2] at h;cases h
   | bad=>rw [q2] at h;cases h
  | ex C=>rw [q] at h;cases h
  | bad=>rw [q] at h;cases h
theorem zZ {st:D->R (Option D)} {l:List D} {d:D} {r1:List D} {o:Option D} (h1:runC st l=.ok r1) (h2:st d=.ok o):runC st (l++[d])=.ok (r1++o.toList):=by
 induction l generalizing r1 with
 | nil =>
  cases h1
  rw [List.nil_append]
  unfold runC
  rw [h2]
  cases o<;>rfl
 | cons x l ih =>
  rw [List.cons_append]
  unfold runC at h1 ⊢
  cases q:st x with
  | ok o' =>
   rw [q] at h1
   simp only [R.bind] at h1 ⊢
   cases q2:runC st l with
   | ok r =>
    rw [q2] at h1
    rw [ih q2]
    cases o'<;>(cases h1;rfl)
   | ex C=>rw [q2] at h1;cases h1
   | bad=>rw [q2] at h1;cases h1
  | ex C=>rw [q] at h1;cases h1
  | bad=>rw [q] at h1;cases h1
theorem mK:∀ {a b:List D},D.flats (a++b)=true->D.flats a=true/\D.flats b=true
 | [],b,h=>⟨rfl,h⟩
 | d::a,b,h=>by
  rw [List.cons_append] at h
  have h':d.flat=true/\D.flats (a++b)=true:=by simpa [D.flats] using h
  obtain ⟨h1,h2⟩:=mK h'.2
  exact ⟨by simp [D.flats,h'.1,h1],h2⟩
theorem wj {α:Type} {r:R α} {C:String} (h:EE r=.ex C):False:=by cases r<;>cases h
theorem AK {α:Type} {r:R α} {a:α} (h:EE r=.ok a):r=.ok a:=by
 cases r with
 | ok x=>exact h
 | ex C=>cases h
 | bad=>cases h
theorem Im {c g:E} {ks:List Nat} {δ:Dt} {x:D} {o:Option D} (h:EV.stC c g ks δ x=.ok o):(∃ r,c (inC ks δ x)=.ok (.bl true)/\g (inC ks δ x)=.ok r/\o=some r)\/(c (inC ks δ x)=.ok (.bl false)/\o=none):=by
 unfold EV.stC at h
 cases q:EE (c (inC ks δ x)) with
 | ok d =>
  rw [q] at h
  have q':=AK q
  cases d with
  | bl b =>
   cases b with
   | true =>
    simp only [R.bind,truth] at h
    cases q2:EE (g (inC ks δ x)) with
    | ok r=>rw [q2] at h;cases h;exact .inl ⟨r,q',AK q2,rfl⟩
    | ex C=>rw [q2] at h;cases h
    | bad=>rw [q2] at h;cases h
   | false=>cases h;exact .inr ⟨q',rfl⟩
  | _=>cases h
 | ex C=>rw [q] at h;cases h
 | bad=>rw [q] at h;cases h
inductive Tst (X':Cx):List Expr->E->Prop
 | nil:Tst X' [] (con (.bl true))
 | one {c:Expr} {g:E}:ST X' c g->Tst X' [c] g
theorem Fu {X':Cx} {ifs:List Expr} {g:E} (h:Tst X' ifs g) {pins:List (Addr×Obj)} {s:Shared} {σ:L2.St} {H:Hp} {δ:Dt} {k:Bool} (I:Inv X' pins σ H s) (hσ:Stt X'.K X'.mg H σ δ) (hg:g δ=.ok (.bl k)) {E:Value->Shared->Prop} (hE:∀ e s,X'.xe e s->E e s) :
  wpAny (model X'.prog X'.w) X'.A (forIn ifs true fun c r=>if r=true then do let ok<-isTrue c X'.env (eval c X'.env);pure (ForInStep.yield ok) else pure (ForInStep.yield r)) (fun ok s'=>ok=k/\∃ H',Inv X' pins σ H' s'/\aw H H') E s:=by
 cases h with
 | nil=>cases hg;exact wpAny_tests_nil ⟨rfl,H,I,aw.refl _⟩
 | one h =>
  refine wpAny_mono (wpAny_tests_one (E:=X'.xe) (thn (h pins s σ H (fun b H'=>b=k/\aw H H') I ⟨δ,hσ,?_⟩) fun b s' ⟨H',I',e,sm⟩=>⟨e,H',I',sm⟩)) (fun _ _ x=>x) hE
  rw [hg]
  exact fun H' sm=>⟨rfl,sm⟩
section
variable {X:Cx}
set_option maxHeartbeats 2000000 in
theorem Bs (hc:X.calm=true) {N:List Str} (S:Sc X N) {x:Str} {ksn G:List Str} {ks:List Nat} {elt iter:Expr} {ifs:List Expr} {px pos ps:Pos} {sc:Scope} {git:IT} {gc ge:E} (SC:ScC x ksn G sc)
  (hks:ks.map (fun k=>N.getD k "")=ksn) (hlt:∀ k∈ks,k<N.length) (hcell:∀ y∈ksn,X.env.scope.names.lookup y=some .cell)
  (he:SI X (.Name x px) iter git)
  (htst:∀ C fp s H,Sc (cxC X x ksn sc C fp s H) (x::ksn)->(∀ y∈G,Gb (cxC X x ksn sc C fp s H) y)->Tst (cxC X x ksn sc C fp s H) ifs gc)
  (helt:∀ C fp s H,Sc (cxC X x ksn sc C fp s H) (x::ksn)->(∀ y∈G,Gb (cxC X x ksn sc C fp s H) y)->SE (cxC X x ksn sc C fp s H) elt ge)
  (hs:∀ z,foldedSetIterable iter X.env z=pure z) {use:Option (Value->Sem Unit)} {Qf:Value->Shared->Prop} {Q:VK}
  {pins:List (Addr×Obj)} {s:Shared} {σ:L2.St} {H:Hp} {δ:Dt} (I:Inv X pins σ H s) (hσ:Stt X.K X.mg H σ δ) (h:RQ X σ H (iD git ks gc ge δ) Q)
  (hfin:∀ (s1:Shared) (Hc:Hp) (D C:Addr) (ys:List V) (rs:List EV.D),iD git ks gc ge δ=.ok (.lst rs)->EV.D.flats rs=true->H D=none->Hc D=some (.lst ys)->Reps X.K X.mg Hc ys rs->aw H Hc->Q (.ref D) Hc ->
   B7 X pins Hc C->Inv X pins σ Hc s1->(∃ m,s1.heap.Ns C m)->(∀ h',Heap.SameBut C s1.heap h'->Inv X pins σ Hc { s1 with heap:=h' })->compPost (model X.prog X.w) X.A X.xe use Qf (.ref D) C (.ok .next) s1) :
  wpAny (model X.prog X.w) X.A (comprehension (.ListComp elt [⟨.Name x px,iter,ifs,0⟩] sc pos) sc X.env ps (newList []) false (eval iter X.env) use) Qf X.xe s:=by
 have lenks:ksn.length=ks.length:=by rw [<- hks,List.length_map]
 have atk:∀ (j:Nat) (y:Str),ksn[j]? = some y->∃ k,ks[j]? = some k/\N[k]? = some y:=fun j y e=>by
  rw [<- hks,List.getElem?_map] at e
  cases q:ks[j]? with
  | none=>rw [q] at e;cases e
  | some k =>
   rw [q] at e
   have e':N.getD k ""=y:=Option.some.inj e
   have hk:=hlt k (List.mem_of_getElem? q)
   exact ⟨k,rfl,by rw [<- e',List.getD_eq_getElem?_getD,List.getElem?_eq_getElem hk];rfl⟩
 have frec:∀ y,(y,NameKind.free)∈sc.names->∃ c,X.env.cells.lookup y=some c:=fun y hy=>I.ok.has y (.inl (hcell y (SC.all _ hy rfl)))
 have hcomp:∀ ds rs,git δ=.ok ds->ds.length<=100000->runC (EV.stC gc ge ks δ) ds=.ok rs->EV.D.flats rs=true->iD git ks gc ge δ=.ok (.lst rs):=fun ds rs e1 e2 e3 e4=>by
  unfold iD
  rw [e1]
  simp only [R.bind]
  rw [if_pos e2,e3]
  simp only [R.bind,uk]
  rw [if_pos e4]
 refine wpAny_comprehension_free (use:=use) rfl hs (yr frec) SC.kind SC.nms ?_
 have sub:∀ y c,(B5 X.env sc.names []).lookup y=some c->X.env.cells.lookup y=some c:=Fb frec fun y c e=>nomatch e
 have hq:RI X σ H (git δ) (fun J H'=>aw H H'/\∃ ds,git δ=.ok ds/\Dp X J H' ds):=by
  unfold iD at h
  cases r:git δ with
  | ok ds=>exact fun J H' s w=>⟨s,ds,rfl,w⟩
  | ex C=>rw [r] at h;exact h
  | bad=>rw [r] at h;exact h
 refine thn (he pins s σ H _ I ⟨δ,hσ,hq⟩) fun v s1 h1=>thn h1 fun itv s2 h2 => ?_
 obtain ⟨it,fp,tn,J,H2,e,I2,T,st2,f2,sm2,ds,eds,wk⟩:=h2
 subst e
 have hσ2:Stt X.K X.mg H2 σ δ:=hσ.mono sm2
 unfold iD at h
 rw [eds] at h
 simp only [R.bind] at h
 obtain ⟨hz,rs,ers,hfl,hQ⟩:ds.length<=100000/\∃ rs,runC (EV.stC gc ge ks δ) ds=.ok rs/\D.flats rs=true/\∀ v H',aw H H'->Rep X.K X.mg H' v (.lst rs)->Q v H':=by
  split at h
  ·rename_i hz
   refine ⟨hz,?_⟩
   cases r:runC (EV.stC gc ge ks δ) ds with
   | ok rs =>
    rw [r] at h
    simp only [R.bind,uk] at h
    split at h
    ·rename_i hf
     exact ⟨rs,rfl,hf,h⟩
    ·exact False.elim h
   | ex C =>
    exfalso
    have:∀ l C,runC (EV.stC gc ge ks δ) l ≠ .ex C:=fun l C=>by
     induction l with
     | nil=>exact fun z=>nomatch z
     | cons a l ih =>
      intro z
      unfold runC at z
      cases q:EV.stC gc ge ks δ a with
      | ok o =>
       rw [q] at z
       simp only [R.bind] at z
       cases q2:runC (EV.stC gc ge ks δ) l with
       | ok r=>rw [q2] at z;cases z
       | ex C'=>exact ih.elim (by rw [q2] at z;cases z;exact q2)
       | bad=>rw [q2] at z;cases z
      | ex C' =>
       unfold EV.stC at q
       cases q3:EE (gc (inC ks δ a)) with
       | ok d =>
        rw [q3] at q
        cases d with
        | bl b =>
         cases b with
         | true =>
          simp only [R.bind,truth] at q
          cases q4:EE (ge (inC ks δ a)) with
          | ok r=>rw [q4] at q;cases q
          | ex C''=>exact wj q4
          | bad=>rw [q4] at q;cases q
         | false=>cases q
        | _=>cases q
       | ex C''=>exact wj q3
       | bad=>rw [q3] at q;cases q
      | bad=>rw [q] at z;cases z
    exact this _ _ r
   | bad=>rw [r] at h;exact False.elim h
  ·exact False.elim h
 refine wpAny_newList ?_ (Nat.zero_le _)
 have I3:Inv X pins σ (upd H2 s2.heap.objs.size (.lst [])) { s2 with heap:=s2.heap.push { cls:=.type "list",data:=.seq ([]:List Value).toArray } }:=I2.lnew (t':=s2.toks) .nil (Nat.zero_le _)
 have hnew:H2 s2.heap.objs.size=none:=I2.fresh
 have sm3:aw H2 (upd H2 s2.heap.objs.size (.lst [])):=a9 hnew _
 generalize hD:s2.heap.objs.size=D at *
 generalize hH3:upd H2 D (.lst [])=H3 at *
 have hD3:H3 D=some (.lst []):=by rw [<- hH3];exact bG
 have keep3:∀ b o,s2.heap.get? b=some o->(s2.heap.push { cls:=.type "list",data:=.seq ([]:List Value).toArray }).get? b=some o:=fun b o q=>Heap.get?_push_of_some _ q
 have st3:tn 0 (s2.heap.push { cls:=.type "list",data:=.seq ([]:List Value).toArray }):=T.keep 0 _ _ st2 fun b _ o q=>keep3 b o q
 have ne3:∀ b∈fp,b≠D:=fun b hb z=>by
  obtain ⟨o,e,_⟩:=T.obj 0 _ st2 b hb
  exact absurd (Heap.lt_size e) (by rw [z,<-hD];exact Nat.lt_irrefl _)
 have f3:∀ b∈fp,B7 X pins H3 b:=fun b hb=>⟨by rw [<- hH3,bI (ne3 b hb)];exact (f2 b hb).1,(f2 b hb).2⟩
 generalize hs3:({ s2 with heap:=s2.heap.push { cls:=.type "list",data:=.seq ([]:List Value).toArray } }:Shared)=s3 at *
 have st3':tn 0 s3.heap:=by rw [<- hs3];exact st3
 refine wpAny_newFunctionEnv SC.noc (fun y z=>nomatch z) (fun h4 ns4 sb4 => ?_) SC.kind
 have kp4:∀ b o,s3.heap.get? b=some o->h4.get? b=some o:=fun b o q=>by
  rw [sb4.2 b (Nat.ne_of_lt (Heap.lt_size q))]
  exact Heap.get?_push_of_some _ q
 have nst:∀ b∈fp,b∉frs X.stack:=fun b hb z=>by
  rcases List.mem_cons.mp (I3.stkSub b z) with q | q
  ·exact (f3 b hb).2.1 q
  ·exact (f3 b hb).2.2.1 q
 have neC:∀ b∈fp,b≠s3.heap.objs.size:=fun b hb=>by
  obtain ⟨ob,e,_⟩:=T.obj 0 _ st3' b hb
  exact Nat.ne_of_lt (Heap.lt_size e)
 have fpcl:∀ b∈fp,∀ y c,(B5 X.env sc.names []).lookup y=some c->c≠b:=fun b hb y c e=>(f3 b hb).2.2.2.2.1 y c (sub y c e)
 have ok4:(cxC X x ksn sc s3.heap.objs.size fp s3 H3).Ok:=by
  have o:=I3.ok
  refine ⟨o.mod,SC.kind,o.glob,o.blt,Nat.le_refl _,fun y z c e1 e2=>o.inj y z c (sub y c e1) (sub z c e2),fun y hy => ?_,fun y c z e=>absurd z Bool.false_ne_true,o.hd,o.frames,.inl rfl,fun b hb=>⟨neC b hb,fpcl b hb⟩,I3.bs,Nat.le_trans o.bsz I3.sz,fun b ob e hb => ?_,fun b hb=>nst b hb,I3.stack,I3.stkFree⟩
  ·have hy:(relabel sc X.env).names.lookup y=some .cell\/(relabel sc X.env).names.lookup y=some .free:=hy
   have hf:sc.names.lookup y=some .free:=by
    rcases hy with hy | hy
    ·rcases om hy with q | ⟨q,_⟩
     ·exact absurd rfl (SC.noc _ (PySem.mem_of_lookup q))
     ·exact q
    ·rcases om hy with q | ⟨_,q⟩
     ·exact q
     ·cases q
   exact Bu (.inl (PySem.mem_of_lookup hf))
  ·rcases (f3 b hb).2.2.2.1 with q | q
   ·exact o.noex b ob e q
   ·exact absurd (Heap.lt_size (o.bs b ob e).1) (Nat.not_lt.mpr q)
 have fun4:X.env.scope.kind=.function:=I3.ok.kind
 have S4:Sc (cxC X x ksn sc s3.heap.objs.size fp s3 H3) (x::ksn):=by
  refine ⟨rfl,SC.nd,fun y hy => ?_,SC.dbg⟩
  rcases List.mem_cons.mp hy with z | z
  ·subst z;exact .inl (gP (by decide) SC.loc)
  ·exact .inr (.inl (j9 fun4 (hcell y z) (SC.fre y z)))
 have G4:∀ y∈G,Gb (cxC X x ksn sc s3.heap.objs.size fp s3 H3) y:=fun y hy=>⟨gP (by decide) (SC.glb y hy),(SC.dbgG y hy).1,(SC.dbgG y hy).2⟩
 have E4:=helt s3.heap.objs.size fp s3 H3 S4 G4
 have T4:=htst s3.heap.objs.size fp s3 H3 S4 G4
 have hCn:H3 s3.heap.objs.size=none:=I3.fresh
 have hσ3:Stt X.K X.mg H3 σ δ:=hσ2.mono sm3
 have lenσ3:σ.length=N.length:=by rw [I3.len,S.n]
 have I4:Inv (cxC X x ksn sc s3.heap.objs.size fp s3 H3) [] (none::ks.map fun k=>σ.getD k none) H3 { s3 with heap:=h4,toks:=s3.toks+([]:List (Str×Value)).length }:=by
  refine ⟨ok4,rfl,I3.bare,Un.kept kp4,⟨_,ns4,fun j y v e1 e2 e3 => ?_⟩,fun y c e => ?_,hCn,fun y c e=>I3.freeC y c (sub y c e),fun p hp=>absurd (show p∈([]:List (Addr×Obj)) from hp) (by simp),I3.hok.kept kp4,by show _=(x::ksn).length;rw [List.length_cons,List.length_cons,List.length_map,lenks]⟩
  ·cases j with
   | zero=>cases e2
   | succ j =>
    have e1':ksn[j]? = some y:=e1
    obtain ⟨k,ek,eN⟩:=atk j y e1'
    rw [List.getElem?_cons_succ,List.getElem?_map,ek] at e2
    have e2':σ.getD k none=some v:=Option.some.inj e2
    have eσ:σ[k]? = some (some v):=by
     rw [List.getD_eq_getElem?_getD] at e2'
     cases q:σ[k]? with
     | none=>rw [q] at e2';cases e2'
     | some o=>rw [q] at e2';have:o=some v:=e2';rw [this]
    have hy:=List.mem_of_getElem? e1'
    have hyc:=hcell y hy
    obtain ⟨m',hn',hl'⟩:=I3.loc
    obtain ⟨u,ru,lu⟩:=hl' k y v (by rw [S.n];exact eN) eσ (.inr (.inl hyc))
    refine ⟨u,ru,?_⟩
    rcases lu with ⟨k1,_⟩ | ⟨_,c,hcc,ic⟩
    ·have:(some NameKind.local)=some .cell:=k1.symm.trans hyc
     cases this
    ·obtain ⟨c',hc'⟩:=Bu (env:=X.env) (cs:=[]) (.inl (PySem.mem_of_lookup (SC.fre y hy)))
     have:c'=c:=by have:=sub y c' hc';rw [hcc] at this;exact (Option.some.inj this).symm
     subst this
     obtain ⟨oc,hoc,hd⟩:=ic
     exact .inr ⟨.inl (j9 fun4 hyc (SC.fre y hy)),c',hc',oc,kp4 _ _ hoc,hd⟩
  ·obtain ⟨v,oc,hoc,hd⟩:=I3.cell y c (sub y c e)
   exact ⟨v,oc,kp4 _ _ hoc,hd⟩
 have fpc:∀ {Hc:Hp},(∀ b∈fp,Hc b=none)->∀ b∈fp,B7 (cxC X x ksn sc s3.heap.objs.size fp s3 H3) [] Hc b:=fun {Hc} hn b hb =>
  ⟨hn b hb,neC b hb,nst b hb,.inl hb,fpcl b hb,fun p hp=>absurd (show p∈([]:List (Addr×Obj)) from hp) (by simp)⟩
 have st4:tn 0 h4:=T.keep 0 _ _ st3' fun b _ o q=>kp4 b o q
 have kc2:∀ {Hc:Hp},(∀ b o,b≠D->H3 b=some o->Hc b=some o)->aw H2 Hc:=fun {Hc} kc b o e=>kc b o (fun z=>by rw [z,hnew] at e;cases e) (sm3 b o e)
 have R4:codeAny (model X.prog X.w) X.A (.compLoop (.ListComp elt [⟨.Name x px,iter,ifs,0⟩] sc pos) 0 (.ref it) (.ref D) (cxC X x ksn sc s3.heap.objs.size fp s3 H3).env)
   (compPost (model X.prog X.w) X.A X.xe use Qf (.ref D) s3.heap.objs.size)
   { s3 with heap:=h4,toks:=s3.toks+([]:List (Str×Value)).length }:=by
  refine AU (fun n s'=>∃ i σc Hc ys rsi,Inv (cxC X x ksn sc s3.heap.objs.size fp s3 H3) [] σc Hc s'/\tn i s'.heap/\(∀ b∈fp,Hc b=none)/\n=ds.length - i/\i<=ds.length/\Hc D=some (.lst ys)/\runC (EV.stC gc ge ks δ) (ds.take i)=.ok rsi/\ys.length<=i/\Reps X.K X.mg Hc ys rsi/\(∀ b o,b≠D->H3 b=some o->Hc b=some o)/\σc.tail=(ks.map fun k=>σ.getD k none)) ?_ ds.length
   ⟨0,_,H3,[],[],I4,st4,fun b hb=>(f3 b hb).1,rfl,Nat.zero_le _,hD3,by rw [List.take_zero];rfl,Nat.zero_le _,.nil,fun _ _ _ q=>q,rfl⟩
  rintro n s' ⟨i,σc,Hc,ys,rsi,Ic,st,fr,rfl,hi,hDc,ersi,hyl,hys,kc,tlσ⟩
  have smc:=kc2 kc
  have wkc:=wk Hc smc
  by_cases hlt':i<ds.length
  ·have hd:ds[i]? = some ds[i]:=List.getElem?_eq_getElem hlt'
   generalize ds[i]=d at hd
   have etk:ds=ds.take i++(d::ds.drop (i+1)):=by
    have:=List.take_append_drop i ds
    rw [kl hd] at this
    exact this.symm
   obtain ⟨r1,r2,er1,er2,ersx⟩:=vn (by rw [etk] at ers;exact ers)
   rw [ersi] at er1
   cases er1
   have fl1:EV.D.flats rsi=true:=(mK (by rw [ersx] at hfl;exact hfl)).1
   have fl2:EV.D.flats r2=true:=(mK (by rw [ersx] at hfl;exact hfl)).2
   obtain ⟨o,eo⟩:∃ o,EV.stC gc ge ks δ d=.ok o:=by
    unfold runC at er2
    cases q:EV.stC gc ge ks δ d with
    | ok o=>exact ⟨o,rfl⟩
    | ex C=>rw [q] at er2;cases er2
    | bad=>rw [q] at er2;cases er2
   have flo:∀ r,o=some r->EV.D.flat r=true:=fun r e=>by
    subst e
    unfold runC at er2
    rw [eo] at er2
    simp only [R.bind] at er2
    cases q:runC (EV.stC gc ge ks δ) (ds.drop (i+1)) with
    | ok z =>
     rw [q] at er2
     have:r::z=r2:=by simpa using er2
     rw [<- this] at fl2
     have:EV.D.flat r=true/\EV.D.flats z=true:=by simpa [EV.D.flats] using fl2
     exact this.1
    | ex C=>rw [q] at er2;cases er2
    | bad=>rw [q] at er2;cases er2
   have ertk:runC (EV.stC gc ge ks δ) (ds.take (i+1))=.ok (rsi++o.toList):=by
    rw [List.take_add_one,hd]
    exact zZ ersi eo
   refine thn (T.item (cxC X x ksn sc s3.heap.objs.size fp s3 H3) rfl rfl rfl hc i [] s' σc Hc (fun _ _=>False) Ic (fpc fr) st (wkc.1 i d hd).1) fun r s1 ⟨u,hr,h4'⟩ => ?_
   subst hr
   refine thn h4' fun _ s5 ⟨v,H5,I5,r5,yl,st5,fr5⟩ => ?_
   obtain ⟨e5,rd⟩:=(wkc.1 i d hd).2 v H5 yl
   subst e5
   have I5':=I5.pinned (fpc fr5) (T.obj _ _ st5)
   have pinf:∀ {σ7:L2.St} {H7:Hp} {s7:Shared},Inv (cxC X x ksn sc s3.heap.objs.size fp s3 H3) ([]++ot fp s5.heap) σ7 H7 s7->∀ b∈fp,∀ o,s5.heap.get? b=some o->s7.heap.get? b=some o/\H7 b=none:=fun {σ7 H7 s7} I7 b hb o q =>
    have z:=I7.pin (b,o) (List.mem_append_right _ (List.mem_append_right _ (fI hb q)))
    ⟨z.1,z.2.1⟩
   have lenσ:σc.length=ks.length+1:=by
    have:=Ic.len
    rw [this]
    show (x::ksn).length=_
    rw [List.length_cons,lenks]
   have hxl:(cxC X x ksn sc s3.heap.objs.size fp s3 H3).env.scope.names.lookup x=some .local:=gP (by decide) SC.loc
   refine thn (Aj (X:=(cxC X x ksn sc s3.heap.objs.size fp s3 H3)) (i:=0) (x:=x) (by rw [S4.n];exact S4.nd) rfl (.inl hxl) (.inr hxl) _ s5 σc _ v u (fun σ6 H6=>σ6=σc.set 0 (some v)/\H6=H5) I5' r5 ⟨rfl,rfl⟩) fun _ s6 ⟨σ6,H6,I6,e6,e6'⟩ => ?_
   subst e6 e6'
   have hσ6:Stt X.K X.mg H6 (σc.set 0 (some v)) (inC ks δ d):=by
    unfold inC
    refine ⟨by rw [List.length_set,lenσ,List.length_cons,List.length_map],fun j d' e nown => ?_⟩
    cases j with
    | zero =>
     have e':d=d':=by simpa using e
     subst e'
     exact ⟨v,by rw [List.getElem?_set_self (by omega)],rd.mono smc⟩
    | succ j =>
     rw [List.getElem?_cons_succ,List.getElem?_map] at e
     cases ek:ks[j]? with
     | none=>rw [ek] at e;cases e
     | some k =>
      rw [ek] at e
      have e':δ.getD k none=some d':=Option.some.inj e
      have eδ:δ[k]? = some (some d'):=by
       rw [List.getD_eq_getElem?_getD] at e'
       cases q:δ[k]? with
       | none=>rw [q] at e';cases e'
       | some o=>rw [q] at e';have:o=some d':=e';rw [this]
      obtain ⟨w,ew',rw'⟩:=hσ2.2 k d' eδ nown
      refine ⟨w,?_,rw'.mono smc⟩
      rw [List.getElem?_set_ne (by omega)]
      have ht:σc.tail[j]? = some (some w):=by
       rw [tlσ,List.getElem?_map,ek]
       show some (σ.getD k none)=_
       rw [List.getD_eq_getElem?_getD,ew']
       rfl
      rw [List.getElem?_tail] at ht
      exact ht
   have tl6:(σc.set 0 (some v)).tail=(ks.map fun k=>σ.getD k none):=by
    rw [<- tlσ]
    cases σc<;>rfl
   obtain ⟨k,ek,kcase⟩:∃ k,gc (inC ks δ d)=.ok (.bl k)/\((k=true/\∃ r,ge (inC ks δ d)=.ok r/\o=some r)\/(k=false/\o=none)):=by
    rcases Im eo with ⟨r,q1,q2,q3⟩ | ⟨q1,q2⟩
    ·exact ⟨true,q1,.inl ⟨rfl,r,q2,q3⟩⟩
    ·exact ⟨false,q1,.inr ⟨rfl,q2⟩⟩
   refine thn (Fu T4 I6 hσ6 ek (E:=fun _ _=>False) fun _ _ z=>z) fun ok s7 ⟨eok,H7,I7,sm7⟩ => ?_
   subst eok
   rcases kcase with ⟨rfl,r,eg,rfl⟩ | ⟨rfl,rfl⟩
   ·rw [if_pos rfl]
    refine thn (E4 _ s7 _ H7 (fun v8 H8=>aw H7 H8/\Rep X.K X.mg H8 v8 r) I7 ⟨inC ks δ d,hσ6.mono sm7,by rw [eg];exact fun v8 H8 sm rp=>⟨sm,rp⟩⟩) fun u8 s8 ⟨v8,H8,I8,r8,sm8,rp8⟩ => ?_
    have sm78:=sm7.trans sm8
    have hD8:H8 D=some (.lst ys):=sm78 _ _ hDc
    refine thn (AN (X:=(cxC X x ksn sc s3.heap.objs.size fp s3 H3)) _ s8 _ H8 (.ref D) [v8] (.ref D) [u8] (fun _ H9=>H9=upd H8 D (.lst (ys++[v8]))) I8 rfl (.cons r8 .nil) ⟨D,ys,v8,rfl,rfl,hD8,by rw [sizeLine_eq];omega,rfl⟩) fun _ s9 ⟨_,H9,I9,_,e9⟩ => ?_
    subst e9
    have k9:NoL H8 (upd H8 D (.lst (ys++[v8]))):=fun b ob e n _=>by
     rw [bI fun z => ?_];exact e
     rw [z,hD8] at e
     exact n ys (Option.some.inj e).symm
    have k9':∀ b ob,b≠D->H8 b=some ob->upd H8 D (.lst (ys++[v8])) b=some ob:=fun b ob hb q=>by rw [bI hb];exact q
    refine ⟨ds.length - (i+1),by omega,i+1,_,_,ys++[v8],rsi++[r],I9.unpinned,T.keep _ _ _ st5 (fun b hb o q=>(pinf I9 b hb o q).1),fun b hb => ?_,rfl,by omega,bG,ertk,by rw [List.length_append];simp;omega,?_,fun b ob hb q=>k9' b ob hb (sm78 _ _ (kc b ob hb q)),tl6⟩
    ·obtain ⟨ob,e,_⟩:=T.obj _ _ st5 b hb
     exact (pinf I9 b hb ob e).2
    ·exact (pJ k9 fl1 (hys.mono sm78)).append (.cons (tX k9 (flo r rfl) rp8) .nil)
   ·rw [if_neg Bool.false_ne_true]
    refine ⟨ds.length - (i+1),by omega,i+1,_,_,ys,rsi,I7.unpinned,T.keep _ _ _ st5 (fun b hb o q=>(pinf I7 b hb o q).1),fun b hb => ?_,rfl,by omega,sm7 _ _ hDc,by rw [ertk];simp,by omega,hys.mono sm7,fun b ob hb q=>sm7 _ _ (kc b ob hb q),tl6⟩
    obtain ⟨ob,e,_⟩:=T.obj _ _ st5 b hb
    exact (pinf I7 b hb ob e).2
  ·have ei:i=ds.length:=by omega
   subst ei
   refine thn (T.done (cxC X x ksn sc s3.heap.objs.size fp s3 H3) rfl rfl rfl hc ds.length [] s' σc Hc (fun _ _=>False) Ic (fpc fr) st (wkc.2 _ (Nat.le_refl _))) fun r s1 ⟨hr,I9⟩ => ?_
   subst hr
   obtain ⟨m,hns,_⟩:=id I9.loc
   have I10:∀ h',Heap.SameBut s3.heap.objs.size s1.heap h'->Inv X pins σ Hc { s1 with heap:=h' }:=fun h' sb=>I3.call' (s':={ s1 with heap:=h' }) (ch:=fp) I9.os (HH I9.base (Nat.le_refl _) sb) (GS I9.hok I9.free sb) I9.bare fun b hb =>
    ⟨(f3 b hb).2.2.2.1,(f3 b hb).2.1,(f3 b hb).2.2.2.2.1,(f3 b hb).2.2.2.2.2⟩
   rw [List.take_of_length_le (Nat.le_refl _),ers] at ersi
   cases ersi
   have hHD:H D=none:=by
    cases q:H D with
    | none=>rfl
    | some o=>have:=sm2 D o q;rw [hnew] at this;cases this
   exact hfin s1 Hc D s3.heap.objs.size ys rs (hcomp ds rs eds hz ers hfl) hfl hHD hDc hys (sm2.trans smc) (hQ _ _ (sm2.trans smc) (.lst (SqL.of hDc) hys)) (I3.fpOk (Nat.le_refl _) I9.free)
    (I10 s1.heap (Heap.SameBut.refl _ _)) ⟨m,hns⟩ I10
 exact codeAny_compStart_list R4 (T.self _ 0 _ _ _ st4 R4)
theorem Dd (hc:X.calm=true) {N:List Str} (S:Sc X N) {x:Str} {ksn G:List Str} {ks:List Nat} {elt iter:Expr} {ifs:List Expr} {px pos:Pos} {sc:Scope} {git:IT} {gc ge:E} (SC:ScC x ksn G sc)
  (hks:ks.map (fun k=>N.getD k "")=ksn) (hlt:∀ k∈ks,k<N.length) (hcell:∀ y∈ksn,X.env.scope.names.lookup y=some .cell)
  (he:SI X (.Name x px) iter git)
  (htst:∀ C fp s H,Sc (cxC X x ksn sc C fp s H) (x::ksn)->(∀ y∈G,Gb (cxC X x ksn sc C fp s H) y)->Tst (cxC X x ksn sc C fp s H) ifs gc)
  (helt:∀ C fp s H,Sc (cxC X x ksn sc C fp s H) (x::ksn)->(∀ y∈G,Gb (cxC X x ksn sc C fp s H) y)->SE (cxC X x ksn sc C fp s H) elt ge)
  (hs:∀ z,foldedSetIterable iter X.env z=pure z:=by intro _;rfl):SE X (.ListComp elt [⟨.Name x px,iter,ifs,0⟩] sc pos) (iD git ks gc ge):=by
 intro pins s σ H Q I ⟨δ,hσ,h⟩
 rw [eval_ListComp]
 exact Bs hc S SC hks hlt hcell he htst helt hs (use:=none) I hσ h fun s1 Hc D C ys rs e1 e2 e3 e4 e5 e6 q fC I1 ⟨m,ns⟩ turn=>⟨m,ns,fun h' sb=>⟨.ref D,Hc,turn h' sb,rfl,q⟩⟩
theorem JX (hc:X.calm=true) {N:List Str} (S:Sc X N) {x:Str} {ksn G:List Str} {ks:List Nat} {elt iter:Expr} {px pos:Pos} {sc:Scope} {git:IT} {ge:E} (SC:ScC x ksn G sc)
  (hks:ks.map (fun k=>N.getD k "")=ksn) (hlt:∀ k∈ks,k<N.length) (hcell:∀ y∈ksn,X.env.scope.names.lookup y=some .cell)
  (he:SI X (.Name x px) iter git)
  (helt:∀ C fp s H,Sc (cxC X x ksn sc C fp s H) (x::ksn)->(∀ y∈G,Gb (cxC X x ksn sc C fp s H) y)->SE (cxC X x ksn sc C fp s H) elt ge)
  (hs:∀ z,foldedSetIterable iter X.env z=pure z:=by intro _;rfl):SE X (.ListComp elt [⟨.Name x px,iter,[],0⟩] sc pos) (comp git ks ge) :=
 Dd hc S SC hks hlt hcell he (fun _ _ _ _ _ _=>.nil) helt hs
end
end ES
namespace ES
open PySem PySem.Spec PyProof.Rows L2 EV
unseal SE ST SW SA SS SSs SI
structure GC (X:Cx) (x:String) (d:D):Prop where
 ex:∃ v u,X.mg x=some u/\RelV v u/\∀ H,Rep X.K X.mg H v d
section
variable {X:Cx} {pos p:Pos} {x:String} {d:D} {e e2:Expr} {g:E}
theorem SG (G:Gb X x) (h:GC X x d):SE X (.Name x pos) (con d):=by
 obtain ⟨v,u,hm,r,hr⟩:=h.ex
 exact rT (tZ (v:=v) G.g hm r G.d) hr
theorem GU {a:Addr} {dd:Option Addr} {ss:List String} {its:Array Value} {n:Nat} {sl:Array (Option Value)} (hm:X.mg x=some (.ref a)) (hk:X.K.lookup a=some ⟨.type "tuple",dd,.seq its n,sl⟩) (hi:Vals (ss.map fun s=>V.str (Str.ofString s)) its.toList) (hz:its.size<=1000):GC X x (.tup (ss.map fun s=>D.str (Str.ofString s))):=by
 refine ⟨.ref a,.ref a,hm,rfl,fun H=>.tup (.inr ⟨_,its,n,hk,rfl,rfl,Nat.le_of_lt (lT hz),hi⟩) ?_⟩
 clear hi
 induction ss with
 | nil=>exact .nil
 | cons s r ih=>exact .cons (.str _) ih
theorem qz:∀ {ss:List String} {ts:List Tok} {its:List Value},its=(ss.zip ts).map (fun p=>Value.str (Str.ofString p.1) p.2)->ts.length=ss.length->Vals (ss.map fun s=>V.str (Str.ofString s)) its
 | [],_,_,e,_=>by subst e;exact .nil
 | s::r,[],_,_,h=>by simp at h
 | s::r,t::ts,_,e,h=>by
  subst e
  exact .cons ⟨t,rfl⟩ (qz (ts:=ts) rfl (by simpa using h))
end
section
variable {X:Cx} {x y:Str} {ksn:List Str} {sc:Scope} {C:Addr} {fp:List Addr} {s:Shared} {H:Hp} {f:List D->R D} {cn m:String} {F:List D->R D}
end
noncomputable def dE:Stmt->List Stmt
 | .ClassDef _ _ _ b _ _ _ _ _ _ _=>b
 | _=>[]
end ES
namespace ES
open EV
end ES
namespace ES
open PySem PySem.Spec PyProof.Rows L2 EV
unseal SE ST SW SA SS SSs SI
def ROp (X:Cx) (σ:L2.St) (H:Hp) (r:R (Option Int)) (Q:Option Int->Hp->Prop):Prop:=match r with
 | .ok o=>∀ H',aw H H'->Q o H'
 | .ex C=>∀ Ca,X.mg C=some (.ref Ca)->∀ H',aw H H'->ew X Ca σ H'
 | .bad=>False
noncomputable def tPo (X:Cx) (g:Option E):TO:=fun σ H Q=>∃ δ,Stt X.K X.mg H σ δ/\ROp X σ H (part g δ) Q
@[irreducible] noncomputable def SO (X:Cx) (e:Option Expr) (g:Option E):Prop:=PO X e (tPo X g)
unseal SO
section
variable {X:Cx} {tg e a:Expr} {lo hi:Option Expr} {g:E} {gl gu:Option E} {σ:L2.St} {H H1:Hp} {pos p2:Pos}
theorem PO.weak {o:Option Expr} {t t':TO} (h:PO X o t) (w:∀ σ H Q,t' σ H Q->t σ H Q):PO X o t':=fun pins s σ H Q I q=>h pins s σ H Q I (w σ H Q q)
theorem eJ:SO X none none:=PO.weak F7 fun σ H Q ⟨δ,hσ,q⟩=>q H (aw.refl _)
theorem da (h:SE X e g):SO X (some e) (some g):=PO.weak (F6 h) fun σ H Q ⟨δ,hσ,q⟩=>⟨δ,hσ,by
 simp only [EV.part] at q
 cases r:g δ with
 | ok d =>
  rw [r] at q
  cases d with
  | int i=>exact fun v H' s r=>by cases r;exact ⟨i,rfl,q H' s⟩
  | _=>exact False.elim q
 | ex C=>rw [r] at q;exact q
 | bad=>rw [r] at q;exact q⟩
theorem ROp.bind {r:R (Option Int)} {f:Option Int->R D} {Q:VK} (h:RQ X σ H (r.bind f) Q):ROp X σ H r (fun o H'=>aw H H'/\RQ X σ H' (f o) Q):=by
 cases r with
 | ok d=>exact fun H' s=>⟨s,h.mono s⟩
 | ex C=>exact h
 | bad=>exact h
theorem ROp.to {r:R (Option Int)} {Q Q':Option Int->Hp->Prop} (h:ROp X σ H r Q) (g:∀ o H',aw H H'->Q o H'->Q' o H'):ROp X σ H r Q':=by
 cases r with
 | ok d=>exact fun H' s=>g d H' s (h H' s)
 | ex C=>exact h
 | bad=>exact h
theorem vo {H:Hp} {xs:List V} {ds:List D} (rs:Reps X.K X.mg H xs ds) (l u:Option Int):Reps X.K X.mg H (E9 xs l u) (EV.cut ds l u):=by
 unfold E9 EV.cut
 rw [rs.length]
 exact (rs.drop _).take _
noncomputable def rS (X:Cx):V->Option Int->Option Int->Hp->VK->Prop:=fun x l u H Q=>∃ dx d,Rep X.K X.mg H x dx/\oSl dx l u=.ok d/\∀ v H',aw H H'->Rep X.K X.mg H' v d->Q v H'
theorem QA:SlR X (rS X):=by
 intro pins s σ H x v vl vu l u sl Q I rx hs pl pu ⟨dx,d,r,e,q⟩
 unfold oSl at e
 split at e
 ·split at e
  ·cases e
  ·rename_i hn
   cases e;cases r
   rename_i p xs hq rs
   refine Ip pins s σ H _ v vl vu l u sl Q I rx hs pl pu ⟨p,xs,rfl,hq,?_,fun p hp=>q _ _ (a9 hp _) (.tup (SqT.of bG) ((vo rs l u).mono (a9 hp _)))⟩
   rw [rs.length]
   exact hn
 ·cases e;cases r
  rename_i p xs hq rs
  exact FN pins s σ H _ v vl vu l u sl Q I rx hs pl pu ⟨p,xs,rfl,hq,fun p hp=>q _ _ (a9 hp _) (.lst (SqL.of bG) ((vo rs l u).mono (a9 hp _)))⟩
 ·cases e
theorem LC (ha:SE X a g) (hl:SO X lo gl) (hu:SO X hi gu):SE X (.Subscript a (.Slice lo hi none p2) pos) (slc g gl gu) :=
 PE.weak (vv QA ha hl hu) fun σ H Q ⟨δ,hσ,q⟩=>⟨δ,hσ,(RQ.bind q).to fun x H1 _ ⟨s1,d,r1,q1⟩=>⟨δ,hσ.mono s1,(ROp.bind q1).to fun l H2 _ ⟨s2,q2⟩=>⟨δ,hσ.mono (s1.trans s2),(ROp.bind q2).to fun u H3 _ ⟨s3,q3⟩=>by
  have r3:=r1.mono (s2.trans s3)
  cases e:oSl d l u with
  | ok z=>rw [e] at q3;exact ⟨d,z,r3,e,q3⟩
  | ex C =>
   exfalso
   unfold oSl at e
   split at e
   ·split at e<;>cases e
   ·cases e
   ·cases e
  | bad=>rw [e] at q3;exact False.elim q3⟩⟩⟩
theorem GR (h:SE X e g):SI X tg e (itA g):=fun pins s σ H Q I ⟨δ,hσ,q⟩=>by
 unfold itA at q
 cases r:g δ with
 | ok d =>
  rw [r] at q
  cases d with
  | lst ds=>exact ER h pins s σ H Q I ⟨δ,hσ,by unfold itL;rw [r];exact q⟩
  | tup ds=>exact Lv h pins s σ H Q I ⟨δ,hσ,by unfold itT;rw [r];exact q⟩
  | _=>exact False.elim q
 | ex C=>exact ER h pins s σ H Q I ⟨δ,hσ,by unfold itL;rw [r] at q ⊢;exact q⟩
 | bad=>rw [r] at q;exact False.elim q
end
theorem LS {P:String->Prop} (h0:P "MillError") (h1:P "NoSize") (h2:P "NoBits") (h3:P "NoParts") (h4:P "NoRank") (h5:P "NotFinite") (h6:P "NoWay") (h7:P "NoFlags") (h8:P "NoFraction") (h9:P "Unlike") (h10:P "Empty") (h11:P "NoLeft") (h12:P "NoText") (h13:P "NoRow") (h14:P "NoName") (h15:P "Stopped"):∀ n∈av,P n:=by
 intro n hn
 simp only [av,List.mem_cons,List.not_mem_nil,or_false] at hn
 rcases hn with rfl | rfl | rfl | rfl | rfl | rfl | rfl | rfl | rfl | rfl | rfl | rfl | rfl | rfl | rfl | rfl
 all_goals assumption
end ES
namespace ES
open PySem PySem.Spec PyProof.Rows L2 EV
unseal SE ST SW SA SS SSs SI SO
section
variable {X:Cx} {tg:Expr} {H:Hp} {a b c:Expr} {ga gb gc:E}
end
theorem EY {P:Program} {w:World} {K:PySem.W.Frag} {mg:Str->Option Value} {base:Heap} {CX:CXT} {k:Nat} {f:Addr} {fd:FuncData} {ps:List Str}:FnOk P w K mg base CX k f fd ps (spP K mg fun _=>.bad) :=
 ⟨fun vs H Q E ⟨ds,rs,h⟩=>False.elim h,fun A outer s H args us vs Q E hr he hb hv ⟨ds,rs,h⟩=>False.elim h⟩
theorem up1 {P:Program} {w:World} {K:PySem.W.Frag} {mg:Str->Option Value} {base:Heap} {CX:CXT} {i j:Nat} {f:Addr} {fd:FuncData} {ps:List Str} {sp:Sp} (F:FnOk P w K mg base CX (i+j+1) f fd ps sp):FnOk P w K mg base CX (i+1+j) f fd ps sp:=F.mono (by omega)
end ES
namespace ES
open PySem PySem.Spec PyProof.Rows L2 EV
unseal SE ST SW SA SS SSs SI SO
section
variable {X:Cx} {N:List Str} {H:Hp} {σ:L2.St} {δ:Dt} {os:Os}
variable {e:Expr} {g:E} {pos:Pos} {st:Stmt} {gs:S}
end
end ES
namespace ES
open PySem PySem.Spec PyProof.Rows L2 EV
unseal SE ST SW SA SS SSs SI SO
section
variable {X:Cx} {N:List Str} {H:Hp} {σ:L2.St} {δ:Dt} {os:Os}
variable {e c k v:Expr} {g gc gk gv:E} {pos:Pos} {st:Stmt} {body els:List Stmt} {gs gb ge:S}
end
end ES
namespace ES
open PySem PySem.Spec PyProof.Rows L2 EV
unseal SE ST SW SA SS SSs SI SO
noncomputable def OQF (X:Cx) (D:Ends) (F:Hp):O->Prop
 | .rt (.lst rs)=>∀ a xs H,aw F H->F a=none->H a=some (.lst xs)->Reps X.K X.mg H xs rs->EV.D.flats rs=true->D.rt (.ref a) H
 | .rt _=>False
 | o=>OQ X D F o
noncomputable def tSF (X:Cx) (g:S):TS:=fun D σ H=>∃ δ os,StO X H σ δ os/\OQF X D (hide H os) (g δ)
@[irreducible] noncomputable def SSF (X:Cx) (st:List Stmt) (g:S):Prop:=PSs X st (tSF X g)
unseal SSF
section
variable {X:Cx} {N:List Str}
variable {st:Stmt} {rest:List Stmt} {gs gr:S} {e:Expr} {g:E} {pos:Pos}
end
noncomputable def spF (K:PySem.W.Frag) (mg:Str->Option Value) (f:List D->R D):Sp:=fun vs H Q E=>∃ ds,Reps K mg H vs ds/\match f ds with
 | .ok (.lst rs)=>∀ a xs H',aw H H'->H a=none->H' a=some (.lst xs)->Reps K mg H' xs rs->EV.D.flats rs=true->Q (.ref a) H'
 | .ex C=>∀ Ca,mg C=some (.ref Ca)->∀ H',aw H H'->E (.ref Ca) none H'
 | _=>False
structure FnF (P:Program) (w:World) (K:PySem.W.Frag) (mg:Str->Option Value) (base:Heap) (x:Str) (k:Nat) (f:List D->R D):Prop where
 ex:∃ fa fd ps,FnOk P w K mg base (CXF P w) k fa fd ps (spF K mg f)/\mg x=some (.ref fa)/\PySem.W.keepIn K (.ref fa)=true/\Binds K fd ps []
structure CalleeF (X:Cx) (x:Str) (f:List D->R D):Prop where
 ex:∃ k fa fd ps,FnOk X.prog X.w X.K X.mg X.base (CXF X.prog X.w) k fa fd ps (spF X.K X.mg f)/\Room k X.A/\X.mg x=some (.ref fa)/\PySem.W.keepIn X.K (.ref fa)=true/\Binds X.K fd ps []
section
variable {X:Cx} {N:List Str} {x:Str} {f:List D->R D} {e:Expr} {es:List Expr} {gs:List E} {p pos:Pos} {g:E}
end
end ES
namespace EV
noncomputable def boolsOf:List D->Option (List Bool)
 | []=>some []
 | .bl b::r=>(boolsOf r).map (b::·)
 | _=>none
end EV
namespace ES
open PySem PySem.Spec PyProof.Rows L2 EV
unseal SE ST SW SA SS SSs SI SO
section
variable {X:Cx} {N:List Str} {e:Expr} {g:E} {pos:Pos}
end
end ES
namespace ES
open PySem PySem.Spec PyProof.Rows L2 EV
unseal SE ST SW SA SS SSs SI SO
section
variable {prog:Program} {w:World} {A:Around} {R:Result->Shared->Prop} {I:Addr} {fp wr:List Addr} {n:Nat} {P:Nat->Value->Prop} {St:Nat->Heap->Prop}
end
section
variable {prog:Program} {w:World} {A:Around} {E:Value->Shared->Prop} {s:Shared} {l:Addr} {xs:Array (Int×Tok)}
end
section
variable {X:Cx} {N:List Str} {e:Expr} {g:E} {pos:Pos}
end
end ES
namespace ES
open PySem PySem.Spec PyProof.Rows L2 EV
unseal SE ST SW SA SS SSs SI SO
section
variable {X:Cx} {N:List Str} {e:Expr} {g:E} {pos:Pos}
theorem oK {H:Hp}:∀ {xs:List V} {ds:List D} {bs:List Bool} {us:List Value},boolsOf ds=some bs->Reps X.K X.mg H xs ds->Vals xs us->us=bs.map Value.bool
 | _,[],_,_,e,.nil,.nil=>by cases e;rfl
 | _,.bl b::r,bs,_,e,.cons h t,.cons h' t'=>by
  cases h
  unfold boolsOf at e
  cases q:boolsOf r with
  | none=>rw [q] at e;cases e
  | some ms =>
   rw [q] at e
   have e':b::ms=bs:=Option.some.inj e
   subst e'
   cases h'
   rw [oK q t t',List.map_cons]
 | _,.non::_,_,_,e,_,_=>by cases e
 | _,.int _::_,_,_,e,_,_=>by cases e
 | _,.str _::_,_,_,e,_,_=>by cases e
 | _,.tup _::_,_,_,e,_,_=>by cases e
 | _,.lst _::_,_,_,e,_,_=>by cases e
 | _,.own _::_,_,_,e,_,_=>by cases e
 | _,.ty _::_,_,_,e,_,_=>by cases e
 | _,.cls _::_,_,_,e,_,_=>by cases e
 | _,.exc _::_,_,_,e,_,_=>by cases e
 | _,.ins _ _::_,_,_,e,_,_=>by cases e
end
end ES
namespace ES
open PySem PySem.Spec PyProof.Rows L2 EV
structure DA (K:PySem.W.Frag) (n:Str) (st:Stmt):Prop where
 ex:∃ f fd,PySem.W.nsIn K mainGlobals n=some (some (.ref f))/\Fun K n n st f fd
theorem De {K:PySem.W.Frag} {n:Str} {st:Stmt} {f:Addr} {oc:Value} {od an:Option Addr} {osl:Array (Option Value)} {kV doc pm cdv ct:Value} (a:PySem.W.nsIn K mainGlobals n=some (some (.ref f))) (l:K.lookup f=some ⟨oc,od,.func (PySem.W.fnOf n n (aL st) (ag st) (aa st) .none kV doc pm an cdv ct),osl⟩)
  (c:PySem.W.codeIn K cdv n=true) (k:PySem.W.keepIn K (.ref f)=true):DA K n st:=⟨_,_,a,kh l c k⟩
theorem DA.fn {P:Program} {w:World} {K:PySem.W.Frag} {h:Heap} {mg:Str->Option Value} {base:Heap} {n:Str} {st:Stmt} {N G ps:List Str} {k a m:Nat} {g:S}
  (q:DA K n st) (KX:K.In h) (GG:h.Ns mainGlobals mg) (S:ScF N G ps (aa st)) (hn:ps.length=a) (hm:N.length=m) (B:∀ {f:Addr} {fd:FuncData},Fun K n n st f fd->Binds K fd ps [])
  (hbody:∀ X:Cx,Room k (at5 X P w K mg base).A->Lp (at5 X P w K mg base)->Own (at5 X P w K mg base)->Pl (at5 X P w K mg base) N G->(at5 X P w K mg base).env.scope=aa st->SSs (at5 X P w K mg base) (ag st) g) :
  FnP P w K mg base n (k+1) (fn a m g):=by
 obtain ⟨f,fd,a,F⟩:=q.ex
 exact rR (mJ F S hn hm hbody) F.kp (PySem.W.mg_of KX GG a) (B F)
theorem FnP.c {X:Cx} {x:Str} {k j:Nat} {f:List D->R D} (F:FnP X.prog X.w X.K X.mg X.base x k f) (hr:Room j X.A) (h:k<=j:=by decide):Callee X x f:=F.callee hr h
end ES
local macro_rules | `(tactic| walk_at "S")=>`(tactic| exact ⟨⟨rfl,rfl,rfl,by decide +kernel,by decide +kernel,by decide +kernel,by decide +kernel⟩,by decide +kernel,by decide +kernel,by decide +kernel,by decide +kernel⟩)
namespace EV
noncomputable def Mf:List Nat->Dt->List D->Option Dt
 | [],δ,[]=>some δ
 | i::is,δ,d::ds=>Mf is (δ.set i (some d)) ds
 | _,_,_=>none
end EV
namespace ES
open PySem PySem.Spec PyProof.Rows L2 EV
unseal SE ST SW SA SS SSs SI SO
section
variable {X:Cx}
end
end ES
namespace ES
open PySem PySem.Spec PyProof.Rows L2 EV
unseal SE ST SW SA SS SSs SI SO
noncomputable def gIs:List Nat->TGs
 | []=>Sw
 | i::is=>Lx (C6 i) (gIs is)
section
variable {X:Cx} {N:List Str} {e:Expr} {es:List Expr} {g:IT} {gb:S} {body:List Stmt} {is:List Nat} {pos:Pos}
theorem QK {H:Hp} {Q:L2.St->Hp->Prop}:∀ {is:List Nat} {xs:List V} {ds:List D} {σ:L2.St} {δ δ2:Dt} {os:List (Nat×Addr)},StO X H σ δ os->Reps X.K X.mg (hide H os) xs ds->Mf is δ ds=some δ2->(∀ σ2 os2,StO X H σ2 δ2 os2->aw (hide H os) (hide H os2)->Q σ2 H)->gIs is xs σ H Q
 | [],xs,ds,σ,δ,δ2,os,S,r,e,q=>by
  cases r with
  | nil=>cases e;exact ⟨rfl,q _ _ S (aw.refl _)⟩
  | cons _ _=>cases e
 | i::is,xs,ds,σ,δ,δ2,os,S,r,e,q=>by
  cases r with
  | nil=>cases e
  | cons ra rr =>
   obtain ⟨S2,s2⟩:=S.set (i:=i) ra
   exact ⟨_,_,rfl,QK S2 (rr.mono s2) e fun σ2 os2 S3 s3=>q σ2 os2 S3 (s2.trans s3)⟩
end
end ES
namespace ES
open PySem PySem.Spec PyProof.Rows L2 EV
section
variable {X:Cx} {N G:List Str} {e e1 e2 e3 e4:Expr} {es:List Expr} {g g1 g2 g3 g4:E} {gs:List E} {x:Str} {p pos:Pos} {f:List D->R D}
theorem Pl.v (P:Pl X N G) (i:Nat) (h:N[i]? = some x:=by rfl):SE X (.Name x pos) (var i):=G6 P.sc i h
theorem Pl.w (P:Pl X N G) (i:Nat) (h:G[i]? = some x:=by rfl):Gb X x:=P.gb _ (mG i h)
theorem Pl.set (P:Pl X N G) (i:Nat) (h:SE X e g) (hN:N[i]? = some x:=by rfl) (hsw:swapsWith e (some (.Name x p)) pos.line X.env=pure false:=by rfl):SS X (.Assign [.Name x p] e pos) (assign i g):=KS P.toSx i hN (P.sto _ (mG i hN)) h hsw
theorem Pl.ret (P:Pl X N G) (h:SE X e g):SS X (.Return (some e) pos) (ret g):=KU P.toSx h
theorem Pl.if_ {c:Expr} {gc:E} {body els:List Stmt} {gb ge:S} (P:Pl X N G) (hc:ST X c gc) (ha:SSs X body gb) (hb:SSs X els ge):SS X (.If c body els pos) (ifs gc gb ge):=QB P.toSx hc ha hb
theorem Pl.xp (P:Pl X N G) (h:SE X e g) (hs:swapsWith e none pos.line X.env=pure false:=by rfl):SS X (.Expr e pos) (expr g):=Iw P.toSx h hs
theorem Pl.y {k:Int} {j} {p1 p2:Pos} (P:Pl X N G) (i:Nat) (h:N[i]? = some x:=by rfl):SE X (.Subscript (.Name x p1) (.Constant (.int k) j p2) pos) (bin oIx (var i) (con (.int k))):=E6 (G6 P.sc i h) af
theorem Pl.call (P:Pl X N G) (i:Nat) (c:Callee X x f) (ha:SA X (e::es) gs) (h:G[i]? = some x:=by rfl) (he:starEach (e::es) X.env=(false,eval e X.env)::starEach es X.env:=by rfl) (hpl:(backTo pos (starEach es X.env)).any (·.1)=false:=by rfl) :
  SE X (.Call (.Name x p) (e::es) [] pos) (EV.call f gs):=JY c (P.gb _ (mG i h)) ha he hpl
theorem a1 (h1:SE X e1 g1) (s1:starEach [e1] X.env=(false,eval e1 X.env)::starEach [] X.env:=by rfl):SA X [e1] [g1]:=aj h1 gI s1
theorem a2 (h1:SE X e1 g1) (h2:SE X e2 g2) (s1:starEach [e1,e2] X.env=(false,eval e1 X.env)::starEach [e2] X.env:=by rfl) (s2:starEach [e2] X.env=(false,eval e2 X.env)::starEach [] X.env:=by rfl):SA X [e1,e2] [g1,g2]:=aj h1 (aj h2 gI s2) s1
theorem a3 (h1:SE X e1 g1) (h2:SE X e2 g2) (h3:SE X e3 g3) (s1:starEach [e1,e2,e3] X.env=(false,eval e1 X.env)::starEach [e2,e3] X.env:=by rfl) (s2:starEach [e2,e3] X.env=(false,eval e2 X.env)::starEach [e3] X.env:=by rfl) (s3:starEach [e3] X.env=(false,eval e3 X.env)::starEach [] X.env:=by rfl):SA X [e1,e2,e3] [g1,g2,g3]:=aj h1 (aj h2 (aj h3 gI s3) s2) s1
end
end ES
local macro_rules | `(tactic| walk_at "C")=>`(tactic| exact ⟨rfl,by decide +kernel,by decide +kernel,by decide +kernel,by decide +kernel,by decide +kernel,by decide +kernel,by decide +kernel,by decide +kernel,by decide +kernel⟩)
namespace ES
open PySem PySem.Spec PyProof.Rows L2 EV
unseal SE ST SW SA SS SSs SI SO
section
variable {X:Cx} {pos:Pos} {a b:Expr} {ga gb:E}
end
end ES
namespace EV
end EV
namespace ES
open PySem PySem.Spec PyProof.Rows L2 EV
unseal SE ST SW SA SS SSs SI SO
section
variable {X:Cx} {pos:Pos} {a b:Expr} {ga gb:E}
end
end ES
namespace EV
noncomputable def HA (x:PySem.Str) (lo hi:Option Int):PySem.Str:=⟨(cut x.cps.toList lo hi).toArray⟩
noncomputable def Ax:D->Option Int->Option Int->R D
 | .str x,lo,hi=>if x.cps.size<=1000000 then .ok (.str (HA x lo hi)) else .bad
 | _,_,_=>.bad
noncomputable def B3 (a:E) (lo hi:Option E):E:=fun δ=>(a δ).bind fun d=>(part lo δ).bind fun l=>(part hi δ).bind fun h=>Ax d l h
theorem j7 {a:E} {lo hi:Option E} {δ:Dt}:B3 a lo hi δ=(a δ).bind fun d=>(part lo δ).bind fun l=>(part hi δ).bind fun h=>Ax d l h:=rfl
theorem vF {x:PySem.Str} {lo hi:Option Int} (h:x.cps.size<=1000000):Ax (.str x) lo hi=.ok (.str (HA x lo hi)):=by unfold Ax;simp only;rw [if_pos h]
theorem dt {e:E} {δ:Dt}:part (some e) δ=(e δ).bind fun d=>match d with | .int i=>.ok (some i) | _=>.bad:=rfl
end EV
namespace ES
open PySem PySem.Spec PyProof.Rows L2 EV
unseal SE ST SW SA SS SSs SI SO
section
variable {X:Cx} {pos p p2:Pos} {a e:Expr} {g:E} {lo hi:Option Expr} {gl gu:Option E}
theorem Iz {n d:Nat} (h:d<=n) (i:Option Int):sIx n d i<=n:=by
 cases i with
 | none=>exact h
 | some j =>
  unfold sIx
  by_cases q:j<0
  ·simp only [if_pos q];omega
  ·simp only [if_neg q];exact Nat.min_le_right _ _
theorem GQ (n:Nat) (l u:Option Int):PySem.Builtin.Str.strSliceIndices l u 1 n=(List.range (sIx n n u - sIx n 0 l)).map (sIx n 0 l + ·):=by
 rw [<- PySem.sliceRange_one]
 unfold PySem.Builtin.Str.strSliceIndices
 simp only [show (1:Int)>0 by decide,if_true]
 congr 1
 ·cases l with
  | none=>rfl
  | some i=>simp only [sIx];by_cases h:i<0<;>simp only [h,if_true,if_false]<;>omega
 ·cases u with
  | none=>rfl
  | some i=>simp only [sIx];by_cases h:i<0<;>simp only [h,if_true,if_false]<;>omega
theorem zO (x:Str) (l u:Option Int):PySem.Txt.slice x l u=HA x l u:=by
 have hn:x.cps.toList.length=x.length:=by simp [Str.length]
 have h1:=Iz (Nat.le_refl x.length) u
 unfold PySem.Txt.slice HA EV.cut
 rw [GQ,PySem.pick_run,hn]
 split
 ·rename_i h
  simp only [beq_self_eq_true,Bool.true_and,List.length_map,List.length_range,beq_iff_eq] at h
  by_cases z:x.length=0
  ·have:x.cps.toList=[]:=List.length_eq_zero_iff.mp (by rw [hn];exact z)
   rw [this]
   simp only [List.drop_nil,List.take_nil]
   cases x with | mk c=>simp at this;rw [this]
  ·have e0:sIx x.length 0 l=0:=by omega
   rw [e0,List.drop_zero,List.take_of_length_le (by rw [hn];omega)]
 ·rfl
noncomputable def rSS (X:Cx):V->Option Int->Option Int->Hp->VK->Prop:=fun x l u H Q=>∃ dx d,Rep X.K X.mg H x dx/\Ax dx l u=.ok d/\∀ v H',aw H H'->Rep X.K X.mg H' v d->Q v H'
theorem Qz:SlR X (rSS X):=by
 intro pins s σ H x v vl vu l u sl Q I rx hs pl pu ⟨dx,d,r,e,q⟩
 cases dx with
 | str z =>
  unfold Ax at e
  simp only at e
  split at e
  ·rename_i hz
   cases e;cases r
   obtain ⟨t,rfl⟩:=rx
   have hsz:z.length<=sizeLine:=Nat.le_trans hz (by decide)
   have fin:∀ t' k,EP X pins σ Q (.str (PySem.Txt.slice z l u) t') { s with toks:=k }:=fun t' k=>⟨.str (PySem.Txt.slice z l u),H,I.tok k,⟨_,rfl⟩,by rw [zO];exact q _ _ (aw.refl _) (.str _)⟩
   have hl:=Nat.le_trans (PySem.Txt.slice_le z l u) hsz
   refine ⟨"str",_,F.slot_str_getitem.lookup,typeIs_str _ _ _,?_⟩
   cases pl with
   | none =>
    cases pu with
    | none=>exact wpAny_getItem_str_slice (l:=none) (u:=none) (st:=none) hs rfl (post_val_or_str ⟨hl,fin⟩)
    | int j uj=>exact wpAny_getItem_str_slice (l:=none) (u:=some (j,uj)) (st:=none) hs rfl (post_val_or_str ⟨hl,fin⟩)
   | int i ui =>
    cases pu with
    | none=>exact wpAny_getItem_str_slice (l:=some (i,ui)) (u:=none) (st:=none) hs rfl (post_val_or_str ⟨hl,fin⟩)
    | int j uj=>exact wpAny_getItem_str_slice (l:=some (i,ui)) (u:=some (j,uj)) (st:=none) hs rfl (post_val_or_str ⟨hl,fin⟩)
  ·cases e
 | _=>cases e
theorem kj (ha:SE X a g) (hl:SO X lo gl) (hu:SO X hi gu):SE X (.Subscript a (.Slice lo hi none p2) pos) (B3 g gl gu) :=
 PE.weak (vv Qz ha hl hu) fun σ H Q ⟨δ,hσ,q⟩=>⟨δ,hσ,(RQ.bind q).to fun x H1 _ ⟨s1,d,r1,q1⟩=>⟨δ,hσ.mono s1,(ROp.bind q1).to fun l H2 _ ⟨s2,q2⟩=>⟨δ,hσ.mono (s1.trans s2),(ROp.bind q2).to fun u H3 _ ⟨s3,q3⟩=>by
  have r3:=r1.mono (s2.trans s3)
  cases e:Ax d l u with
  | ok z=>rw [e] at q3;exact ⟨d,z,r3,e,q3⟩
  | ex C =>
   exfalso
   unfold Ax at e
   split at e
   ·split at e<;>cases e
   ·cases e
  | bad=>rw [e] at q3;exact False.elim q3⟩⟩⟩
structure IsW (X:Cx) (n:String) (C:Addr):Prop where
 mg:X.mg n=some (.ref C)
 cl:Cls X.K C
 ha:PySem.W.findIn X.K (.ref C) "__class__"=some (some (.builtin "object.__class__"))
 hn:PySem.W.specialIn X.K (.builtin "object.__class__") "__get__"=some (some (.builtin "getset_descriptor.__get__"))
 htk:PySem.W.takesIn X.K (.builtin "object.__class__")=some true
 hm:PySem.W.mroIn X.K C (.type "object")=some true
 kit:PySem.W.kitOne X.K (.ref C) (.ref C)=some true
end
end ES
namespace EV
noncomputable def mS (f:PySem.Str->D->R D) (a b:E):E:=fun δ=>(a δ).bind fun d=>match d with | .str z=>(b δ).bind (f z) | _=>.bad
noncomputable def nW:List D->R D
 | [.int i]=>if nb i<=1900 then .ok (.str (toString i)) else .bad
 | _=>.bad
noncomputable def zf (x:PySem.Str) (i:Int):PySem.Str:=if i<=x.cps.size then x else ⟨(List.replicate (i.toNat - x.cps.size) 48).toArray++x.cps⟩
noncomputable def mj (x:PySem.Str):D->R D
 | .int i=>if 0<=i/\i<=100000/\x.cps[0]? ≠ some 43/\x.cps[0]? ≠ some 45 then .ok (.str (zf x i)) else .bad
 | _=>.bad
noncomputable def pR:D->D->R D
 | .str x,.int n=>if x.cps.size=1 /\ -100000<=n/\n<=100000 then .ok (.str ⟨(List.replicate n.toNat (x.cps.getD 0 0)).toArray⟩) else .bad
 | _,_=>.bad
theorem yA {f:PySem.Str->D->R D} {a b:E} {δ:Dt}:mS f a b δ=(a δ).bind fun d=>match d with | .str z=>(b δ).bind (f z) | _=>.bad:=rfl
end EV
namespace ES
open PySem PySem.Spec PyProof.Rows L2 EV
open Builtin Builtin.Str Builtin.Int in
theorem AW {n:Nat} (h:n<=100000):tooLong n=false:=by
 unfold tooLong
 exact decide_eq_false (by have:sizeLine=16777216:=rfl;omega)
unseal SE ST SW SA SS SSs SI SO
section
variable {X:Cx} {pos:Pos} {a b:Expr} {ga gb:E}
theorem rj:NoX nW:=fun ds C z=>by unfold nW at z;split at z<;>first | cases z | exact dF z
theorem rZ:gJ X (.type "str") (rC X nW):=by
 intro pins s σ H xs us Q I rs ⟨ds,d,r,e,q⟩
 unfold nW at e
 split at e
 ·rename_i i
  split at e
  ·rename_i hz
   cases e
   obtain ⟨v,rfl,r1⟩:=nN r
   cases r1
   refine rW pins s σ H _ us Q I rs ⟨i,rfl,?_,q _ _ (aw.refl _) (.str _)⟩
   unfold nb at hz
   split at hz
   ·rename_i z;subst z;decide
   ·omega
  ·cases e
 ·cases e
noncomputable def rM (X:Cx) (f:Str->D->R D):V->List V->Hp->VK->Prop:=fun x vs H Q=>∃ z v dy d,x=.str z/\vs=[v]/\Rep X.K X.mg H v dy/\f z dy=.ok d/\∀ w H',aw H H'->Rep X.K X.mg H' w d->Q w H'
def HB (f:Str->D->R D):Prop:=∀ x y C,f x y ≠ .ex C
theorem Bk {f:Str->D->R D} {name:Str} {id:String} {apos cpos:Pos} (nx:HB f) (slot:Slot "str" name id) (hty:typeOf (.builtin id)=pure (.type "method_descriptor")) (hm:MtR X id (rM X f)) (ho:SE X a ga) (ha:SE X b gb)
  (hbase:attributeBase a name X.env (eval a X.env)=eval a X.env:=by rfl)
  (hfew:((backTo cpos (starEach [b] X.env)).all (fun x => !x.1)&&(backToKw cpos (keywordEach [] X.env)).all (fun x=>x.1.isSome)
   && decide ([b].length+([]:List Keyword).length+(if ([]:List Keyword).isEmpty then 0 else 1)<30))=true:=by rfl)
  (hline:(apos.endLine == cpos.line)=true:=by rfl) (hs:starEach [b] X.env=[(false,eval b X.env)]:=by rfl) :
  SE X (.Call (.Attribute a name apos) [b] [] cpos) (mS f ga gb):=by
 refine PE.weak (K7 F.plainAttrs_str slot hty hm ho (t6 ha An hs) hbase hfew hline hs (by rfl)) fun σ H Q ⟨δ,hσ,h⟩=>⟨δ,hσ,(RQ.bind h).to fun x H1 s1 ⟨_,dx,r1,q1⟩ => ?_⟩
 cases dx with
 | str z =>
  cases r1
  refine ⟨rfl,δ,hσ.mono s1,(RQ.bind q1).to fun y H2 s2 ⟨_,dy,r2,q2⟩ => ?_⟩
  cases e:f z dy with
  | ok d=>rw [e] at q2;exact ⟨z,y,dy,d,rfl,rfl,r2,e,q2⟩
  | ex C=>exact absurd e (nx z dy C)
  | bad=>rw [e] at q2;exact False.elim q2
 | _=>exact False.elim q1
theorem Gx:HB mj:=fun x y C z=>by unfold mj at z;split at z<;>first | cases z | exact dF z
theorem Ku {x:Str} {i:Int} (h1:x.cps[0]? ≠ some 43) (h2:x.cps[0]? ≠ some 45):Txt.zfill x i=zf x i:=by
 unfold Txt.zfill zf
 show (if i<=(x.cps.size:Int) then x else _)=_
 split
 ·rfl
 ·unfold zfilled
  split
  ·rename_i z;exact absurd z h1
  ·rename_i z;exact absurd z h2
  ·show Builtin.Str.padded x (i.toNat - x.cps.size) 0 48=_
   unfold Builtin.Str.padded
   simp
theorem Je {i:Int} (h0:0<=i) (h1:i<=100000):PadOk i=true:=by
 unfold PadOk fitsSsize
 have a:¬ i < -(2^63:Int):=by omega
 have b:¬ i>=2^63:=by omega
 rw [decide_eq_false a,decide_eq_false b,AW (by omega)]
 rfl
theorem CO:MtR X "str.zfill" (rM X mj):=by
 intro pins s σ H x vs v us Q I rx rv h
 obtain ⟨z,w,dy,d,rfl,rfl,r,e,q⟩:=h
 unfold mj at e
 split at e
 ·rename_i i
  split at e
  ·rename_i hc
   cases e
   cases r
   obtain ⟨t,rfl⟩:=rx
   obtain ⟨u,rfl,t',rfl⟩:=vals1 rv
   refine SC.zfill (Je hc.1 hc.2.1) fun t' k => ?_
   rw [Ku hc.2.2.1 hc.2.2.2]
   exact ⟨.str _,H,I.tok _,⟨_,rfl⟩,q _ _ (aw.refl _) (.str _)⟩
  ·cases e
 ·cases e
theorem wJ {a:Nat}:∀ (k:Nat) (acc:Array Nat),(List.replicate k #[a]).foldl (·++·) acc=acc++(List.replicate k a).toArray
 | 0,acc=>by simp
 | k+1,acc=>by
  rw [List.replicate_succ,List.foldl_cons,wJ k,List.replicate_succ,Array.append_assoc]
  exact congrArg (acc++·) (by apply Array.ext';simp [-List.toArray_replicate])
theorem Jp:jX pR:=fun x y C z=>by unfold pR at z;split at z<;>first | cases z | exact dF z
theorem Gn:OpR X (binaryOp .Mult) (rD X pR):=by
 intro pins s σ H x y v u Q I rx ry h
 obtain ⟨dx,dy,d,r1,r2,e,q⟩:=h
 unfold pR at e
 split at e
 ·rename_i z n
  split at e
  ·rename_i hc
   cases e
   cases r1
   cases r2
   obtain ⟨t,rfl⟩:=rx
   obtain ⟨t',rfl⟩:=ry
   have fin:∀ t' k (w:Str),w=⟨(List.replicate n.toNat (z.cps.getD 0 0)).toArray⟩->EP X pins σ Q (.str w t') { s with toks:=k }:=fun t' k w hw=>⟨.str w,H,I.tok k,⟨_,rfl⟩,by rw [hw];exact q _ _ (aw.refl _) (.str _)⟩
   have zz:z=⟨#[z.cps.getD 0 0]⟩:=by
    cases z with
    | mk c =>
     have hs:c.size=1:=hc.1
     congr 1
     apply Array.ext
     ·simp [hs]
     ·intro i h1 h2
      have:i=0:=by omega
      subst this
      simp [Array.getD,hs]
   refine PySem.P.mul_str (by
    rw [decide_eq_false (show ¬ n < -(2^63:Int) by omega),decide_eq_false (show ¬ n>=2^63 by omega)];rfl) (fun h1 h2 => ?_) (fun h1 h2 => ?_) ?_
   ·have:(z.length:Int)=1:=by show ((z.cps.size:Nat):Int)=1;rw [hc.1];rfl
    rw [this]
    have:1<=(2^63 - 1) / n:=(Int.le_ediv_iff_mul_le (by omega)).mpr (by omega)
    omega
   ·have:z.length=1:=hc.1
    exact AW (by rw [this];omega)
   ·by_cases g:n<1
    ·rw [if_pos g]
     exact ⟨by decide,fin _ _ _ (by rw [show n.toNat=0 by omega];rfl)⟩
    ·rw [if_neg g]
     by_cases g2:n=1
     ·rw [if_pos (by simp [g2])]
      exact fin t s.toks z (by rw [g2];exact zz)
     ·rw [if_neg (by have:z.length=1:=hc.1;simp [g2,this])]
      have ef:∀ k:Nat,(List.replicate k z.cps).foldl (·++·) (#[]:Array Nat)=(List.replicate k (z.cps.getD 0 0)).toArray:=by
       intro k
       have zc:z.cps = #[z.cps.getD 0 0]:=congrArg Str.cps zz
       generalize z.cps.getD 0 0=a at zc ⊢
       rw [zc,wJ]
       simp
      refine ⟨?_,fin _ _ _ (by rw [ef])⟩
      rw [ef]
      show (List.replicate n.toNat (z.cps.getD 0 0)).toArray.size<=sizeLine
      simp
      have:sizeLine=16777216:=rfl
      omega
  ·cases e
 ·cases e
theorem E3 (ha:SE X a ga) (hb:SE X b gb):SE X (.BinOp a .Mult b pos) (EV.bin pR ga gb):=p6 Jp Gn ha hb
end
end ES
namespace EV
noncomputable def yp (goes:Nat->Bool) (a b:Bool) (l:List Nat):List Nat :=
 let lo:=if a then (l.takeWhile goes).length else 0
 let hi:=if b then l.length - ((l.drop lo).reverse.takeWhile goes).length else l.length
 (l.take hi).drop lo
noncomputable def Hv (a b:Bool) (x:PySem.Str):D->R D
 | .str y=>if x.cps.size<=1000000 then .ok (.str ⟨(yp y.cps.contains a b x.cps.toList).toArray⟩) else .bad
 | _=>.bad
noncomputable def rJ:=Hv true true
noncomputable def aU (x:PySem.Str):D->R D
 | .str y=>.ok (.bl (decide (y.cps.size<=x.cps.size)&&(x.cps.extract 0 y.cps.size == y.cps)))
 | _=>.bad
end EV
namespace ES
open PySem PySem.Spec PyProof.Rows L2 EV
unseal SE ST SW SA SS SSs SI SO
section
variable {X:Cx} {pos:Pos} {a b:Expr} {ga gb:E}
theorem Lo {a b:Bool}:HB (Hv a b):=fun x y C z=>by unfold Hv at z;split at z<;>first | cases z | exact dF z
theorem Gy:HB rJ:=Lo
theorem dC:HB aU:=fun x y C z=>by unfold aU at z;split at z<;>cases z
theorem Cg (goes:Nat->Bool) (a b:Bool) (x:Str):Txt.stripBy goes a b x=⟨(yp goes a b x.cps.toList).toArray⟩:=by
 have hn:x.cps.toList.length=x.length:=by simp [Str.length]
 unfold Txt.stripBy yp
 split
 ·rename_i h
  unfold stripSame at h
  rw [Bool.and_eq_true,beq_iff_eq,beq_iff_eq] at h
  obtain ⟨h1,h2⟩:=h
  rw [h1] at h2
  unfold stripLo at h1
  unfold stripHi at h2
  rw [<- hn] at h2
  rw [List.drop_zero] at h2
  simp only [h1,List.drop_zero,h2,List.take_length]
 ·unfold stripped Builtin.Str.strSub stripLo stripHi
  rw [<- hn]
  congr 1
  apply Array.ext'
  simp [List.drop_take]
theorem Jy {id:String} {p q:Bool} (hc:∀ (s:Shared) (x y:Str) (t u:Tok) (Q:Value->Shared->Prop) (E:Value->Shared->Prop),x.length<=sizeLine->(∀ t' k,Q (.str (Txt.stripBy y.cps.contains p q x) t') { s with toks:=k })->wpAny (model X.prog X.w) X.A (call (.builtin id) [.str x t,.str y u]) Q E s) :
  MtR X id (rM X (Hv p q)):=by
 intro pins s σ H x vs v us Q I rx rv h
 obtain ⟨z,w,dy,d,rfl,rfl,r,e,q⟩:=h
 unfold Hv at e
 split at e
 ·split at e
  ·rename_i hz
   cases e
   cases r
   obtain ⟨t,rfl⟩:=rx
   obtain ⟨u,rfl,t',rfl⟩:=vals1 rv
   refine hc s z _ t t' _ _ (Nat.le_trans hz (by decide)) fun t'' k => ?_
   rw [Cg]
   exact ⟨.str _,H,I.tok _,⟨_,rfl⟩,q _ _ (aw.refl _) (.str _)⟩
  ·cases e
 ·cases e
theorem CP:MtR X "str.strip" (rM X rJ):=Jy fun s x y t u Q E hz h=>SC.stripChars h hz
theorem cF:MtR X "str.startswith" (rM X aU):=by
 intro pins s σ H x vs v us Q I rx rv h
 obtain ⟨z,w,dy,d,rfl,rfl,r,e,q⟩:=h
 unfold aU at e
 split at e
 ·cases e
  cases r
  obtain ⟨t,rfl⟩:=rx
  obtain ⟨u,rfl,t',rfl⟩:=vals1 rv
  refine SC.startswith ⟨.bl _,H,I,rfl,q _ _ (aw.refl _) ?_⟩
  have:∀ y:Str,Txt.startswith z y=(decide (y.cps.size<=z.cps.size)&&(z.cps.extract 0 y.cps.size == y.cps)):=fun y=>by
   unfold Txt.startswith Builtin.Str.subAt
   simp [Str.length]
  rw [this]
  exact .bl _
 ·cases e
end
end ES
namespace EV
noncomputable def aS (c:Nat) (l:List Nat):List Nat×List Nat×List Nat:=if c∈l then (l.takeWhile (· != c),[c],(l.dropWhile (· != c)).tail) else (l,[],[])
noncomputable def bC (x:PySem.Str):D->R D
 | .str y=>match y.cps.toList with
  | [c]=>if x.cps.size<=1000000 then .ok (.tup [.str ⟨(aS c x.cps.toList).1.toArray⟩,.str ⟨(aS c x.cps.toList).2.1.toArray⟩,.str ⟨(aS c x.cps.toList).2.2.toArray⟩]) else .bad
  | _=>.bad
 | _=>.bad
noncomputable def dv (l:List Nat):Nat:=l.foldl (fun a c=>a*10+(c - 48)) 0
noncomputable def nC (l:List Nat):Bool:=l.all fun c=>decide (48<=c/\c<=57)
noncomputable def mT:List D->R D
 | [.str x]=>if nC x.cps.toList=true/\x.cps.toList≠[]/\x.cps.size<=640 then .ok (.int (dv x.cps.toList)) else .bad
 | _=>.bad
noncomputable def Hq:List D->R D
 | [.lst ds]=>match boolsOf ds with | some bs=>.ok (.bl (bs.all id)) | none=>.bad
 | _=>.bad
noncomputable def asS:D->R (List D)
 | .str x=>if x.cps.size<=100000 then .ok (x.cps.toList.map fun c=>.str ⟨#[c]⟩) else .bad
 | _=>.bad
noncomputable def itS (g:E):IT:=fun δ=>(g δ).bind asS
theorem Kx {g:E} {δ:Dt}:itS g δ=(g δ).bind asS:=rfl
theorem BO {x:PySem.Str} (h:x.cps.size<=100000):asS (.str x)=.ok (x.cps.toList.map fun c=>.str ⟨#[c]⟩):=by unfold asS;simp only;rw [if_pos h]
end EV
namespace ES
open PySem PySem.Spec PyProof.Rows L2 EV
unseal SE ST SW SA SS SSs SI SO
section
variable {X:Cx} {pos:Pos} {tg e a b:Expr} {g ga gb:E}
theorem fZ:HB bC:=fun x y C z=>by
 unfold bC at z
 split at z
 ·split at z
  ·exact dF z
  ·cases z
 ·cases z
theorem Gf {l:List Nat} {c i:Nat} (h:l[i]? = some c) (hn:∀ k,k<i->l[k]? ≠ some c):aS c l=(l.take i,[c],l.drop (i+1)):=by
 have hm:c∈l:=List.mem_of_getElem? h
 unfold aS
 rw [if_pos hm]
 have key:∀ (l:List Nat) (i:Nat),l[i]? = some c->(∀ k,k<i->l[k]? ≠ some c)->l.takeWhile (· != c)=l.take i/\(l.dropWhile (· != c)).tail=l.drop (i+1):=by
  intro l
  induction l with
  | nil=>intro i h _;cases h
  | cons x r ih =>
   intro i h hn
   cases i with
   | zero =>
    cases h
    simp
   | succ i =>
    have hx:x≠c:=fun z=>hn 0 (Nat.succ_pos i) (by rw [z];rfl)
    obtain ⟨h1,h2⟩:=ih i h fun k hk=>hn (k+1) (Nat.succ_lt_succ hk)
    have hx':(x != c)=true:=by simpa using hx
    rw [List.takeWhile_cons,if_pos hx',List.dropWhile_cons,if_pos hx',h1,h2]
    simp
 obtain ⟨h1,h2⟩:=key l i h hn
 rw [h1,h2]
theorem Ge (x:Str) (c:Nat):Txt.partition x ⟨#[c]⟩=(⟨(aS c x.cps.toList).1.toArray⟩,⟨(aS c x.cps.toList).2.1.toArray⟩,⟨(aS c x.cps.toList).2.2.toArray⟩):=by
 rcases partition_whole x ⟨#[c]⟩ with ⟨hp,hn⟩ | ⟨i,hp,hi,hn⟩
 ·have:c∉x.cps.toList:=fun hm=>by
   obtain ⟨i,hi⟩:=(mem_iff_at x c).mp hm
   exact hn i hi
  unfold aS
  rw [if_neg this,hp]
  rfl
 ·have e:=Gf ((StrLaws.subAt_one x c i).mp hi) fun k hk z=>hn k hk ((StrLaws.subAt_one x c k).mpr z)
  rw [e,hp]
  have hl:x.cps.toList.length=x.cps.size:=by simp
  refine Prod.ext ?_ (Prod.ext rfl ?_)
  ·show Builtin.Str.strSub x 0 i=_
   unfold Builtin.Str.strSub
   congr 1
   apply Array.ext'
   simp
  ·show Builtin.Str.strSub x (i+1) x.cps.size=_
   unfold Builtin.Str.strSub
   congr 1
   apply Array.ext'
   simp
   exact List.take_of_length_le (by rw [List.length_drop];omega)
theorem nP {s:Shared} {x y:Str} {t u:Tok} {Q E:Value->Shared->Prop} (hy:(y.length == 0)=false) (hx:x.length<=sizeLine)
  (h:∀ ta tb tc k,Q (.ref s.heap.objs.size) { s with heap:=s.heap.push { cls:=.type "tuple",data:=.seq [.str (Txt.partition x y).1 ta,.str (Txt.partition x y).2.1 tb,.str (Txt.partition x y).2.2 tc].toArray },toks:=k }) :
  wpAny (model X.prog X.w) X.A (call (.builtin "str.partition") [.str x t,.str y u]) Q E s:=by
 refine call_meets F.slot_str_partition (typeIs_str _ _ _) F.entry_str_partition (F.args_str_partition_2 _ _) (meets_str_partition x y t u hy hx) ?_
 have h':=h
 unfold Txt.partition at h'
 revert h'
 cases Builtin.Str.occurrences x y 0 x.length 1 with
 | nil=>intro h';exact h' _ _ _ _
 | cons i r=>intro h';exact h' _ _ _ _
theorem eX:MtR X "str.partition" (rM X bC):=by
 intro pins s σ H x vs v us Q I rx rv h
 obtain ⟨z,w,dy,d,rfl,rfl,r,e,q⟩:=h
 unfold bC at e
 split at e
 ·rename_i y
  split at e
  ·rename_i c hc
   split at e
   ·rename_i hz
    cases e
    cases r
    obtain ⟨t,rfl⟩:=rx
    obtain ⟨u,rfl,t',rfl⟩:=vals1 rv
    have ey:y=⟨#[c]⟩:=by
     cases y with
     | mk cs=>congr 1;apply Array.ext';exact hc
    subst ey
    refine nP rfl (Nat.le_trans hz (by decide)) fun ta tb tc k => ?_
    rw [Ge]
    have hn:H s.heap.objs.size=none:=I.hok.fresh (Nat.le_refl _)
    generalize aS c z.cps.toList=pp at *
    refine ⟨.ref s.heap.objs.size,upd H s.heap.objs.size (.tup [.str ⟨pp.1.toArray⟩,.str ⟨pp.2.1.toArray⟩,.str ⟨pp.2.2.toArray⟩]),?_,rfl,q _ _ (a9 hn _) (.tup (SqT.of bG) (.cons (.str _) (.cons (.str _) (.cons (.str _) .nil))))⟩
    refine I.laid (fun b o e=>Heap.get?_push_of_some _ e) (Nat.le_refl _) ⟨by simp only [List.length_cons,List.length_nil];rw [sizeLine_eq];decide,[.str ⟨pp.1.toArray⟩ ta,.str ⟨pp.2.1.toArray⟩ tb,.str ⟨pp.2.2.toArray⟩ tc],.cons ⟨_,rfl⟩ (.cons ⟨_,rfl⟩ (.cons ⟨_,rfl⟩ .nil)),?_⟩
    exact ⟨_,Heap.get?_push_size s.heap rfl,rfl,0,rfl⟩
   ·cases e
  ·cases e
 ·cases e
theorem v5:NoX mT:=fun ds C z=>by unfold mT at z;split at z<;>first | cases z | exact dF z
theorem wX:gJ X (.type "int") (rC X mT):=by
 intro pins s σ H xs us Q I rs ⟨ds,d,r,e,q⟩
 unfold mT at e
 split at e
 ·rename_i x
  split at e
  ·rename_i hz
   cases e
   obtain ⟨v,rfl,r1⟩:=nN r
   cases r1
   obtain ⟨u,rfl,t,rfl⟩:=vals1 rs
   have hd:NumText.AllDigits x.cps.toList:=fun c hc=>by
    have:=hz.1
    unfold nC at this
    have:=List.all_eq_true.mp this c hc
    simpa using this
   have hx:x.length<=640:=hz.2.2
   exact PySem.W.KIN.call_text (PySem.intText_digits hd hz.2.1 (by omega)) hx ⟨.int _,H,I.tok _,⟨_,rfl⟩,q _ _ (aw.refl _) (.int _)⟩
  ·cases e
 ·cases e
theorem Lq:NoX Hq:=fun ds C z=>by
 unfold Hq at z
 split at z
 ·split at z<;>cases z
 ·cases z
theorem LK (hc:X.calm=true):gJ X (.builtin "all") (rC X Hq):=by
 intro pins s σ H xs us Q I rs ⟨ds,d,r,e,q⟩
 unfold Hq at e
 split at e
 ·rename_i ds'
  cases hbs:boolsOf ds' with
  | none=>rw [hbs] at e;cases e
  | some bs =>
   rw [hbs] at e
   cases e
   obtain ⟨v,rfl,r1⟩:=nN r
   cases r1 with
   | @lst a ys _ hq rr =>
    obtain ⟨its,rv,pl,_⟩:=I.list hq
    have e1:=oK hbs rr rv
    cases rs with
    | cons h1 h2 =>
     cases h2
     cases h1
     have hl:=pl.isList
     rw [e1] at hl
     have hlt:a<s.heap.objs.size:=by obtain ⟨_,z,_⟩:=hl;exact Heap.lt_size z
     refine call_all_walk (wpAny_pyIter_list hl ⟨_,_,_,_,_,_,fun i=>(bs[i]?).getD false,rfl,Walks.list (A:=X.A.in1) (I.ok.hd hc) _ a (Nat.ne_of_lt hlt) (bs.map Value.bool).toArray,⟨⟨_,Heap.get?_push_size _ rfl,rfl,rfl⟩,hl.push _⟩,?_,fun h' tk hk => ?_⟩)
     ·intro i v s' Q' E' hP hQ
      have hQ':Q' ((bs[i]?).getD false) s':=hQ
      have hP':((bs.map Value.bool).toArray)[i]? = some v:=hP
      rw [List.getElem?_toArray,List.getElem?_map] at hP'
      cases hb:bs[i]? with
      | none=>rw [hb] at hP';cases hP'
      | some b =>
       rw [hb] at hP' hQ'
       cases hP'
       exact wpAny_truthy_bool hQ'
     ·have hold:∀ b o,s.heap.get? b=some o->h'.get? b=some o:=fun b o z=>hk b o (fun hm=>by
       rcases List.mem_cons.mp hm with e2 | hm
       ·exact absurd (e2▸Heap.lt_size z) (Nat.lt_irrefl _)
       ·cases hm) (Heap.get?_push_of_some _ z)
      have ea:(List.range (bs.map Value.bool).toArray.size).all (fun i=>(bs[i]?).getD false)=bs.all id:=by
       rw [List.size_toArray,List.length_map]
       apply Bool.eq_iff_iff.mpr
       simp only [List.all_eq_true,List.mem_range,id]
       constructor
       ·intro z b hb
        obtain ⟨i,hi,rfl⟩:=List.getElem_of_mem hb
        have:=z i hi
        rw [List.getElem?_eq_getElem hi] at this
        exact this
       ·intro z i hi
        rw [List.getElem?_eq_getElem hi]
        exact z _ (List.getElem_mem hi)
      rw [ea]
      exact ⟨.bl _,H,I.kept (t':=tk) hold,rfl,q _ _ (aw.refl _) (.bl _)⟩
 ·cases e
noncomputable def Its (x:Str):It:=⟨fun i _=>i<x.cps.size,fun i H v H'=>H'=H/\∃ c,x.cps[i]? = some c/\v=.str ⟨#[c]⟩,fun i _=>x.cps.size<=i⟩
theorem xJ {P:Program} {w:World} {K:PySem.W.Frag} (x:Str) (t:Tok) (it:Addr):Turn P w K tg (Its x) [it] it (fun i h=>h.IsStrIter it "str_ascii_iterator" x t i) where
 mem:=by simp
 obj:=fun i h st b hb=>by
  have e:b=it:=by simpa using hb
  subst e
  obtain ⟨o,e,c,d⟩:=st
  exact ⟨o,e,fun v z=>by rw [d] at z;cases z⟩
 keep:=fun i h h' st k=>let ⟨o,ho,r⟩:=st;⟨o,k it (by simp) o ho,r⟩
 item:=by
  intro X hP hw hK hc i pins s σ H E I hf st hg
  subst hP hw hK
  have hg:i<x.cps.size:=hg
  obtain ⟨f0,f1,f2,f3,f4,f5⟩:=hf it (by simp)
  refine wpAny_pyNext_ascii_item st (c:=x.cps[i]) (by simp [hg]) fun h' st' sb => ?_
  have I1:Inv X pins σ H { s with heap:=h',toks:=s.toks+1 }:=I.turned (fun b o hb e=>sb.extBut b o hb e) f0 f1 f3 f4 f5
  obtain ⟨o,e,c,d⟩:=id st'
  exact ⟨_,rfl,C1 (s:={ s with heap:=h',toks:=s.toks+1 }) e c d (by decide) ⟨.str ⟨#[x.cps[i]]⟩,H,I1,⟨_,rfl⟩,⟨rfl,_,by simp [hg],rfl⟩,st',fun b hb=>(hf b hb).1⟩⟩
 done:=by
  intro X hP hw hK hc i pins s σ H E I hf st hg
  subst hP hw hK
  have hg:x.cps.size<=i:=hg
  obtain ⟨f0,f1,f2,f3,f4,f5⟩:=hf it (by simp)
  exact wpAny_pyNext_ascii_end (I.ok.hd hc) st (by simp [hg]) fun h' eb=>⟨rfl,I.turned (t':=s.toks) (fun b o hb e=>eb b o hb e) f0 f1 f3 f4 f5⟩
 self:=fun _ _ _ _ _ st h=>wpAny_pyIter_striter_ascii st h
theorem zp {P:Program} {w:World} {K:PySem.W.Frag} (x:Str) (t:Tok) (it:Addr):Turn P w K tg (Its x) [it] it (fun i h=>h.IsStrIter it "str_iterator" x t i) where
 mem:=by simp
 obj:=fun i h st b hb=>by
  have e:b=it:=by simpa using hb
  subst e
  obtain ⟨o,e,c,d⟩:=st
  exact ⟨o,e,fun v z=>by rw [d] at z;cases z⟩
 keep:=fun i h h' st k=>let ⟨o,ho,r⟩:=st;⟨o,k it (by simp) o ho,r⟩
 item:=by
  intro X hP hw hK hc i pins s σ H E I hf st hg
  subst hP hw hK
  have hg:i<x.cps.size:=hg
  obtain ⟨f0,f1,f2,f3,f4,f5⟩:=hf it (by simp)
  refine wpAny_pyNext_wide_item st (c:=x.cps[i]) (by simp [hg]) fun h' st' sb => ?_
  have I1:Inv X pins σ H { s with heap:=h',toks:=s.toks+1 }:=I.turned (fun b o hb e=>sb.extBut b o hb e) f0 f1 f3 f4 f5
  obtain ⟨o,e,c,d⟩:=id st'
  exact ⟨_,rfl,C1 (s:={ s with heap:=h',toks:=s.toks+1 }) e c d (by decide) ⟨.str ⟨#[x.cps[i]]⟩,H,I1,⟨_,rfl⟩,⟨rfl,_,by simp [hg],rfl⟩,st',fun b hb=>(hf b hb).1⟩⟩
 done:=by
  intro X hP hw hK hc i pins s σ H E I hf st hg
  subst hP hw hK
  have hg:x.cps.size<=i:=hg
  obtain ⟨f0,f1,f2,f3,f4,f5⟩:=hf it (by simp)
  exact wpAny_pyNext_wide_end (I.ok.hd hc) st (by simp [hg]) fun h' eb=>⟨rfl,I.turned (t':=s.toks) (fun b o hb e=>eb b o hb e) f0 f1 f3 f4 f5⟩
 self:=fun _ _ _ _ _ st h=>wpAny_pyIter_striter_wide st h
noncomputable def Sv (tl:TE):TI:=fun σ H R=>tl σ H fun v H1=>∃ x,v=.str x/\R (Its x) H1
theorem IU {l:Expr} {tl:TE} (hl:PE X l tl):PI X tg l (Sv tl):=by
 intro pins s σ H R I h
 refine thn (hl pins s σ H _ I h) fun v s1 ⟨x,H1,I1,r1,q1⟩ => ?_
 obtain ⟨x,e,q⟩:=q1
 subst e
 obtain ⟨t,rfl⟩:=r1
 have fp:∀ b∈[s1.heap.objs.size],B7 X pins H1 b:=fun b hb=>by
  have e:b=s1.heap.objs.size:=by simpa using hb
  subst e
  exact I1.fpOk (Nat.le_refl _) (I1.hok.fresh (Nat.le_refl _))
 cases ha:x.cps.all (· < 128)
 ·refine wpAny_pyIter_wide ha ?_
  exact ⟨s1.heap.objs.size,[s1.heap.objs.size],_,_,H1,rfl,I1.kept (t':=s1.toks) fun b o e=>Heap.get?_push_of_some _ e,zp x t _,⟨_,Heap.get?_push_size _ rfl,rfl,rfl⟩,fp,q⟩
 ·refine wpAny_pyIter_ascii ha ?_
  exact ⟨s1.heap.objs.size,[s1.heap.objs.size],_,_,H1,rfl,I1.kept (t':=s1.toks) fun b o e=>Heap.get?_push_of_some _ e,xJ x t _,⟨_,Heap.get?_push_size _ rfl,rfl,rfl⟩,fp,q⟩
theorem JK (h:SE X e g):SI X tg e (itS g):=PI.weak (IU h) fun σ H Q ⟨δ,hσ,q⟩=>⟨δ,hσ,(RI.bind q).to fun v H' s ⟨_,d,r,q⟩=>by
 cases d with
 | str x =>
  cases r
  unfold asS at q
  simp only at q
  split at q
  ·refine ⟨x,rfl,q _ _ (aw.refl _) fun Hc sc=>⟨fun i d hd => ?_,fun i hi => ?_⟩⟩
   ·rw [List.getElem?_map] at hd
    have hx:x.cps.toList[i]? = x.cps[i]? := by simp
    rw [hx] at hd
    cases hc:x.cps[i]? with
    | none=>rw [hc] at hd;cases hd
    | some c =>
     rw [hc] at hd
     cases hd
     refine ⟨?_,fun y H'' ⟨e2,c',e3,e4⟩=>⟨e2,?_⟩⟩
     ·show i<x.cps.size
      exact (Array.getElem?_eq_some_iff.mp hc).1
     ·rw [hc] at e3
      cases e3
      subst e4
      exact .str _
   ·show x.cps.size<=i
    simpa using hi
  ·exact False.elim q
 | _=>exact False.elim q⟩
end
end ES
namespace EV
end EV
namespace ES
open PySem PySem.Spec PyProof.Rows L2 EV
abbrev IsZ (h:Heap) (z TI TO:Addr) (f0:Value) (b:Bool):Prop :=
 h.get? z=some { cls:=.type "zip",dict:=none,data:=.fields #[f0,.bool b,.bool false,.ref TI,.ref TO],slots := #[] }
section
variable {prog:Program} {w:World} {A:Around} {E:Value->Shared->Prop} {s:Shared}
end
structure Zs (h:Heap) (z TI TO i1 i2 l1 l2 S N0:Addr) (xs ys:Array Value) (i:Nat) (acc:Array Value):Prop where
 zf:(IsZip h z TI TO .none/\∃ a b,IsPair h TO a b)\/∃ (T:Addr) (b:Bool),IsZ h z TI TO (rawInt T) b/\(∃ o,h.get? T=some o)/\N0<=T
 ti:IsPair h TI (.ref i1) (.ref i2)
 h1:h.IsListIter i1 l1 i
 h2:h.IsListIter i2 l2 i
 hl1:h.IsList l1 xs
 hl2:h.IsList l2 ys
 sz:N0<=h.objs.size
 al:acc.size=i
 ac:∀ (j:Nat) (v:Value),acc[j]? = some v->∃ (a:Addr) (x y:Value),v=Value.ref a/\xs[j]? = some x/\ys[j]? = some y/\IsPair h a x y/\N0<=a
 inj:∀ (j j':Nat) (a:Addr),acc[j]? = some (Value.ref a)->acc[j']? = some (Value.ref a)->j=j'
structure Zap (z TI TO i1 i2 l1 l2 S N0:Addr):Prop where
 D:ZipApart z TI TO i1 i2 l1 l2
 zN:z<N0
 TIN:TI<N0
 TON:TO<N0
 i1N:i1<N0
 i2N:i2<N0
 SN:S<N0
 Sz:S≠z
 STI:S≠TI
 STO:S≠TO
 Si1:S≠i1
 Si2:S≠i2
 Sl1:S≠l1
 Sl2:S≠l2
section
variable {prog:Program} {w:World} {A:Around} {R:Result->Shared->Prop} {z TI TO i1 i2 l1 l2 S N0:Addr} {xs ys:Array Value}
end
section
variable {prog:Program} {w:World} {A:Around} {E:Value->Shared->Prop} {s:Shared} {xs ys:Array Value}
end
section
variable {X:Cx} {pins:List (Addr×Obj)} {σ:L2.St} {H H':Hp} {s:Shared}
end
unseal SE ST SW SA SS SSs SI SO
section
variable {X:Cx} {a b:Expr} {ga gb:E} {p p2 pos pos2:Pos}
end
end ES
namespace ES
open PySem PySem.Spec PyProof.Rows L2 EV
unseal SE ST SW SA SS SSs SI SO
section
variable {X:Cx} {N:List Str} {e e2:Expr} {g g2:E} {pos:Pos}
end
end ES
namespace EV
end EV
namespace T
open EV
noncomputable def df:S :=
 seq (assign 2 (con (.int 112)))
 (seq (ifs (bin oGt (var 1) (con (.int 4))) (assign 2 (con (.int 23))) (ao))
 (seq (ifs (bin oGt (var 1) (con (.int 12))) (assign 2 (con (.int 10))) (ao))
 (seq (ifs (bin oGt (var 1) (con (.int 24))) (assign 2 (con (.int 4))) (ao))
 (ret (iP [bin aX (con (.int 2)) (bin oMod (var 0) (con (.int 14))),bin aX (con (.int 1)) (bin oMod (bin oDiv (var 0) (con (.int 14))) (var 2))])))))
noncomputable def bU:List D->R D:=fn 2 3 df
noncomputable def dS:S :=
 seq (ifs (bin oLt (var 1) (call nD [var 0])) (ret (bin oIx (var 0) (var 1))) (ao))
 (ret (con (.int 0)))
noncomputable def cD:List D->R D:=fn 2 2 dS
noncomputable def dR:S :=
 seq (assign 2 (bin cO (bin cM (bin cO (con (.int 1)) (bin oIx (var 0) (con (.int 0)))) (con (.int 1))) (bin oIx (var 0) (con (.int 1)))))
 (seq (assign 3 (bin oMod (var 1) (con (.int 6))))
 (seq (assign 4 (bin oDiv (var 1) (con (.int 6))))
 (seq (ifs (bin oEq (var 3) (con (.int 0))) (ret (bin oMod (var 4) (var 2))) (ao))
 (seq (ifs (bin oEq (var 3) (con (.int 1))) (ret (bin cM (bin cM (var 2) (con (.int 1))) (bin oMod (var 4) (var 2)))) (ao))
 (seq (ifs (bin oEq (var 3) (con (.int 2))) (ret (bin aX (bin cM (bin cO (con (.int 1)) (bin oIx (var 0) (con (.int 1)))) (con (.int 2))) (bin oMod (var 4) (con (.int 4))))) (ao))
 (seq (ifs (bin oEq (var 3) (con (.int 3))) (seq (assign 5 (bin oMod (var 4) (bin cM (bin cO (con (.int 1)) (bin oIx (var 0) (con (.int 0)))) (con (.int 1)))))
 (ret (bin aX (bin cO (var 5) (bin oIx (var 0) (con (.int 1)))) (bin dY (bin oMod (bin oDiv (var 4) (con (.int 7))) (con (.int 2))) (bin cM (bin cO (con (.int 1)) (bin oIx (var 0) (con (.int 1)))) (con (.int 1))))))) (ao))
 (ret (bin oMod (bin dY (var 4) (con (.int 73846150927364518273645509182736455091827))) (var 2)))))))))
noncomputable def cC:List D->R D:=fn 2 6 dR
noncomputable def dU:S :=
 seq (assign 2 (bin cO (bin cM (bin cO (con (.int 1)) (bin oIx (var 0) (con (.int 0)))) (con (.int 1))) (bin oIx (var 0) (con (.int 1)))))
 (seq (assign 3 (bin oDiv (var 1) (con (.int 2))))
 (seq (assign 4 (call cC [var 0,var 3]))
 (seq (ifs (bin oEq (bin oMod (var 3) (con (.int 17))) (con (.int 5))) (assign 4 (var 2)) (ao))
 (seq (ifs (bin oEq (bin oMod (var 3) (con (.int 17))) (con (.int 11))) (assign 4 (bin aX (bin aX (var 2) (con (.int 1))) (bin oMod (bin oDiv (var 3) (con (.int 17))) (bin cM (bin cO (con (.int 1)) (bin oIx (var 0) (con (.int 1)))) (con (.int 1)))))) (ao))
 (ret (iP [bin oMod (var 1) (con (.int 2)),var 4]))))))
noncomputable def bO:List D->R D:=fn 2 5 dU
noncomputable def ix:S :=
 ret (bin cO (con (.int 1)) (bin aX (bin oIx (var 0) (con (.int 0))) (bin oIx (var 0) (con (.int 1)))))
noncomputable def cq:List D->R D:=fn 1 1 ix
noncomputable def pY:S :=
 ret (bin aX (bin aX (bin oIx (var 0) (con (.int 0))) (bin oIx (var 0) (con (.int 1)))) (con (.int 1)))
noncomputable def ma:List D->R D:=fn 1 1 pY
noncomputable def lG:S :=
 seq (ifs (or_ (bin oLt (var 1) (con (.int 0))) (bin oGe (var 1) (bin cO (con (.int 1)) (call ma [var 0])))) (raise "NoBits") (ao))
 (seq (assign 2 (bin oMod (var 1) (call cq [var 0])))
 (seq (assign 3 (bin cO (con (.int 1)) (bin oIx (var 0) (con (.int 1)))))
 (ret (iP [bin oDiv (var 1) (call cq [var 0]),bin oDiv (var 2) (var 3),bin oMod (var 2) (var 3)]))))
noncomputable def fW:List D->R D:=fn 2 4 lG
noncomputable def fm:S :=
 ret (bin cM (bin cO (con (.int 1)) (bin oIx (var 0) (con (.int 0)))) (con (.int 1)))
noncomputable def aW:List D->R D:=fn 1 1 fm
noncomputable def wG:S :=
 seq (assign 2 (call fW [var 0,var 1]))
 (seq (assign 3 (bin oIx (var 2) (con (.int 1))))
 (seq (assign 4 (bin oIx (var 2) (con (.int 2))))
 (seq (ifs (bin oEq (var 3) (con (.int 0))) (ret (ife (bin oEq (var 4) (con (.int 0))) (con (.str "nought")) (con (.str "faint")))) (ao))
 (seq (ifs (bin oEq (var 3) (call aW [var 0])) (ret (ife (bin oEq (var 4) (con (.int 0))) (con (.str "endless")) (con (.str "none")))) (ao))
 (ret (con (.str "plain")))))))
noncomputable def ou:List D->R D:=fn 2 5 wG
noncomputable def b7:S :=
 seq (assign 1 (bin oIx (var 0) (con (.int 1))))
 (seq (assign 2 (bin oIx (var 0) (con (.int 2))))
 (seq (ifs (bin oGe (var 2) (con (.int 0))) (ret (iP [bin oIx (var 0) (con (.int 0)),bin cO (var 1) (var 2),con (.int 1)])) (ao))
 (ret (iP [bin oIx (var 0) (con (.int 0)),var 1,bin cO (con (.int 1)) (un lA (var 2))]))))
noncomputable def bq:List D->R D:=fn 1 3 b7
noncomputable def wH:S :=
 ret (bin cM (bin cO (con (.int 1)) (bin cM (bin oIx (var 0) (con (.int 0))) (con (.int 1)))) (con (.int 1)))
noncomputable def qP:List D->R D:=fn 1 1 wH
noncomputable def C4:S :=
 ret (bin cM (bin cM (con (.int 1)) (call qP [var 0])) (bin oIx (var 0) (con (.int 1))))
noncomputable def md:List D->R D:=fn 1 1 C4
noncomputable def pX:S :=
 seq (assign 2 (call fW [var 0,var 1]))
 (seq (assign 3 (bin oIx (var 2) (con (.int 0))))
 (seq (assign 4 (bin oIx (var 2) (con (.int 1))))
 (seq (assign 5 (bin oIx (var 2) (con (.int 2))))
 (seq (ifs (bin oEq (var 4) (call aW [var 0])) (raise "NotFinite") (ao))
 (seq (ifs (bin oEq (var 4) (con (.int 0))) (ret (iP [var 3,var 5,call md [var 0]])) (ao))
 (ret (iP [var 3,bin aX (bin cO (con (.int 1)) (bin oIx (var 0) (con (.int 1)))) (var 5),bin cM (bin aX (call md [var 0]) (var 4)) (con (.int 1))])))))))
noncomputable def iT:List D->R D:=fn 2 6 pX
noncomputable def iz:S :=
 ret (call bq [call iT [var 0,var 1]])
noncomputable def cS:List D->R D:=fn 2 2 iz
noncomputable def ji (P0:List D->R D):S :=
 seq (ifs (bin oEq (var 0) (con (.int 0))) (ret (con (.int 1))) (ao))
 (seq (assign 1 (call P0 [bin oDiv (var 0) (con (.int 2))]))
 (ret (ife (bin oEq (bin mh (var 0) (con (.int 1))) (con (.int 1))) (bin dY (bin dY (var 1) (var 1)) (con (.int 10))) (bin dY (var 1) (var 1)))))
noncomputable def cA:Nat->List D->R D
 | 0=>fun _=>.bad
 | j+1=>fn 1 2 (ji (cA j))
noncomputable def jh:S :=
 seq (ifs (bin oGe (var 2) (con (.int 0))) (ret (iP [bin dY (var 0) (call (cA 20) [var 2]),var 1])) (ao))
 (ret (iP [var 0,bin dY (var 1) (call (cA 20) [un lA (var 2)])]))
noncomputable def br:List D->R D:=fn 3 3 jh
noncomputable def dk:S :=
 seq (assign 3 (call br [var 0,var 1,un lA (var 2)]))
 (ret (bin oLt (bin oIx (var 3) (con (.int 0))) (bin oIx (var 3) (con (.int 1)))))
noncomputable def bA:List D->R D:=fn 3 4 dk
noncomputable def lF:S :=
 seq (ifs (bin oGe (var 2) (con (.int 0))) (ret (iP [var 0,bin cO (var 1) (var 2)])) (ao))
 (ret (iP [bin cO (var 0) (un lA (var 2)),var 1]))
noncomputable def fV:List D->R D:=fn 3 3 lF
noncomputable def lH:S :=
 seq (assign 2 (bin cM (call jW [var 0]) (call jW [var 1])))
 (seq (assign 3 (call fV [var 0,var 1,var 2]))
 (ret (ife (bin oLt (bin oIx (var 3) (con (.int 0))) (bin oIx (var 3) (con (.int 1)))) (var 2) (bin aX (var 2) (con (.int 1))))))
noncomputable def fX:List D->R D:=fn 2 4 lH
noncomputable def eY:S :=
 seq (assign 2 (bin oDiv (bin dY (call fX [var 0,var 1]) (con (.int 30103))) (con (.int 100000))))
 (seq (dn (iA (call bA [var 0,var 1,var 2])) (assign 2 (bin aX (var 2) (con (.int 1)))))
 (ret (var 2)))
noncomputable def du:List D->R D:=fn 2 3 eY
noncomputable def cH:S :=
 seq (dn (bin oEq (bin oMod (var 1) (con (.int 10))) (con (.int 0))) (seq (assign 1 (bin oDiv (var 1) (con (.int 10))))
 (assign 2 (bin aX (var 2) (con (.int 1))))))
 (ret (iP [var 0,var 1,var 2]))
noncomputable def bL:List D->R D:=fn 3 3 cH
noncomputable def lD:S :=
 seq (ifs (bin eR (var 0) (con (.tup [.str "even",.str "away",.str "nought",.str "up",.str "down"]))) (raise "NoWay") (ao))
 (ret (call (mk1 "Way" "name") [var 0]))
noncomputable def dO:List D->R D:=fn 1 1 lD
noncomputable def b9:S :=
 ifs (or_ (bin oLt (var 0) (con (.int 0))) (bin oLt (var 1) (con (.int 1)))) (raise "NoFraction") (ao)
noncomputable def bu:List D->R D:=fn 2 2 b9
noncomputable def b8:S :=
 seq (ifs (bin oEq (var 0) (con (.int 0))) (ret (con (.int 0))) (ao))
 (seq (ifs (bin oLt (var 1) (var 2)) (ret (con (.int 1))) (ao))
 (ret (ife (bin oEq (var 1) (var 2)) (con (.int 2)) (con (.int 3)))))
noncomputable def bt:List D->R D:=fn 3 3 b8
noncomputable def jk:S :=
 ret (call bt [var 0,bin dY (con (.int 2)) (var 0),var 1])
noncomputable def gS:List D->R D:=fn 2 2 jk
noncomputable def Bd:S :=
 seq (expr (call bu [var 1,var 2]))
 (seq (ifs (bin oEq (var 1) (con (.int 0))) (ret (iP [con (.int 0),call md [var 0],con (.int 0)])) (ao))
 (seq (assign 3 (call Ho [call md [var 0],bin cM (bin cM (call fX [var 1,var 2]) (bin oIx (var 0) (con (.int 1)))) (con (.int 1))]))
 (seq (assign 4 (call fV [var 1,var 2,var 3]))
 (ret (iP [bin oDiv (bin oIx (var 4) (con (.int 0))) (bin oIx (var 4) (con (.int 1))),var 3,call gS [bin oMod (bin oIx (var 4) (con (.int 0))) (bin oIx (var 4) (con (.int 1))),bin oIx (var 4) (con (.int 1))]])))))
noncomputable def t7:List D->R D:=fn 3 5 Bd
noncomputable def jm:S :=
 ret (bin cO (call aW [var 0]) (bin oIx (var 0) (con (.int 1))))
noncomputable def ba:List D->R D:=fn 1 1 jm
noncomputable def lE:S :=
 ret (bin aX (bin dY (var 1) (call cq [var 0])) (var 2))
noncomputable def dP:List D->R D:=fn 3 3 lE
noncomputable def e7:S :=
 seq (ifs (bin oEq (var 2) (call ba [var 0])) (ret (bin aX (con (.int 1)) (con (.int 4)))) (ao))
 (seq (assign 3 (bin oLt (var 1) (bin cO (con (.int 1)) (bin oIx (var 0) (con (.int 1))))))
 (ret (ife (var 3) (bin aX (con (.int 1)) (con (.int 2))) (con (.int 1)))))
noncomputable def dz:List D->R D:=fn 3 4 e7
noncomputable def aY:S :=
 seq (ifs (bin oEq (un (yB "Way" "name") (var 0)) (con (.str "up"))) (ret (bin oEq (var 1) (con (.int 0)))) (ao))
 (ret (bQ (bin oEq (un (yB "Way" "name") (var 0)) (con (.str "down"))) (bin oEq (var 1) (con (.int 1)))))
noncomputable def aM:List D->R D:=fn 2 2 aY
noncomputable def d7:S :=
 seq (ifs (bin oEq (var 3) (con (.int 0))) (ret (con (.bl false))) (ao))
 (seq (ifs (bin oEq (un (yB "Way" "name") (var 0)) (con (.str "even"))) (ret (or_ (bin oEq (var 3) (con (.int 3))) (bQ (bin oEq (var 3) (con (.int 2))) (var 2)))) (ao))
 (seq (ifs (bin oEq (un (yB "Way" "name") (var 0)) (con (.str "away"))) (ret (bin oGe (var 3) (con (.int 2)))) (ao))
 (ret (Hu "Way" "flees_nought" aM (var 0) [var 1]))))
noncomputable def fY:List D->R D:=fn 4 4 d7
noncomputable def dD:S :=
 seq (ifs (bin oIn (un (yB "Way" "name") (var 0)) (iP [con (.str "even"),con (.str "away")])) (ret (con (.bl true))) (ao))
 (ret (Hu "Way" "flees_nought" aM (var 0) [var 1]))
noncomputable def eO:List D->R D:=fn 2 2 dD
noncomputable def jj:S :=
 seq (assign 6 (call dO [var 1]))
 (seq (assign 7 (bin aX (bin cO (bin cM (var 4) (call md [var 0])) (bin oIx (var 0) (con (.int 1)))) (var 3)))
 (seq (assign 8 (call ba [var 0]))
 (seq (ifs (bin oGe (var 7) (var 8)) (seq (assign 9 (ife (Hu "Way" "bursts" eO (var 6) [var 2]) (var 8) (bin cM (var 8) (con (.int 1)))))
 (ret (iP [call dP [var 0,var 2,var 9],bin aX (con (.int 1)) (con (.int 4))]))) (ao))
 (seq (ifs (bin oEq (var 5) (con (.int 0))) (ret (iP [call dP [var 0,var 2,var 7],con (.int 0)])) (ao))
 (seq (assign 9 (ife (Hu "Way" "grows" fY (var 6) [var 2,bin oEq (bin mh (var 7) (con (.int 1))) (con (.int 1)),var 5]) (bin aX (var 7) (con (.int 1))) (var 7)))
 (ret (iP [call dP [var 0,var 2,var 9],call dz [var 0,var 7,var 9]])))))))
noncomputable def gR:List D->R D:=fn 6 10 jj
noncomputable def hR:S :=
 seq (expr (call dO [var 1]))
 (seq (assign 5 (call t7 [var 0,var 3,var 4]))
 (ret (call gR [var 0,var 1,var 2,bin oIx (var 5) (con (.int 0)),bin oIx (var 5) (con (.int 1)),bin oIx (var 5) (con (.int 2))])))
noncomputable def aK:List D->R D:=fn 5 6 hR
noncomputable def eZ:S :=
 seq (assign 4 (bin oIx (call iT [var 0,var 1]) (con (.int 0))))
 (seq (assign 5 (call br [var 2,con (.int 1),var 3]))
 (ret (bin oEq (bin oIx (call aK [var 0,con (.str "even"),var 4,bin oIx (var 5) (con (.int 0)),bin oIx (var 5) (con (.int 1))]) (con (.int 0))) (var 1))))
noncomputable def bc:List D->R D:=fn 4 6 eZ
noncomputable def de:S :=
 seq (assign 4 (bin oDiv (bin oIx (var 3) (con (.int 0))) (bin oIx (var 3) (con (.int 1)))))
 (seq (assign 5 (bin dY (con (.int 2)) (bin oMod (bin oIx (var 3) (con (.int 0))) (bin oIx (var 3) (con (.int 1))))))
 (seq (assign 6 (or_ (bin oGt (var 5) (bin oIx (var 3) (con (.int 1)))) (bQ (bin oEq (var 5) (bin oIx (var 3) (con (.int 1)))) (bin oEq (bin mh (var 4) (con (.int 1))) (con (.int 1))))))
 (seq (assign 7 (ife (var 6) (AQ [bin aX (var 4) (con (.int 1)),var 4]) (AQ [var 4,bin aX (var 4) (con (.int 1))])))
 (seq (EX 8 (itA (var 7)) (ifs (call bc [var 0,var 1,var 8,var 2]) (ret (var 8)) (ao)))
 (ret (con .non))))))
noncomputable def bx:List D->R D:=fn 4 9 de
noncomputable def fK:S :=
 seq (assign 2 (call cS [var 0,var 1]))
 (seq (ifs (bin oEq (bin oIx (var 2) (con (.int 1))) (con (.int 0))) (ret (iP [bin oIx (var 2) (con (.int 0)),con (.int 0),con (.int 0)])) (ao))
 (seq (assign 3 (call du [bin oIx (var 2) (con (.int 1)),bin oIx (var 2) (con (.int 2))]))
 (seq (assign 4 (con .non))
 (seq (dn (un AE (var 4)) (seq (assign 3 (bin cM (var 3) (con (.int 1))))
 (seq (assign 5 (call br [bin oIx (var 2) (con (.int 1)),bin oIx (var 2) (con (.int 2)),un lA (var 3)]))
 (assign 4 (call bx [var 0,var 1,var 3,var 5])))))
 (ret (call bL [bin oIx (var 2) (con (.int 0)),var 4,var 3]))))))
noncomputable def cR:List D->R D:=fn 2 6 fK
noncomputable def fq:S :=
 seq (assign 2 (ife (bin oGt (call nD [var 0]) (con (.int 1))) (bin aX (con (.str ".")) (B3 (var 0) (some (con (.int 1))) none)) (con (.str ""))))
 (ret (bin aX (bin aX (bin aX (bin oIx (var 0) (con (.int 0))) (var 2)) (con (.str "e"))) (call nW [var 1])))
noncomputable def dB:List D->R D:=fn 2 3 fq
noncomputable def dj:S :=
 seq (ifs (bin oGe (var 1) (con (.int 0))) (ret (bin aX (var 0) (bin pR (con (.str "0")) (var 1)))) (ao))
 (seq (ifs (bin oGe (var 2) (con (.int 0))) (ret (bin aX (bin aX (B3 (var 0) none (some (bin aX (var 2) (con (.int 1))))) (con (.str "."))) (B3 (var 0) (some (bin aX (var 2) (con (.int 1)))) none))) (ao))
 (ret (bin aX (bin aX (con (.str "0.")) (bin pR (con (.str "0")) (bin cM (un lA (var 2)) (con (.int 1))))) (var 0))))
noncomputable def bV:List D->R D:=fn 3 3 dj
noncomputable def rP:S :=
 seq (assign 3 (ife (bin oEq (var 0) (con (.int 1))) (con (.str "-")) (con (.str ""))))
 (seq (ifs (bin oEq (var 1) (con (.int 0))) (ret (bin aX (var 3) (con (.str "0")))) (ao))
 (seq (assign 4 (call nW [var 1]))
 (seq (assign 5 (bin cM (bin aX (var 2) (call nD [var 4])) (con (.int 1))))
 (seq (ifs (chain oLe oLe (un lA (con (.int 5))) (var 5) (con (.int 20))) (ret (bin aX (var 3) (call bV [var 4,var 2,var 5]))) (ao))
 (ret (bin aX (var 3) (call dB [var 4,var 5])))))))
noncomputable def ka:List D->R D:=fn 3 6 rP
noncomputable def gZ:S :=
 seq (assign 2 (call ou [var 0,var 1]))
 (seq (ifs (bin oEq (var 2) (con (.str "none"))) (ret (con (.str "none"))) (ao))
 (seq (ifs (bin oEq (var 2) (con (.str "endless"))) (ret (ife (bin oGt (var 1) (call ba [var 0])) (con (.str "-endless")) (con (.str "endless")))) (ao))
 (seq (assign 3 (call cR [var 0,var 1]))
 (ret (call ka [bin oIx (var 3) (con (.int 0)),bin oIx (var 3) (con (.int 1)),bin oIx (var 3) (con (.int 2))])))))
noncomputable def ck:List D->R D:=fn 2 4 gZ
noncomputable def dh:S :=
 seq (ifs (or_ (bin oEq (var 0) (con (.str ""))) (bin oGt (call nD [var 0]) (con (.int 80)))) (ret (un lA (con (.int 1)))) (ao))
 (seq (EX 1 (itS (var 0)) (ifs (bin eR (var 1) (con (.str "0123456789"))) (ret (un lA (con (.int 1)))) (ao)))
 (ret (call mT [var 0])))
noncomputable def bz:List D->R D:=fn 1 2 dh
noncomputable def bP:S :=
 seq (assign 1 (B3 (var 0) (some (call BL [mS aU (var 0) (con (.str "-"))])) none))
 (seq (assign 2 (mS bC (var 1) (con (.str "e"))))
 (seq (assign 3 (mS bC (bin oIx (var 2) (con (.int 0))) (con (.str "."))))
 (seq (assign 4 (call bz [bin aX (bin oIx (var 3) (con (.int 0))) (bin oIx (var 3) (con (.int 2)))]))
 (seq (assign 5 (con (.int 0)))
 (seq (ifs (bin oEq (bin oIx (var 2) (con (.int 1))) (con (.str "e"))) (assign 5 (call bz [B3 (bin oIx (var 2) (con (.int 2))) (some (call BL [mS aU (bin oIx (var 2) (con (.int 2))) (con (.str "-"))])) none])) (ao))
 (seq (ifs (or_ (bin oLt (var 4) (con (.int 0))) (or_ (bin oLt (var 5) (con (.int 0))) (bin oGt (var 5) (con (.int 9999))))) (ret (iP [con (.int 0),con (.int 0)])) (ao))
 (seq (ifs (mS aU (bin oIx (var 2) (con (.int 2))) (con (.str "-"))) (assign 5 (un lA (var 5))) (ao))
 (seq (assign 6 (bin cM (var 5) (call nD [bin oIx (var 3) (con (.int 2))])))
 (seq (dn (bQ (bin oGt (var 4) (con (.int 0))) (bin oEq (bin oMod (var 4) (con (.int 10))) (con (.int 0)))) (seq (assign 4 (bin oDiv (var 4) (con (.int 10))))
 (assign 6 (bin aX (var 6) (con (.int 1))))))
 (ret (iP [var 4,var 6])))))))))))
noncomputable def aA:List D->R D:=fn 1 7 bP
noncomputable def d5 (P0:List D->R D):S :=
 seq (ifs (bin oEq (var 0) (con (.int 0))) (ret (con (.int 1))) (ao))
 (seq (assign 1 (call P0 [bin oDiv (var 0) (con (.int 2))]))
 (seq (ifs (bin oEq (bin oMod (var 0) (con (.int 2))) (con (.int 1))) (ret (bin dY (bin dY (var 1) (var 1)) (con (.int 10)))) (ao))
 (ret (bin dY (var 1) (var 1)))))
noncomputable def ar:Nat->List D->R D
 | 0=>fun _=>.bad
 | j+1=>fn 1 2 (d5 (ar j))
noncomputable def fh:S :=
 seq (ifs (or_ (bin oEq (var 2) (bin oIx (var 0) (con (.int 0)))) (bin oEq (var 2) (bin oIx (var 0) (con (.int 1))))) (ret (var 1)) (ao))
 (ret (chain oLt oLt (bin oIx (var 0) (con (.int 0))) (var 2) (bin oIx (var 0) (con (.int 1)))))
noncomputable def au:List D->R D:=fn 3 3 fh
noncomputable def gj:S :=
 seq (assign 2 (bin EB (var 1) (bin oIx (var 0) (con (.int 1)))))
 (seq (ifs (bin oEq (var 2) (con (.int 0))) (ret (var 1)) (ao))
 (ret (bin cO (bin aX (bin cO (con (.int 1)) (bin oIx (var 0) (con (.int 1)))) (bin oMod (var 1) (bin cO (con (.int 1)) (bin oIx (var 0) (con (.int 1)))))) (bin cM (var 2) (con (.int 1))))))
noncomputable def aI:List D->R D:=fn 2 3 gj
noncomputable def dQ:S :=
 seq (assign 4 (bin aX (bin cM (bin cO (con (.int 1)) (bin cM (bin oIx (var 0) (con (.int 0))) (con (.int 1)))) (con (.int 2))) (bin oIx (var 0) (con (.int 1)))))
 (seq (assign 5 (bin cO (con (.int 1)) (bin aX (var 4) (con (.int 1)))))
 (seq (assign 6 (con (.int 1)))
 (seq (ifs (bin oLt (var 3) (con (.int 0))) (assign 6 (call (ar 20) [un lA (var 3)])) (assign 5 (bin dY (var 5) (call (ar 20) [var 3]))))
 (seq (assign 7 (bin oEq (bin oMod (var 1) (con (.int 2))) (con (.int 0))))
 (seq (assign 8 (bin dY (bin dY (con (.int 2)) (call aI [var 0,var 1])) (var 6)))
 (seq (assign 9 (bin dY (bin aX (call aI [var 0,bin cM (var 1) (con (.int 1))]) (call aI [var 0,var 1])) (var 6)))
 (seq (assign 10 (bin dY (bin aX (call aI [var 0,var 1]) (call aI [var 0,bin aX (var 1) (con (.int 1))])) (var 6)))
 (seq (assign 11 (AQ [var 9,var 10]))
 (seq (assign 12 (bin dY (var 2) (var 5)))
 (seq (ifs (iA (call au [var 11,var 7,var 12])) (ret (con (.bl false))) (ao))
 (seq (assign 13 (bin dY (bin dY (bin oDiv (var 8) (bin dY (con (.int 10)) (var 5))) (con (.int 10))) (var 5)))
 (seq (ifs (bQ (bin oGt (var 2) (con (.int 9))) (call au [var 11,var 7,var 13])) (ret (con (.bl false))) (ao))
 (seq (ifs (bQ (bin oGt (var 2) (con (.int 9))) (call au [var 11,var 7,bin aX (var 13) (bin dY (con (.int 10)) (var 5))])) (ret (con (.bl false))) (ao))
 (seq (assign 13 (bin dY (bin oDiv (var 8) (var 5)) (var 5)))
 (seq (EX 14 (itA (AQ [var 13,bin aX (var 13) (var 5)])) (seq (assign 15 (bin cM (call yC [bin cM (var 14) (var 8)]) (call yC [bin cM (var 12) (var 8)])))
 (seq (assign 16 (or_ (bin oLt (var 15) (con (.int 0))) (bQ (bin oEq (var 15) (con (.int 0))) (bQ (bin oNe (var 14) (var 12)) (bin oEq (bin oMod (var 2) (con (.int 2))) (con (.int 1)))))))
 (ifs (bQ (var 16) (call au [var 11,var 7,var 14])) (ret (con (.bl false))) (ao)))))
 (seq (ifs (or_ (bin oNe (var 2) (con (.int 1))) (iA (call au [AQ [bin dY (con (.int 10)) (bin oIx (var 11) (con (.int 0))),bin dY (con (.int 10)) (bin oIx (var 11) (con (.int 1)))],var 7,bin dY (con (.int 9)) (var 5)]))) (ret (con (.bl true))) (ao))
 (ret (bin oGe (call yC [bin cM (bin dY (con (.int 9)) (var 5)) (bin dY (con (.int 10)) (var 8))]) (bin dY (con (.int 10)) (call yC [bin cM (var 12) (var 8)]))))))))))))))))))))
noncomputable def bN:List D->R D:=fn 4 17 dQ
noncomputable def fj:S :=
 seq (assign 3 (bin oIx (AQ [con (.str ""),con (.str "-")]) (var 0)))
 (seq (ifs (bin oEq (var 1) (con (.int 0))) (ret (bin aX (var 3) (con (.str "0")))) (ao))
 (seq (assign 4 (call nW [var 1]))
 (seq (assign 5 (bin cM (bin aX (var 2) (call nD [var 4])) (con (.int 1))))
 (seq (ifs (bQ (chain oLe oLe (un lA (con (.int 5))) (var 5) (con (.int 20))) (bin oGe (var 2) (con (.int 0)))) (ret (bin aX (var 3) (call nW [bin dY (var 1) (call (ar 20) [var 2])]))) (ao))
 (seq (ifs (chain oLe oLe (un lA (con (.int 5))) (var 5) (con (.int 20))) (seq (assign 6 (call (ar 20) [un lA (var 2)]))
 (ret (bin aX (bin aX (bin aX (var 3) (call nW [bin oDiv (var 1) (var 6)])) (con (.str "."))) (mS mj (call nW [bin oMod (var 1) (var 6)]) (un lA (var 2)))))) (ao))
 (seq (ifs (bin oEq (call nD [var 4]) (con (.int 1))) (ret (bin aX (bin aX (bin aX (var 3) (var 4)) (con (.str "e"))) (call nW [var 5]))) (ao))
 (ret (bin aX (bin aX (bin aX (bin aX (bin aX (var 3) (bin oIx (var 4) (con (.int 0)))) (con (.str "."))) (B3 (var 4) (some (con (.int 1))) none)) (con (.str "e"))) (call nW [var 5])))))))))
noncomputable def bK:List D->R D:=fn 3 7 fj
noncomputable def aO:S :=
 seq (ifs (iA (call gq [var 3,con (.ty "str")])) (ret (con (.bl false))) (ao))
 (seq (assign 4 (bin cO (bin cM (bin cO (con (.int 1)) (bin oIx (var 0) (con (.int 0)))) (con (.int 1))) (bin oIx (var 0) (con (.int 1)))))
 (seq (ifs (bin oGt (var 2) (var 4)) (ret (bin oEq (var 3) (con (.str "none")))) (ao))
 (seq (ifs (bin oEq (var 2) (var 4)) (ret (bin oEq (var 3) (bin oIx (AQ [con (.str "endless"),con (.str "-endless")]) (var 1)))) (ao))
 (seq (ifs (bin oEq (var 2) (con (.int 0))) (ret (bin oEq (var 3) (bin oIx (AQ [con (.str "0"),con (.str "-0")]) (var 1)))) (ao))
 (seq (assign 5 (call aA [var 3]))
 (seq (ifs (or_ (bin oEq (bin oIx (var 5) (con (.int 0))) (con (.int 0))) (bin oNe (var 3) (call bK [var 1,bin oIx (var 5) (con (.int 0)),bin oIx (var 5) (con (.int 1))]))) (ret (con (.bl false))) (ao))
 (ret (call bN [var 0,var 2,bin oIx (var 5) (con (.int 0)),bin oIx (var 5) (con (.int 1))]))))))))
noncomputable def aG:List D->R D:=fn 4 6 aO
noncomputable def cG:S :=
 seq (ifs (mS aU (var 0) (con (.str "-"))) (ret (iP [con (.int 1),B3 (var 0) (some (con (.int 1))) none])) (ao))
 (seq (ifs (mS aU (var 0) (con (.str "+"))) (ret (iP [con (.int 0),B3 (var 0) (some (con (.int 1))) none])) (ao))
 (ret (iP [con (.int 0),var 0])))
noncomputable def aD:List D->R D:=fn 1 1 cG
noncomputable def d6:S :=
 seq (ifs (bin oGt (call nD [var 0]) (con (.int 400))) (raise "NoText") (ao))
 (ret (mS rJ (var 0) (con (.str " "))))
noncomputable def bh:List D->R D:=fn 1 1 d6
noncomputable def dX:S :=
 ret (bQ (bin oNe (var 0) (con (.str ""))) (call Hq [comp (itS (var 0)) [] (bin oIn (var 0) (con (.str "0123456789")))]))
noncomputable def aE:List D->R D:=fn 1 1 dX
noncomputable def dW:S :=
 seq (assign 1 (call aD [var 0]))
 (seq (ifs (or_ (iA (call aE [bin oIx (var 1) (con (.int 1))])) (bin oGt (call nD [bin oIx (var 1) (con (.int 1))]) (con (.int 4)))) (raise "NoText") (ao))
 (ret (ife (bin oEq (bin oIx (var 1) (con (.int 0))) (con (.int 1))) (un lA (call mT [bin oIx (var 1) (con (.int 1))])) (call mT [bin oIx (var 1) (con (.int 1))]))))
noncomputable def cE:List D->R D:=fn 1 2 dW
noncomputable def gY:S :=
 seq (assign 1 (call aD [call bh [var 0]]))
 (seq (assign 2 (mS bC (bin oIx (var 1) (con (.int 1))) (con (.str "e"))))
 (seq (assign 3 (ife (bin oEq (bin oIx (var 2) (con (.int 1))) (con (.str "e"))) (call cE [bin oIx (var 2) (con (.int 2))]) (con (.int 0))))
 (seq (assign 4 (mS bC (bin oIx (var 2) (con (.int 0))) (con (.str "."))))
 (seq (ifs (iA (call aE [bin oIx (var 4) (con (.int 0))])) (raise "NoText") (ao))
 (seq (ifs (bQ (bin oEq (bin oIx (var 4) (con (.int 1))) (con (.str "."))) (iA (call aE [bin oIx (var 4) (con (.int 2))]))) (raise "NoText") (ao))
 (ret (iP [bin oIx (var 1) (con (.int 0)),call mT [bin aX (bin oIx (var 4) (con (.int 0))) (bin oIx (var 4) (con (.int 2)))],bin cM (var 3) (call nD [bin oIx (var 4) (con (.int 2))])])))))))
noncomputable def fF:List D->R D:=fn 1 5 gY
noncomputable def gh:S :=
 ret (bin aX (call ba [var 0]) (bin cO (con (.int 1)) (bin cM (bin oIx (var 0) (con (.int 1))) (con (.int 1)))))
noncomputable def d4:List D->R D:=fn 1 1 gh
noncomputable def oG:S :=
 seq (expr (call dO [var 1]))
 (seq (assign 3 (call aD [call bh [var 2]]))
 (seq (ifs (bin oEq (bin oIx (var 3) (con (.int 1))) (con (.str "endless"))) (ret (iP [call dP [var 0,bin oIx (var 3) (con (.int 0)),call ba [var 0]],con (.int 0)])) (ao))
 (seq (ifs (bin oEq (bin oIx (var 3) (con (.int 1))) (con (.str "none"))) (ret (iP [call d4 [var 0],con (.int 0)])) (ao))
 (seq (assign 4 (call fF [var 2]))
 (seq (assign 5 (call br [bin oIx (var 4) (con (.int 1)),con (.int 1),bin oIx (var 4) (con (.int 2))]))
 (ret (call aK [var 0,var 1,bin oIx (var 4) (con (.int 0)),bin oIx (var 5) (con (.int 0)),bin oIx (var 5) (con (.int 1))])))))))
noncomputable def gT:List D->R D:=fn 3 6 oG
noncomputable def jl:S :=
 seq (ifs (bin oEq (var 0) (con (.str "even"))) (ret (or_ (bin oGt (var 2) (con (.int 0))) (bQ (bin oEq (var 2) (con (.int 0))) (var 3)))) (ao))
 (seq (ifs (bin oEq (var 0) (con (.str "away"))) (ret (bin oGe (var 2) (con (.int 0)))) (ao))
 (ret (var 1)))
noncomputable def gU:List D->R D:=fn 4 4 jl
noncomputable def gi:S :=
 ret (bQ (call gq [var 0,con (.ty "int")]) (iA (call gq [var 0,con (.ty "bool")])))
noncomputable def bg:List D->R D:=fn 1 1 gi
noncomputable def iy:S :=
 seq (ifs (bin oEq (var 0) (con (.str "even"))) (ret (or_ (bin oLt (var 2) (con (.int 0))) (bQ (bin oEq (var 2) (con (.int 0))) (var 3)))) (ao))
 (seq (ifs (bin oEq (var 0) (con (.str "away"))) (ret (bin oLt (var 2) (con (.int 0)))) (ao))
 (ret (iA (var 1))))
noncomputable def fG:List D->R D:=fn 4 4 iy
noncomputable def cu:S :=
 seq (ifs (or_ (iA (call gq [var 5,con (.ty "tuple")])) (or_ (bin oNe (call nD [var 5]) (con (.int 2))) (or_ (iA (call bg [bin oIx (var 5) (con (.int 0))])) (iA (call bg [bin oIx (var 5) (con (.int 1))]))))) (ret (con (.bl false))) (ao))
 (seq (assign 6 (bin cM (bin oIx (var 5) (con (.int 0))) (bin cO (var 2) (bin aX (bin oIx (var 0) (con (.int 0))) (bin oIx (var 0) (con (.int 1)))))))
 (seq (assign 7 (bin cO (bin cM (bin cO (con (.int 1)) (bin oIx (var 0) (con (.int 0)))) (con (.int 1))) (bin oIx (var 0) (con (.int 1)))))
 (seq (ifs (iA (chain oLe oLe (con (.int 0)) (var 6) (var 7))) (ret (con (.bl false))) (ao))
 (seq (assign 8 (bin dY (call aI [var 0,var 6]) (var 4)))
 (seq (assign 9 (or_ (bQ (bin oEq (var 1) (con (.str "up"))) (bin oEq (var 2) (con (.int 0)))) (bQ (bin oEq (var 1) (con (.str "down"))) (bin oEq (var 2) (con (.int 1))))))
 (seq (ifs (bQ (bin oEq (var 6) (var 7)) (bin oGe (var 3) (var 8))) (ret (bQ (bin oEq (bin oIx (var 5) (con (.int 1))) (con (.int 5))) (or_ (bin oEq (var 1) (con (.str "even"))) (or_ (bin oEq (var 1) (con (.str "away"))) (var 9))))) (ao))
 (seq (ifs (bin oEq (var 3) (var 8)) (ret (bin oEq (bin oIx (var 5) (con (.int 1))) (con (.int 0)))) (ao))
 (seq (assign 10 (con (.int 1)))
 (seq (ifs (bin oLt (var 3) (bin cO (var 4) (bin oIx (var 0) (con (.int 1))))) (assign 10 (con (.int 3))) (ao))
 (seq (ifs (bin oGt (var 3) (var 8)) (seq (assign 12 (bin dY (call aI [var 0,bin aX (var 6) (con (.int 1))]) (var 4)))
 (seq (ifs (bin oGe (var 3) (var 12)) (ret (bQ (bin oEq (bin oIx (var 5) (con (.int 1))) (con (.int 5))) (bQ (bin oEq (var 6) (bin cM (var 7) (con (.int 1)))) (bQ (bin oNe (var 1) (con (.str "even"))) (bQ (bin oNe (var 1) (con (.str "away"))) (iA (var 9))))))) (ao))
 (ret (bQ (bin oEq (bin oIx (var 5) (con (.int 1))) (var 10)) (call fG [var 1,var 9,bin cM (bin cM (bin dY (con (.int 2)) (var 3)) (var 8)) (var 12),bin oEq (bin oMod (var 6) (con (.int 2))) (con (.int 0))]))))) (ao))
 (seq (ifs (bin oEq (var 6) (var 7)) (assign 10 (con (.int 5))) (ao))
 (seq (assign 11 (bin dY (call aI [var 0,bin cM (var 6) (con (.int 1))]) (var 4)))
 (seq (ifs (bin oLe (var 3) (var 11)) (ret (con (.bl false))) (ao))
 (ret (bQ (bin oEq (bin oIx (var 5) (con (.int 1))) (var 10)) (call gU [var 1,var 9,bin cM (bin cM (bin dY (con (.int 2)) (var 3)) (var 8)) (var 11),bin oEq (bin oMod (var 6) (con (.int 2))) (con (.int 0))]))))))))))))))))
noncomputable def aF:List D->R D:=fn 6 13 cu
noncomputable def bw:S :=
 seq (assign 5 (call gT [var 0,var 3,var 4]))
 (seq (assign 6 (bin cO (bin cM (bin cO (con (.int 1)) (bin oIx (var 0) (con (.int 0)))) (con (.int 1))) (bin oIx (var 0) (con (.int 1)))))
 (seq (assign 7 (bin aX (bin cO (var 1) (bin aX (bin oIx (var 0) (con (.int 0))) (bin oIx (var 0) (con (.int 1))))) (var 2)))
 (seq (ifs (bin oGt (var 2) (var 6)) (assign 7 (bin aX (var 6) (bin cO (con (.int 1)) (bin cM (bin oIx (var 0) (con (.int 1))) (con (.int 1)))))) (ao))
 (seq (ifs (or_ (iA (call gq [var 5,con (.ty "tuple")])) (or_ (bin oNe (call nD [var 5]) (con (.int 2))) (or_ (iA (call bg [bin oIx (var 5) (con (.int 0))])) (iA (call bg [bin oIx (var 5) (con (.int 1))]))))) (ret (con (.bl false))) (ao))
 (seq (ifs (bQ (bin oEq (var 3) (con (.str "even"))) (bin oNe (bin oIx (var 5) (con (.int 0))) (var 7))) (ret (con (.bl false))) (ao))
 (seq (ifs (or_ (bin oEq (var 2) (con (.int 0))) (bin oGe (var 2) (var 6))) (ret (bin oEq (var 5) (iP [var 7,con (.int 0)]))) (ao))
 (seq (assign 8 (call aA [var 4]))
 (seq (assign 9 (bin aX (bin cM (bin cO (con (.int 1)) (bin cM (bin oIx (var 0) (con (.int 0))) (con (.int 1)))) (con (.int 2))) (bin oIx (var 0) (con (.int 1)))))
 (seq (ifs (bin oLt (bin oIx (var 8) (con (.int 1))) (con (.int 0))) (ret (call aF [var 0,var 3,var 1,bin cO (bin oIx (var 8) (con (.int 0))) (var 9),call (ar 20) [un lA (bin oIx (var 8) (con (.int 1)))],var 5])) (ao))
 (ret (call aF [var 0,var 3,var 1,bin cO (bin dY (bin oIx (var 8) (con (.int 0))) (call (ar 20) [bin oIx (var 8) (con (.int 1))])) (var 9),con (.int 1),var 5])))))))))))
noncomputable def aH:List D->R D:=fn 5 10 bw
noncomputable def fi:S :=
 ret (bin oIx (AQ [con (.str "even"),con (.str "away"),con (.str "nought"),con (.str "up"),con (.str "down")]) (bin oMod (var 0) (con (.int 5))))
noncomputable def dA:List D->R D:=fn 1 1 fi
noncomputable def C5:S :=
 seq (assign 1 (slc (var 0) (some (con (.int 1))) (some (con (.int 64)))))
 (seq (assign 2 (call bU [call cD [var 0,con (.int 0)],call nD [var 1]]))
 (seq (EX 3 (itA (var 1)) (seq (assign 4 (call bO [var 2,var 3]))
 (seq (assign 5 (call ck [var 2,bin aX (bin oIx (var 4) (con (.int 1))) (bin cO (bin oIx (var 4) (con (.int 0))) (bin aX (bin oIx (var 2) (con (.int 0))) (bin oIx (var 2) (con (.int 1)))))]))
 (seq (ifs (iA (call aG [var 2,bin oIx (var 4) (con (.int 0)),bin oIx (var 4) (con (.int 1)),var 5])) (ret (con (.bl false))) (ao))
 (seq (ifs (iA (call aH [var 2,bin oIx (var 4) (con (.int 0)),bin oIx (var 4) (con (.int 1)),con (.str "even"),var 5])) (ret (con (.bl false))) (ao))
 (ifs (iA (call aH [var 2,bin oIx (var 4) (con (.int 0)),bin oIx (var 4) (con (.int 1)),call dA [bin oMod (bin dY (var 3) (con (.int 48271))) (con (.int 2147483647))],var 5])) (ret (con (.bl false))) (ao)))))))
 (ret (con (.bl true)))))
noncomputable def CD:List D->R D:=fn 1 6 C5
end T
namespace T
open PySem PySem.Spec PyProof.Rows L2 EV ES
noncomputable def top (i:Nat):Stmt:=PySem.Challenge.pw_roundmill_k57_whole_shown_and_read.main.body.getD i (.Pass ⟨0,0,0,0⟩)
set_option maxHeartbeats 4000000
noncomputable def iu:Stmt:=(dE (top 34)).getD 0 (.Pass ⟨0,0,0,0⟩)
noncomputable def cW:Stmt:=top 81
noncomputable abbrev iG:List Str:=["_law_cell","_law_many","_law_most"]
noncomputable abbrev iL:List Str:=[]
theorem lY:ScF iG iL ["_law_cell","_law_many"] (aa cW):=by walk_at "S"
noncomputable def dI:Stmt:=top 64
noncomputable abbrev jx:List Str:=["_law_script","_law_k"]
noncomputable abbrev jD:List Str:=["len"]
theorem nI:ScF jx jD ["_law_script","_law_k"] (aa dI):=by walk_at "S"
noncomputable def dH:Stmt:=top 67
noncomputable abbrev jw:List Str:=["_law_size","_law_cell","_law_last","_law_way","_law_rest","_law_field"]
noncomputable abbrev jC:List Str:=[]
theorem nH:ScF jw jC ["_law_size","_law_cell"] (aa dH):=by walk_at "S"
noncomputable def dJ:Stmt:=top 76
noncomputable abbrev jy:List Str:=["_law_size","_law_cell","_law_last","_law_rest","_law_code"]
noncomputable abbrev jE:List Str:=["_law_code_by"]
theorem nJ:ScF jy jE ["_law_size","_law_cell"] (aa dJ):=by walk_at "S"
noncomputable def ij:Stmt:=top 11
noncomputable abbrev oM:List Str:=["size"]
noncomputable abbrev oR:List Str:=[]
theorem tO:ScF oM oR ["size"] (aa ij):=by walk_at "S"
noncomputable def pG:Stmt:=top 8
noncomputable abbrev BY:List Str:=["size"]
noncomputable abbrev B1:List Str:=[]
theorem Cm:ScF BY B1 ["size"] (aa pG):=by walk_at "S"
noncomputable def lx:Stmt:=top 23
noncomputable abbrev xx:List Str:=["size","bits","code","step"]
noncomputable abbrev xE:List Str:=["width","NoBits","sign_bit"]
theorem zX:ScF xx xE ["size","bits"] (aa lx):=by walk_at "S"
noncomputable def eG:Stmt:=top 12
noncomputable abbrev kB:List Str:=["size"]
noncomputable abbrev kK:List Str:=[]
theorem pB:ScF kB kK ["size"] (aa eG):=by walk_at "S"
noncomputable def vi:Stmt:=top 24
noncomputable abbrev Fi:List Str:=["size","bits","parts","field","figures"]
noncomputable abbrev Fn:List Str:=["parted","last_field"]
theorem FW:ScF Fi Fn ["size","bits"] (aa vi):=by walk_at "S"
noncomputable def bW:Stmt:=top 26
noncomputable abbrev gw:List Str:=["value","whole","power"]
noncomputable abbrev gC:List Str:=[]
theorem jL:ScF gw gC ["value"] (aa bW):=by walk_at "S"
noncomputable def vk:Stmt:=top 9
noncomputable abbrev Fj:List Str:=["size"]
noncomputable abbrev Fo:List Str:=[]
theorem FY:ScF Fj Fo ["size"] (aa vk):=by walk_at "S"
noncomputable def Co:Stmt:=top 10
noncomputable abbrev Kd:List Str:=["size"]
noncomputable abbrev Kg:List Str:=["bias"]
theorem Ir:ScF Kd Kg ["size"] (aa Co):=by walk_at "S"
noncomputable def pF:Stmt:=top 25
noncomputable abbrev BX:List Str:=["size","bits","parts","sign","field","figures"]
noncomputable abbrev B0:List Str:=["parted","last_field","NotFinite","low"]
theorem Ck:ScF BX B0 ["size","bits"] (aa pF):=by walk_at "S"
noncomputable def ir:Stmt:=top 27
noncomputable abbrev oQ:List Str:=["size","bits"]
noncomputable abbrev oV:List Str:=["worth_fraction","worth"]
theorem tU:ScF oQ oV ["size","bits"] (aa ir):=by walk_at "S"
noncomputable def fQ:Stmt:=top 44
noncomputable abbrev xu:List Str:=["number","half"]
noncomputable abbrev xB:List Str:=["ten_to"]
theorem zU:ScF xu xB ["number"] (aa fQ):=by walk_at "S"
noncomputable def i7:Stmt:=top 45
noncomputable abbrev sT:List Str:=["top","bottom","place"]
noncomputable abbrev tf:List Str:=["ten_to"]
theorem xT:ScF sT tf ["top","bottom","place"] (aa i7):=by walk_at "S"
noncomputable def cZ:Stmt:=top 55
noncomputable abbrev iJ:List Str:=["top","bottom","number","parts"]
noncomputable abbrev iO:List Str:=["tenfold"]
theorem l6:ScF iJ iO ["top","bottom","number"] (aa cZ):=by walk_at "S"
noncomputable def lq:Stmt:=top 17
noncomputable abbrev xw:List Str:=["top","bottom","power"]
noncomputable abbrev xD:List Str:=[]
theorem zW:ScF xw xD ["top","bottom","power"] (aa lq):=by walk_at "S"
noncomputable def lz:Stmt:=top 18
noncomputable abbrev xy:List Str:=["top","bottom","guess","parts"]
noncomputable abbrev xF:List Str:=["scaled"]
theorem zY:ScF xy xF ["top","bottom"] (aa lz):=by walk_at "S"
noncomputable def eA:Stmt:=top 54
noncomputable abbrev ko:List Str:=["top","bottom","guess"]
noncomputable abbrev kE:List Str:=["height","below_ten_to"]
theorem ph:ScF ko kE ["top","bottom"] (aa eA):=by walk_at "S"
noncomputable def cz:Stmt:=top 58
noncomputable abbrev hZ:List Str:=["sign","figures","place"]
noncomputable abbrev ib:List Str:=[]
theorem kQ:ScF hZ ib ["sign","figures","place"] (aa cz):=by walk_at "S"
noncomputable def lh:Stmt:=top 35
noncomputable abbrev xt:List Str:=["name"]
noncomputable abbrev xA:List Str:=["NAMES","NoWay","Way"]
theorem zT:ScF xt xA ["name"] (aa lh):=by walk_at "S"
noncomputable def b6:Stmt:=top 16
noncomputable abbrev gB:List Str:=["top","bottom"]
noncomputable abbrev gG:List Str:=["NoFraction"]
theorem jP:ScF gB gG ["top","bottom"] (aa b6):=by walk_at "S"
noncomputable def bX:Stmt:=top 19
noncomputable abbrev gx:List Str:=["over","number","middle"]
noncomputable abbrev gD:List Str:=[]
theorem jM:ScF gx gD ["over","number","middle"] (aa bX):=by walk_at "S"
noncomputable def jb:Stmt:=top 20
noncomputable abbrev sX:List Str:=["over","step"]
noncomputable abbrev tu:List Str:=["rest_by_middle"]
theorem xX:ScF sX tu ["over","step"] (aa jb):=by walk_at "S"
noncomputable def Cp:Stmt:=top 21
noncomputable abbrev Kf:List Str:=["size","top","bottom","power","parts"]
noncomputable abbrev Ki:List Str:=["check_fraction","low","max","height","scaled","rest_of"]
theorem Iv:ScF Kf Ki ["size","top","bottom"] (aa Cp):=by walk_at "S"
noncomputable def jd:Stmt:=top 13
noncomputable abbrev sZ:List Str:=["size"]
noncomputable abbrev tx:List Str:=["last_field"]
theorem xZ:ScF sZ tx ["size"] (aa jd):=by walk_at "S"
noncomputable def lj:Stmt:=top 28
noncomputable abbrev xv:List Str:=["size","sign","code"]
noncomputable abbrev xC:List Str:=["sign_bit"]
theorem zV:ScF xv xC ["size","sign","code"] (aa lj):=by walk_at "S"
noncomputable def eC:Stmt:=top 38
noncomputable abbrev kr:List Str:=["size","code","taken","faint"]
noncomputable abbrev kG:List Str:=["endless","INEXACT","GREAT","SMALL"]
theorem pq:ScF kr kG ["size","code","taken"] (aa eC):=by walk_at "S"
noncomputable def aC:Stmt:=(dE (top 34)).getD 3 (.Pass ⟨0,0,0,0⟩)
noncomputable abbrev fw:List Str:=["self","sign"]
noncomputable abbrev fz:List Str:=[]
theorem iR:ScF fw fz ["self","sign"] (aa aC):=by walk_at "S"
noncomputable def cg:Stmt:=(dE (top 34)).getD 1 (.Pass ⟨0,0,0,0⟩)
noncomputable abbrev m9:List Str:=["self","sign","odd","rest"]
noncomputable abbrev nz:List Str:=[]
theorem qM:ScF m9 nz ["self","sign","odd","rest"] (aa cg):=by walk_at "S"
noncomputable def bJ:Stmt:=(dE (top 34)).getD 2 (.Pass ⟨0,0,0,0⟩)
noncomputable abbrev kD:List Str:=["self","sign"]
noncomputable abbrev kM:List Str:=[]
theorem pE:ScF kD kM ["self","sign"] (aa bJ):=by walk_at "S"
noncomputable def i9:Stmt:=top 37
noncomputable abbrev sV:List Str:=["size","way","sign","whole","power","rest","chosen","code","end","taken"]
noncomputable abbrev tm:List Str:=["way_of","low","endless","signed","INEXACT","GREAT","lost_flags"]
theorem xV:ScF sV tm ["size","way","sign","whole","power","rest"] (aa i9):=by walk_at "S"
noncomputable def ja:Stmt:=top 39
noncomputable abbrev sW:List Str:=["size","way","sign","top","bottom","parts"]
noncomputable abbrev tq:List Str:=["way_of","cut","settled"]
theorem xW:ScF sW tq ["size","way","sign","top","bottom"] (aa ja):=by walk_at "S"
noncomputable def eB:Stmt:=top 53
noncomputable abbrev kq:List Str:=["size","bits","figures","place","sign","value"]
noncomputable abbrev kF:List Str:=["worth","tenfold","rounded"]
theorem pj:ScF kq kF ["size","bits","figures","place"] (aa eB):=by walk_at "S"
noncomputable def cV:Stmt:=top 57
noncomputable abbrev iF:List Str:=["size","bits","place","parts","lower","double_over","greater_first","choices","figures"]
noncomputable abbrev iK:List Str:=["reads_back"]
theorem lX:ScF iF iK ["size","bits","place","parts"] (aa cV):=by walk_at "S"
noncomputable def ik:Stmt:=top 56
noncomputable abbrev oN:List Str:=["size","bits","value","place","figures","parts"]
noncomputable abbrev oS:List Str:=["fraction","ten_height","tenfold","nearest_back","bare_spelling"]
theorem tP:ScF oN oS ["size","bits"] (aa ik):=by walk_at "S"
noncomputable def eI:Stmt:=top 61
noncomputable abbrev kC:List Str:=["written","top_place","behind"]
noncomputable abbrev kL:List Str:=["len","str"]
theorem pC:ScF kC kL ["written","top_place"] (aa eI):=by walk_at "S"
noncomputable def cY:Stmt:=top 60
noncomputable abbrev iI:List Str:=["written","place","top_place"]
noncomputable abbrev iN:List Str:=[]
theorem l5:ScF iI iN ["written","place","top_place"] (aa cY):=by walk_at "S"
noncomputable def vh:Stmt:=top 59
noncomputable abbrev Fh:List Str:=["sign","figures","place","ahead","written","top_place"]
noncomputable abbrev Fm:List Str:=["str","len","laid_in_full","laid_short"]
theorem FV:ScF Fh Fm ["sign","figures","place"] (aa vh):=by walk_at "S"
noncomputable def pI:Stmt:=top 62
noncomputable abbrev BZ:List Str:=["size","bits","found","spelling"]
noncomputable abbrev B2:List Str:=["kind","endless","shortest","laid"]
theorem Cn:ScF BZ B2 ["size","bits"] (aa pI):=by walk_at "S"
noncomputable def cX:Stmt:=top 77
noncomputable abbrev iH:List Str:=["_law_text","_law_sign"]
noncomputable abbrev iM:List Str:=["len","int"]
theorem lZ:ScF iH iM ["_law_text"] (aa cX):=by walk_at "S"
noncomputable def bM:Stmt:=top 78
noncomputable abbrev fN:List Str:=["_law_text","_law_body","_law_parts","_law_point","_law_figures","_law_number","_law_place"]
noncomputable abbrev fO:List Str:=["int","_law_count_of","len"]
theorem iZ:ScF fN fO ["_law_text"] (aa bM):=by walk_at "S"
noncomputable def cb:Stmt:=top 72
noncomputable abbrev m7:List Str:=["_law_n","_law_half"]
noncomputable abbrev nj:List Str:=["_law_power"]
theorem qK:ScF m7 nj ["_law_n"] (aa cb):=by walk_at "S"
noncomputable def eD:Stmt:=top 73
noncomputable abbrev kv:List Str:=["_law_ends","_law_even","_law_point"]
noncomputable abbrev kH:List Str:=[]
theorem pv:ScF kv kH ["_law_ends","_law_even","_law_point"] (aa eD):=by walk_at "S"
noncomputable def fT:Stmt:=top 68
noncomputable abbrev mZ:List Str:=["_law_size","_law_code","_law_field"]
noncomputable abbrev ni:List Str:=[]
theorem qJ:ScF mZ ni ["_law_size","_law_code"] (aa fT):=by walk_at "S"
noncomputable def dG:Stmt:=top 74
noncomputable abbrev jv:List Str:=["_law_size","_law_code","_law_figures","_law_place","_law_steps","_law_unit","_law_scale","_law_even","_law_here","_law_before","_law_beyond","_law_ends","_law_point","_law_under","_law_other","_law_lean","_law_nearer"]
noncomputable abbrev jB:List Str:=["_law_power","_law_value","_law_within","abs"]
theorem nG:ScF jv jB ["_law_size","_law_code","_law_figures","_law_place"] (aa dG):=by walk_at "S"
noncomputable def eF:Stmt:=top 75
noncomputable abbrev kA:List Str:=["_law_sign","_law_figures","_law_place","_law_head","_law_digits","_law_at","_law_unit"]
noncomputable abbrev kJ:List Str:=["str","len","_law_power"]
theorem pA:ScF kA kJ ["_law_sign","_law_figures","_law_place"] (aa eF):=by walk_at "S"
noncomputable def bY:Stmt:=top 80
noncomputable abbrev gy:List Str:=["_law_size","_law_sign","_law_code","_law_text","_law_last","_law_spelling"]
noncomputable abbrev gE:List Str:=["isinstance","str","_law_spelling_of","_law_layout","_law_is_best"]
theorem jN:ScF gy gE ["_law_size","_law_sign","_law_code","_law_text"] (aa bY):=by walk_at "S"
noncomputable def cy:Stmt:=top 48
noncomputable abbrev hX:List Str:=["word"]
noncomputable abbrev ia:List Str:=[]
theorem kP:ScF hX ia ["word"] (aa cy):=by walk_at "S"
noncomputable def fU:Stmt:=top 47
noncomputable abbrev m8:List Str:=["line"]
noncomputable abbrev nv:List Str:=["len","LONGEST_LINE","NoText"]
theorem qL:ScF m8 nv ["line"] (aa fU):=by walk_at "S"
noncomputable def dN:Stmt:=top 46
noncomputable abbrev jA:List Str:=["word"]
noncomputable abbrev jG:List Str:=["all"]
theorem nL:ScF jA jG ["word"] (aa dN):=by walk_at "S"
noncomputable def dM:Stmt:=top 49
noncomputable abbrev jz:List Str:=["word","parts"]
noncomputable abbrev jF:List Str:=["sign_and_word","all_figures","len","LONGEST_EXPONENT","NoText","int"]
theorem nK:ScF jz jF ["word"] (aa dM):=by walk_at "S"
noncomputable def i8:Stmt:=top 50
noncomputable abbrev sU:List Str:=["line","start","halves","exponent","body"]
noncomputable abbrev tj:List Str:=["sign_and_word","bare_line","exponent_of","all_figures","NoText","int","len"]
theorem xU:ScF sU tj ["line"] (aa i8):=by walk_at "S"
noncomputable def fR:Stmt:=top 14
noncomputable abbrev mX:List Str:=["size"]
noncomputable abbrev ng:List Str:=["endless"]
theorem qH:ScF mX ng ["size"] (aa fR):=by walk_at "S"
noncomputable def vg:Stmt:=top 51
noncomputable abbrev Fg:List Str:=["size","way","line","start","spelling","value"]
noncomputable abbrev Fl:List Str:=["way_of","sign_and_word","bare_line","signed","endless","no_number","spelled","tenfold","rounded"]
theorem FU:ScF Fg Fl ["size","way","line"] (aa vg):=by walk_at "S"
noncomputable def jc:Stmt:=top 70
noncomputable abbrev sY:List Str:=["_law_way","_law_outward","_law_lean","_law_even"]
noncomputable abbrev tw:List Str:=[]
theorem xY:ScF sY tw ["_law_way","_law_outward","_law_lean","_law_even"] (aa jc):=by walk_at "S"
noncomputable def fS:Stmt:=top 65
noncomputable abbrev mY:List Str:=["_law_found"]
noncomputable abbrev nh:List Str:=["isinstance","int","bool"]
theorem qI:ScF mY nh ["_law_found"] (aa fS):=by walk_at "S"
noncomputable def ip:Stmt:=top 69
noncomputable abbrev oO:List Str:=["_law_way","_law_outward","_law_lean","_law_even"]
noncomputable abbrev oT:List Str:=[]
theorem tQ:ScF oO oT ["_law_way","_law_outward","_law_lean","_law_even"] (aa ip):=by walk_at "S"
noncomputable def iq:Stmt:=top 71
noncomputable abbrev oP:List Str:=["_law_size","_law_way","_law_sign","_law_tall","_law_bottom","_law_found","_law_code","_law_last","_law_here","_law_outward","_law_due","_law_before","_law_beyond"]
noncomputable abbrev oU:List Str:=["isinstance","tuple","len","_law_whole","_law_value","_law_near","_law_far"]
theorem tR:ScF oP oU ["_law_size","_law_way","_law_sign","_law_tall","_law_bottom","_law_found"] (aa iq):=by walk_at "S"
noncomputable def bZ:Stmt:=top 79
noncomputable abbrev gA:List Str:=["_law_size","_law_sign","_law_code","_law_way","_law_text","_law_found","_law_last","_law_due","_law_spelling","_law_steps"]
noncomputable abbrev gF:List Str:=["read","isinstance","tuple","len","_law_whole","_law_spelling_of","_law_fair","_law_power"]
theorem jO:ScF gA gF ["_law_size","_law_sign","_law_code","_law_way","_law_text"] (aa bZ):=by walk_at "S"
noncomputable def eE:Stmt:=top 66
noncomputable abbrev kz:List Str:=["_law_cell"]
noncomputable abbrev kI:List Str:=[]
theorem pz:ScF kz kI ["_law_cell"] (aa eE):=by walk_at "S"
noncomputable def nM:Stmt:=top 82
noncomputable abbrev Ke:List Str:=["_law_script","_law_some","_law_size","_law_cell","_law_made","_law_text"]
noncomputable abbrev Kh:List Str:=["_law_size_for","_law_cell_at","len","_law_bits_by","shown","_law_shown_well","_law_read_alike","_law_way_by"]
theorem Iu:ScF Ke Kh ["_law_script"] (aa nM):=by walk_at "S"
section
variable {X:Cx} {k:Nat} (hr:Room k X.A) (L:Lp X) (O:Own X)
include hr L O
theorem nR (P:Pl X iG iL) (hS:X.env.scope=aa cW)
     : SSs X (ag cW) df:=by
 unfold df
 exact (ae (P.set 2 af)
 (ae (P.if_ (tH (P.v 1) af) (ah (P.set 2 af)) aq)
 (ae (P.if_ (tH (P.v 1) af) (ah (P.set 2 af)) aq)
 (ae (P.if_ (tH (P.v 1) af) (ah (P.set 2 af)) aq)
 (ah (P.ret (cI (a2 (az af (cP (P.v 0) af)) (az af (cP (hW (P.v 0) af) (P.v 2)))) (by decide))))))))
theorem qf (P:Pl X jx jD) (hS:X.env.scope=aa dI)
  (m_len:X.mg "len"=none):SSs X (ag dI) dS:=by
 unfold dS
 exact (ae (P.if_ (zE (P.v 1) (cJ jU jR (P.w 0) m_len PySem.boot_len (a1 (P.v 0)))) (ah (P.ret (E6 (P.v 0) (P.v 1)))) aq)
 (ah (P.ret af)))
theorem qe (P:Pl X jw jC) (hS:X.env.scope=aa dH)
     : SSs X (ag dH) dR:=by
 unfold dR
 exact (ae (P.set 2 (aZ (aQ (aZ af (P.y 0)) af) (P.y 0)))
 (ae (P.set 3 (cP (P.v 1) af))
 (ae (P.set 4 (hW (P.v 1) af))
 (ae (P.if_ (cQ hr (P.v 3) af) (ah (P.ret (cP (P.v 4) (P.v 2)))) aq)
 (ae (P.if_ (cQ hr (P.v 3) af) (ah (P.ret (aQ (aQ (P.v 2) af) (cP (P.v 4) (P.v 2))))) aq)
 (ae (P.if_ (cQ hr (P.v 3) af) (ah (P.ret (az (aQ (aZ af (P.y 0)) af) (cP (P.v 4) af)))) aq)
 (ae (P.if_ (cQ hr (P.v 3) af) (ae (P.set 5 (cP (P.v 4) (aQ (aZ af (P.y 0)) af)))
 (ah (P.ret (az (aZ (P.v 5) (P.y 0)) (bp (cP (hW (P.v 4) af) af) (aQ (aZ af (P.y 0)) af)))))) aq)
 (ah (P.ret (cP (bp (P.v 4) af) (P.v 2)))))))))))
theorem qg (P:Pl X jy jE) (hS:X.env.scope=aa dJ)
  (c_law_code_by:Callee X "_law_code_by" cC):SSs X (ag dJ) dU:=by
 unfold dU
 exact (ae (P.set 2 (aZ (aQ (aZ af (P.y 0)) af) (P.y 0)))
 (ae (P.set 3 (hW (P.v 1) af))
 (ae (P.set 4 (P.call 0 c_law_code_by (a2 (P.v 0) (P.v 3))))
 (ae (P.if_ (cQ hr (cP (P.v 3) af) af) (ah (P.set 4 (P.v 2))) aq)
 (ae (P.if_ (cQ hr (cP (P.v 3) af) af) (ah (P.set 4 (az (az (P.v 2) af) (cP (hW (P.v 3) af) (aQ (aZ af (P.y 0)) af))))) aq)
 (ah (P.ret (cI (a2 (cP (P.v 1) af) (P.v 4)) (by decide)))))))))
theorem yt (P:Pl X oM oR) (hS:X.env.scope=aa ij)
     : SSs X (ag ij) ix:=by
 unfold ix
 exact (ah (P.ret (aZ af (az (P.y 0) (P.y 0)))))
theorem Hm (P:Pl X BY B1) (hS:X.env.scope=aa pG)
     : SSs X (ag pG) pY:=by
 unfold pY
 exact (ah (P.ret (az (az (P.y 0) (P.y 0)) af)))
theorem Dm (P:Pl X xx xE) (hS:X.env.scope=aa lx) {C_NoBits:Addr}
  (c_width:Callee X "width" ma) (q_NoBits:X.mg "NoBits"=some (.ref  C_NoBits)) (xi_NoBits:PySem.W.excIn X.K C_NoBits bmV "ValueError.__new__"=true) (c_sign_bit:Callee X "sign_bit" cq):SSs X (ag lx) lG:=by
 unfold lG
 exact (ae (P.if_ (t_w (w_or (zE (P.v 1) af) (lP (zF (P.v 1) (aZ af (P.call 0 c_width (a1 (P.v 0)))))))) (ah (gO (x:="NoBits") L.calm (P.w 1) q_NoBits xi_NoBits)) aq)
 (ae (P.set 2 (cP (P.v 1) (P.call 2 c_sign_bit (a1 (P.v 0)))))
 (ae (P.set 3 (aZ af (P.y 0)))
 (ah (P.ret (cI (a3 (hW (P.v 1) (P.call 2 c_sign_bit (a1 (P.v 0)))) (hW (P.v 2) (P.v 3)) (cP (P.v 2) (P.v 3))) (by decide)))))))
theorem sL (P:Pl X kB kK) (hS:X.env.scope=aa eG)
     : SSs X (ag eG) fm:=by
 unfold fm
 exact (ah (P.ret (aQ (aZ af (P.y 0)) af)))
theorem J7 (P:Pl X Fi Fn) (hS:X.env.scope=aa vi)
  (c_parted:Callee X "parted" fW) (c_last_field:Callee X "last_field" aW):SSs X (ag vi) wG:=by
 unfold wG
 exact (ae (P.set 2 (P.call 0 c_parted (a2 (P.v 0) (P.v 1))))
 (ae (P.set 3 (P.y 2))
 (ae (P.set 4 (P.y 2))
 (ae (P.if_ (cQ hr (P.v 3) af) (ah (P.ret (wQ (cQ hr (P.v 4) af) ax ax))) aq)
 (ae (P.if_ (cQ hr (P.v 3) (P.call 1 c_last_field (a1 (P.v 0)))) (ah (P.ret (wQ (cQ hr (P.v 4) af) ax ax))) aq)
 (ah (P.ret ax)))))))
theorem kU (P:Pl X gw gC) (hS:X.env.scope=aa bW)
     : SSs X (ag bW) b7:=by
 unfold b7
 exact (ae (P.set 1 (P.y 0))
 (ae (P.set 2 (P.y 0))
 (ae (P.if_ (zF (P.v 2) af) (ah (P.ret (cI (a3 (P.y 0) (aZ (P.v 1) (P.v 2)) af) (by decide)))) aq)
 (ah (P.ret (cI (a3 (P.y 0) (P.v 1) (aZ af (hV (P.v 2)))) (by decide)))))))
theorem J8 (P:Pl X Fj Fo) (hS:X.env.scope=aa vk)
     : SSs X (ag vk) wH:=by
 unfold wH
 exact (ah (P.ret (aQ (aZ af (aQ (P.y 0) af)) af)))
theorem LN (P:Pl X Kd Kg) (hS:X.env.scope=aa Co)
  (c_bias:Callee X "bias" qP):SSs X (ag Co) C4:=by
 unfold C4
 exact (ah (P.ret (aQ (aQ af (P.call 0 c_bias (a1 (P.v 0)))) (P.y 0))))
theorem Hl (P:Pl X BX B0) (hS:X.env.scope=aa pF) {C_NotFinite:Addr}
  (c_parted:Callee X "parted" fW) (c_last_field:Callee X "last_field" aW) (q_NotFinite:X.mg "NotFinite"=some (.ref  C_NotFinite)) (xi_NotFinite:PySem.W.excIn X.K C_NotFinite bmV "ValueError.__new__"=true) (c_low:Callee X "low" md):SSs X (ag pF) pX:=by
 unfold pX
 exact (ae (P.set 2 (P.call 0 c_parted (a2 (P.v 0) (P.v 1))))
 (ae (P.set 3 (P.y 2))
 (ae (P.set 4 (P.y 2))
 (ae (P.set 5 (P.y 2))
 (ae (P.if_ (cQ hr (P.v 4) (P.call 1 c_last_field (a1 (P.v 0)))) (ah (gO (x:="NotFinite") L.calm (P.w 2) q_NotFinite xi_NotFinite)) aq)
 (ae (P.if_ (cQ hr (P.v 4) af) (ah (P.ret (cI (a3 (P.v 3) (P.v 5) (P.call 3 c_low (a1 (P.v 0)))) (by decide)))) aq)
 (ah (P.ret (cI (a3 (P.v 3) (az (aZ af (P.y 0)) (P.v 5)) (aQ (az (P.call 3 c_low (a1 (P.v 0))) (P.v 4)) af)) (by decide))))))))))
theorem yx (P:Pl X oQ oV) (hS:X.env.scope=aa ir)
  (c_worth_fraction:Callee X "worth_fraction" bq) (c_worth:Callee X "worth" iT):SSs X (ag ir) iz:=by
 unfold iz
 exact (ah (P.ret (P.call 0 c_worth_fraction (a1 (P.call 1 c_worth (a2 (P.v 0) (P.v 1)))))))
theorem Dj {P0:List D->R D} (P:Pl X xu xB) (hS:X.env.scope=aa fQ)
  (c_ten_to:Callee X "ten_to" P0):SSs X (ag fQ) (ji P0):=by
 unfold ji
 exact (ae (P.if_ (cQ hr (P.v 0) af) (ah (P.ret af)) aq)
 (ae (P.set 1 (P.call 0 c_ten_to (a1 (hW (P.v 0) af))))
 (ah (P.ret (wQ (cQ hr (Bn (P.v 0) af) af) (bp (bp (P.v 1) (P.v 1)) af) (bp (P.v 1) (P.v 1)))))))
theorem BC (P:Pl X sT tf) (hS:X.env.scope=aa i7)
  (c_ten_to:Callee X "ten_to" (cA 20)):SSs X (ag i7) jh:=by
 unfold jh
 exact (ae (P.if_ (zF (P.v 2) af) (ah (P.ret (cI (a2 (bp (P.v 0) (P.call 0 c_ten_to (a1 (P.v 2)))) (P.v 1)) (by decide)))) aq)
 (ah (P.ret (cI (a2 (P.v 0) (bp (P.v 1) (P.call 0 c_ten_to (a1 (hV (P.v 2)))))) (by decide)))))
theorem nV (P:Pl X iJ iO) (hS:X.env.scope=aa cZ)
  (c_tenfold:Callee X "tenfold" br):SSs X (ag cZ) dk:=by
 unfold dk
 exact (ae (P.set 3 (P.call 0 c_tenfold (a3 (P.v 0) (P.v 1) (hV (P.v 2)))))
 (ah (P.ret (JV (P.y 3) (P.y 3)))))
theorem Dl (P:Pl X xw xD) (hS:X.env.scope=aa lq)
     : SSs X (ag lq) lF:=by
 unfold lF
 exact (ae (P.if_ (zF (P.v 2) af) (ah (P.ret (cI (a2 (P.v 0) (aZ (P.v 1) (P.v 2))) (by decide)))) aq)
 (ah (P.ret (cI (a2 (aZ (P.v 0) (hV (P.v 2))) (P.v 1)) (by decide)))))
theorem Dn (P:Pl X xy xF) (hS:X.env.scope=aa lz)
  (c_scaled:Callee X "scaled" fV):SSs X (ag lz) lH:=by
 unfold lH
 exact (ae (P.set 2 (aQ (wR (P.v 0)) (wR (P.v 1))))
 (ae (P.set 3 (P.call 0 c_scaled (a3 (P.v 0) (P.v 1) (P.v 2))))
 (ah (P.ret (wQ (zE (P.y 3) (P.y 3)) (P.v 2) (az (P.v 2) af))))))
theorem sC (P:Pl X ko kE) (hS:X.env.scope=aa eA)
  (c_height:Callee X "height" fX) (c_below_ten_to:Callee X "below_ten_to" bA):SSs X (ag eA) eY:=by
 unfold eY
 exact (ae (P.set 2 (hW (bp (P.call 0 c_height (a2 (P.v 0) (P.v 1))) af) af))
 (ae (pH P.toSx L.own (gL (cN (P.call 1 c_below_ten_to (a3 (P.v 0) (P.v 1) (P.v 2))))) (ah (P.set 2 (az (P.v 2) af))))
 (ah (P.ret (P.v 2)))))
theorem mQ (P:Pl X hZ ib) (hS:X.env.scope=aa cz)
     : SSs X (ag cz) cH:=by
 unfold cH
 exact (ae (pH P.toSx L.own (cQ hr (cP (P.v 1) af) af) (ae (P.set 1 (hW (P.v 1) af))
 (ah (P.set 2 (az (P.v 2) af)))))
 (ah (P.ret (cI (a3 (P.v 0) (P.v 1) (P.v 2)) (by decide)))))
theorem Di (P:Pl X xt xA) (hS:X.env.scope=aa lh) {C_NoWay:Addr}
  (g_NAMES:GC X "NAMES" (.tup [.str "even",.str "away",.str "nought",.str "up",.str "down"])) (q_NoWay:X.mg "NoWay"=some (.ref  C_NoWay)) (xi_NoWay:PySem.W.excIn X.K C_NoWay bmV "ValueError.__new__"=true) (mk_Way:MakeOk X "Way" "name"):SSs X (ag lh) lD:=by
 unfold lD
 exact (ae (P.if_ (zD (P.v 0) (SG (P.w 0) g_NAMES)) (ah (gO (x:="NoWay") L.calm (P.w 1) q_NoWay xi_NoWay)) aq)
 (ah (P.ret (G9 (cn:="Way") (f:="name") mk_Way (P.w 2) (a1 (P.v 0))))))
theorem kZ (P:Pl X gB gG) (hS:X.env.scope=aa b6) {C_NoFraction:Addr}
  (q_NoFraction:X.mg "NoFraction"=some (.ref  C_NoFraction)) (xi_NoFraction:PySem.W.excIn X.K C_NoFraction bmV "ValueError.__new__"=true):SSs X (ag b6) b9:=by
 unfold b9
 exact (ah (P.if_ (t_w (w_or (zE (P.v 0) af) (lP (zE (P.v 1) af)))) (ah (gO (x:="NoFraction") L.calm (P.w 0) q_NoFraction xi_NoFraction)) aq))
theorem kW (P:Pl X gx gD) (hS:X.env.scope=aa bX)
     : SSs X (ag bX) b8:=by
 unfold b8
 exact (ae (P.if_ (cQ hr (P.v 0) af) (ah (P.ret af)) aq)
 (ae (P.if_ (zE (P.v 1) (P.v 2)) (ah (P.ret af)) aq)
 (ah (P.ret (wQ (cQ hr (P.v 1) (P.v 2)) af af)))))
theorem BG (P:Pl X sX tu) (hS:X.env.scope=aa jb)
  (c_rest_by_middle:Callee X "rest_by_middle" bt):SSs X (ag jb) jk:=by
 unfold jk
 exact (ah (P.ret (P.call 0 c_rest_by_middle (a3 (P.v 0) (bp af (P.v 0)) (P.v 1)))))
theorem LP (P:Pl X Kf Ki) (hS:X.env.scope=aa Cp)
  (c_check_fraction:Callee X "check_fraction" bu) (c_low:Callee X "low" md) (c_height:Callee X "height" fX) (m_max:X.mg "max"=none) (c_scaled:Callee X "scaled" fV) (c_rest_of:Callee X "rest_of" gS):SSs X (ag Cp) Bd:=by
 unfold Bd
 exact (ae (P.xp (P.call 0 c_check_fraction (a2 (P.v 1) (P.v 2))))
 (ae (P.if_ (cQ hr (P.v 1) af) (ah (P.ret (cI (a3 af (P.call 1 c_low (a1 (P.v 0))) af) (by decide)))) aq)
 (ae (P.set 3 (cJ (LI L.calm) Lm (P.w 2) m_max boot_max (a2 (P.call 1 c_low (a1 (P.v 0))) (aQ (aQ (P.call 3 c_height (a2 (P.v 1) (P.v 2))) (P.y 0)) af))))
 (ae (P.set 4 (P.call 4 c_scaled (a3 (P.v 1) (P.v 2) (P.v 3))))
 (ah (P.ret (cI (a3 (hW (P.y 4) (P.y 4)) (P.v 3) (P.call 5 c_rest_of (a2 (cP (P.y 4) (P.y 4)) (P.y 4)))) (by decide))))))))
theorem BI (P:Pl X sZ tx) (hS:X.env.scope=aa jd)
  (c_last_field:Callee X "last_field" aW):SSs X (ag jd) jm:=by
 unfold jm
 exact (ah (P.ret (aZ (P.call 0 c_last_field (a1 (P.v 0))) (P.y 0))))
theorem Dk (P:Pl X xv xC) (hS:X.env.scope=aa lj)
  (c_sign_bit:Callee X "sign_bit" cq):SSs X (ag lj) lE:=by
 unfold lE
 exact (ah (P.ret (az (bp (P.v 1) (P.call 0 c_sign_bit (a1 (P.v 0)))) (P.v 2))))
theorem sG (P:Pl X kr kG) (hS:X.env.scope=aa eC)
  (c_endless:Callee X "endless" ba) (g_INEXACT:∃ t,X.mg "INEXACT"=some (.int 1 t)) (g_GREAT:∃ t,X.mg "GREAT"=some (.int 4 t)) (g_SMALL:∃ t,X.mg "SMALL"=some (.int 2 t)):SSs X (ag eC) e7:=by
 unfold e7
 exact (ae (P.if_ (cQ hr (P.v 2) (P.call 0 c_endless (a1 (P.v 0)))) (ah (P.ret (az (jo (P.w 1) g_INEXACT) (jo (P.w 2) g_GREAT)))) aq)
 (ae (P.set 3 (JV (P.v 1) (aZ af (P.y 0))))
 (ah (P.ret (wQ (cN (P.v 3)) (az (jo (P.w 1) g_INEXACT) (jo (P.w 3) g_SMALL)) (jo (P.w 1) g_INEXACT))))))
theorem js (P:Pl X fw fz) (hS:X.env.scope=aa aC)
  (fl_Way_name:FldOk X "Way" "name"):SSs X (ag aC) aY:=by
 unfold aY
 exact (ae (P.if_ (cQ hr (Bm (cn:="Way") (f:="name") fl_Way_name (P.v 0)) ax) (ah (P.ret (iC hr (P.v 1) af))) aq)
 (ah (P.ret (gH (iC hr (Bm (cn:="Way") (f:="name") fl_Way_name (P.v 0)) ax) (fA (iC hr (P.v 1) af))))))
theorem uA (P:Pl X m9 nz) (hS:X.env.scope=aa cg)
  (fl_Way_name:FldOk X "Way" "name") (mt_Way_flees_nought:MethOk X "Way" "flees_nought" aM):SSs X (ag cg) d7:=by
 unfold d7
 exact (ae (P.if_ (cQ hr (P.v 3) af) (ah (P.ret qk)) aq)
 (ae (P.if_ (cQ hr (Bm (cn:="Way") (f:="name") fl_Way_name (P.v 0)) ax) (ah (P.ret (E5 (iC hr (P.v 3) af) (fA (gH (iC hr (P.v 3) af) (fA (P.v 2))))))) aq)
 (ae (P.if_ (cQ hr (Bm (cn:="Way") (f:="name") fl_Way_name (P.v 0)) ax) (ah (P.ret (LF (P.v 3) af))) aq)
 (ah (P.ret (wO (cn:="Way") (m:="flees_nought") mt_Way_flees_nought (P.v 0) (a1 (P.v 1))))))))
theorem sO (P:Pl X kD kM) (hS:X.env.scope=aa bJ)
  (fl_Way_name:FldOk X "Way" "name") (mt_Way_flees_nought:MethOk X "Way" "flees_nought" aM):SSs X (ag bJ) dD:=by
 unfold dD
 exact (ae (P.if_ (Qk (Bm (cn:="Way") (f:="name") fl_Way_name (P.v 0)) (cI (a2 ax ax) (by decide))) (ah (P.ret qk)) aq)
 (ah (P.ret (wO (cn:="Way") (m:="flees_nought") mt_Way_flees_nought (P.v 0) (a1 (P.v 1))))))
theorem BE (P:Pl X sV tm) (hS:X.env.scope=aa i9)
  (c_way_of:Callee X "way_of" dO) (c_low:Callee X "low" md) (c_endless:Callee X "endless" ba) (mt_Way_bursts:MethOk X "Way" "bursts" eO) (c_signed:Callee X "signed" dP) (g_INEXACT:∃ t,X.mg "INEXACT"=some (.int 1 t)) (g_GREAT:∃ t,X.mg "GREAT"=some (.int 4 t)) (mt_Way_grows:MethOk X "Way" "grows" fY) (c_lost_flags:Callee X "lost_flags" dz):SSs X (ag i9) jj:=by
 unfold jj
 exact (ae (P.set 6 (P.call 0 c_way_of (a1 (P.v 1))))
 (ae (P.set 7 (az (aZ (aQ (P.v 4) (P.call 1 c_low (a1 (P.v 0)))) (P.y 0)) (P.v 3)))
 (ae (P.set 8 (P.call 2 c_endless (a1 (P.v 0))))
 (ae (P.if_ (zF (P.v 7) (P.v 8)) (ae (P.set 9 (wQ (cN (wO (cn:="Way") (m:="bursts") mt_Way_bursts (P.v 6) (a1 (P.v 2)))) (P.v 8) (aQ (P.v 8) af)))
 (ah (P.ret (cI (a2 (P.call 3 c_signed (a3 (P.v 0) (P.v 2) (P.v 9))) (az (jo (P.w 4) g_INEXACT) (jo (P.w 5) g_GREAT))) (by decide))))) aq)
 (ae (P.if_ (cQ hr (P.v 5) af) (ah (P.ret (cI (a2 (P.call 3 c_signed (a3 (P.v 0) (P.v 2) (P.v 7))) af) (by decide)))) aq)
 (ae (P.set 9 (wQ (cN (wO (cn:="Way") (m:="grows") mt_Way_grows (P.v 6) (a3 (P.v 2) (iC hr (Bn (P.v 7) af) af) (P.v 5)))) (az (P.v 7) af) (P.v 7)))
 (ah (P.ret (cI (a2 (P.call 3 c_signed (a3 (P.v 0) (P.v 2) (P.v 9))) (P.call 6 c_lost_flags (a3 (P.v 0) (P.v 7) (P.v 9)))) (by decide))))))))))
theorem BF (P:Pl X sW tq) (hS:X.env.scope=aa ja)
  (c_way_of:Callee X "way_of" dO) (c_cut:Callee X "cut" t7) (c_settled:Callee X "settled" gR):SSs X (ag ja) hR:=by
 unfold hR
 exact (ae (P.xp (P.call 0 c_way_of (a1 (P.v 1))))
 (ae (P.set 5 (P.call 1 c_cut (a3 (P.v 0) (P.v 3) (P.v 4))))
 (ah (P.ret (P.call 2 c_settled (aj (P.v 0) (aj (P.v 1) (aj (P.v 2) (aj (P.y 5) (aj (P.y 5) (aj (P.y 5) gI)))))))))))
theorem sD (P:Pl X kq kF) (hS:X.env.scope=aa eB)
  (c_worth:Callee X "worth" iT) (c_tenfold:Callee X "tenfold" br) (c_rounded:Callee X "rounded" aK):SSs X (ag eB) eZ:=by
 unfold eZ
 exact (ae (P.set 4 (E6 (P.call 0 c_worth (a2 (P.v 0) (P.v 1))) af))
 (ae (P.set 5 (P.call 1 c_tenfold (a3 (P.v 2) af (P.v 3))))
 (ah (P.ret (iC hr (E6 (P.call 2 c_rounded (aj (P.v 0) (aj ax (aj (P.v 4) (aj (P.y 5) (aj (P.y 5) gI)))))) af) (P.v 1))))))
theorem nQ (P:Pl X iF iK) (hS:X.env.scope=aa cV)
  (c_reads_back:Callee X "reads_back" bc):SSs X (ag cV) de:=by
 unfold de
 exact (ae (P.set 4 (hW (P.y 3) (P.y 3)))
 (ae (P.set 5 (bp af (cP (P.y 3) (P.y 3))))
 (ae (P.set 6 (E5 (PZ (P.v 5) (P.y 3)) (fA (gH (iC hr (P.v 5) (P.y 3)) (fA (iC hr (Bn (P.v 4) af) af))))))
 (ae (P.set 7 (wQ (cN (P.v 6)) (p5 (a2 (az (P.v 4) af) (P.v 4)) (by decide)) (p5 (a2 (P.v 4) (az (P.v 4) af)) (by decide))))
 (ae (vj P.toSx L 8 rfl (P.sto _ (mG 8)) (GR (P.v 7)) (ah (P.if_ (cN (P.call 0 c_reads_back (aj (P.v 0) (aj (P.v 1) (aj (P.v 8) (aj (P.v 2) gI)))))) (ah (P.ret (P.v 8))) aq)))
 (ah (P.ret G8)))))))
theorem yu (P:Pl X oN oS) (hS:X.env.scope=aa ik)
  (c_fraction:Callee X "fraction" cS) (c_ten_height:Callee X "ten_height" du) (c_tenfold:Callee X "tenfold" br) (c_nearest_back:Callee X "nearest_back" bx) (c_bare_spelling:Callee X "bare_spelling" bL):SSs X (ag ik) fK:=by
 unfold fK
 exact (ae (P.set 2 (P.call 0 c_fraction (a2 (P.v 0) (P.v 1))))
 (ae (P.if_ (cQ hr (P.y 2) af) (ah (P.ret (cI (a3 (P.y 2) af af) (by decide)))) aq)
 (ae (P.set 3 (P.call 1 c_ten_height (a2 (P.y 2) (P.y 2))))
 (ae (P.set 4 G8)
 (ae (pH P.toSx L.own (KG (P.v 4)) (ae (P.set 3 (aQ (P.v 3) af))
 (ae (P.set 5 (P.call 2 c_tenfold (a3 (P.y 2) (P.y 2) (hV (P.v 3)))))
 (ah (P.set 4 (P.call 3 c_nearest_back (aj (P.v 0) (aj (P.v 1) (aj (P.v 3) (aj (P.v 5) gI))))))))))
 (ah (P.ret (P.call 4 c_bare_spelling (a3 (P.y 2) (P.v 4) (P.v 3))))))))))
theorem sN (P:Pl X kC kL) (hS:X.env.scope=aa eI)
  (m_len:X.mg "len"=none) (m_str:X.mg "str"=none):SSs X (ag eI) fq:=by
 unfold fq
 exact (ae (P.set 2 (wQ (tH (cJ jU jR (P.w 0) m_len PySem.boot_len (a1 (P.v 0))) af) (az ax (kj (P.v 0) (da af) eJ)) ax))
 (ah (P.ret (az (az (az (P.y 0) (P.v 2)) ax) (fu rZ rj (P.w 1) m_str boot_str (a1 (P.v 1)))))))
theorem nU (P:Pl X iI iN) (hS:X.env.scope=aa cY)
     : SSs X (ag cY) dj:=by
 unfold dj
 exact (ae (P.if_ (zF (P.v 1) af) (ah (P.ret (az (P.v 0) (E3 ax (P.v 1))))) aq)
 (ae (P.if_ (zF (P.v 2) af) (ah (P.ret (az (az (kj (P.v 0) eJ (da (az (P.v 2) af))) ax) (kj (P.v 0) (da (az (P.v 2) af)) eJ)))) aq)
 (ah (P.ret (az (az ax (E3 ax (aQ (hV (P.v 2)) af))) (P.v 0))))))
theorem J6 (P:Pl X Fh Fm) (hS:X.env.scope=aa vh)
  (m_str:X.mg "str"=none) (m_len:X.mg "len"=none) (c_laid_in_full:Callee X "laid_in_full" bV) (c_laid_short:Callee X "laid_short" dB):SSs X (ag vh) rP:=by
 unfold rP
 exact (ae (P.set 3 (wQ (cQ hr (P.v 0) af) ax ax))
 (ae (P.if_ (cQ hr (P.v 1) af) (ah (P.ret (az (P.v 3) ax))) aq)
 (ae (P.set 4 (fu rZ rj (P.w 0) m_str boot_str (a1 (P.v 1))))
 (ae (P.set 5 (aQ (az (P.v 2) (cJ jU jR (P.w 1) m_len PySem.boot_len (a1 (P.v 4)))) af))
 (ae (P.if_ (oZ CJ CJ je je (hV af) (P.v 5) af) (ah (P.ret (az (P.v 3) (P.call 2 c_laid_in_full (a3 (P.v 4) (P.v 2) (P.v 5)))))) aq)
 (ah (P.ret (az (P.v 3) (P.call 3 c_laid_short (a2 (P.v 4) (P.v 5)))))))))))
theorem Hn (P:Pl X BZ B2) (hS:X.env.scope=aa pI)
  (c_kind:Callee X "kind" ou) (c_endless:Callee X "endless" ba) (c_shortest:Callee X "shortest" cR) (c_laid:Callee X "laid" ka):SSs X (ag pI) gZ:=by
 unfold gZ
 exact (ae (P.set 2 (P.call 0 c_kind (a2 (P.v 0) (P.v 1))))
 (ae (P.if_ (cQ hr (P.v 2) ax) (ah (P.ret ax)) aq)
 (ae (P.if_ (cQ hr (P.v 2) ax) (ah (P.ret (wQ (tH (P.v 1) (P.call 1 c_endless (a1 (P.v 0)))) ax ax))) aq)
 (ae (P.set 3 (P.call 2 c_shortest (a2 (P.v 0) (P.v 1))))
 (ah (P.ret (P.call 3 c_laid (a3 (P.y 3) (P.y 3) (P.y 3)))))))))
theorem nS (P:Pl X iH iM) (hS:X.env.scope=aa cX)
  (m_len:X.mg "len"=none) (m_int:X.mg "int"=none):SSs X (ag cX) dh:=by
 unfold dh
 exact (ae (P.if_ (t_w (w_or (cQ hr (P.v 0) ax) (lP (tH (cJ jU jR (P.w 0) m_len PySem.boot_len (a1 (P.v 0))) af)))) (ah (P.ret (hV af))) aq)
 (ae (vj P.toSx L 1 rfl (P.sto _ (mG 1)) (JK (P.v 0)) (ah (P.if_ (zD (P.v 1) ax) (ah (P.ret (hV af))) aq)))
 (ah (P.ret (fu wX v5 (P.w 1) m_int PyProof.Rows.boot_int (a1 (P.v 0)))))))
theorem jV (P:Pl X fN fO) (hS:X.env.scope=aa bM)
  (m_int:X.mg "int"=none) (c_law_count_of:Callee X "_law_count_of" bz) (m_len:X.mg "len"=none):SSs X (ag bM) bP:=by
 unfold bP
 exact (ae (P.set 1 (kj (P.v 0) (da (fu J2 Jq (P.w 0) m_int PyProof.Rows.boot_int (a1 (Bk dC PySem.F.slot_str_startswith PySem.F.type_str_startswith cF (P.v 0) ax)))) eJ))
 (ae (P.set 2 (Bk fZ PySem.F.slot_str_partition PySem.F.type_str_partition eX (P.v 1) ax))
 (ae (P.set 3 (Bk fZ PySem.F.slot_str_partition PySem.F.type_str_partition eX (P.y 2) ax))
 (ae (P.set 4 (P.call 1 c_law_count_of (a1 (az (P.y 3) (P.y 3)))))
 (ae (P.set 5 af)
 (ae (P.if_ (cQ hr (P.y 2) ax) (ah (P.set 5 (P.call 1 c_law_count_of (a1 (kj (P.y 2) (da (fu J2 Jq (P.w 0) m_int PyProof.Rows.boot_int (a1 (Bk dC PySem.F.slot_str_startswith PySem.F.type_str_startswith cF (P.y 2) ax)))) eJ))))) aq)
 (ae (P.if_ (t_w (w_or (zE (P.v 4) af) (w_or (zE (P.v 5) af) (lP (tH (P.v 5) af))))) (ah (P.ret (cI (a2 af af) (by decide)))) aq)
 (ae (P.if_ (cN (Bk dC PySem.F.slot_str_startswith PySem.F.type_str_startswith cF (P.y 2) ax)) (ah (P.set 5 (hV (P.v 5)))) aq)
 (ae (P.set 6 (aQ (P.v 5) (cJ jU jR (P.w 2) m_len PySem.boot_len (a1 (P.y 3)))))
 (ae (pH P.toSx L.own (t_w (w_and (tH (P.v 4) af) (j5 (cQ hr (cP (P.v 4) af) af)))) (ae (P.set 4 (hW (P.v 4) af))
 (ah (P.set 6 (az (P.v 6) af)))))
 (ah (P.ret (cI (a2 (P.v 4) (P.v 6)) (by decide))))))))))))))
theorem uy {P0:List D->R D} (P:Pl X m7 nj) (hS:X.env.scope=aa cb)
  (c_law_power:Callee X "_law_power" P0):SSs X (ag cb) (d5 P0):=by
 unfold d5
 exact (ae (P.if_ (cQ hr (P.v 0) af) (ah (P.ret af)) aq)
 (ae (P.set 1 (P.call 0 c_law_power (a1 (hW (P.v 0) af))))
 (ae (P.if_ (cQ hr (cP (P.v 0) af) af) (ah (P.ret (bp (bp (P.v 1) (P.v 1)) af))) aq)
 (ah (P.ret (bp (P.v 1) (P.v 1)))))))
theorem sH (P:Pl X kv kH) (hS:X.env.scope=aa eD)
     : SSs X (ag eD) fh:=by
 unfold fh
 exact (ae (P.if_ (t_w (w_or (cQ hr (P.v 2) (P.y 0)) (lP (cQ hr (P.v 2) (P.y 0))))) (ah (P.ret (P.v 1))) aq)
 (ah (P.ret (Ha Km Km vC vC (P.y 0) (P.v 2) (P.y 0)))))
theorem ux (P:Pl X mZ ni) (hS:X.env.scope=aa fT)
     : SSs X (ag fT) gj:=by
 unfold gj
 exact (ae (P.set 2 (LD (P.v 1) (P.y 0)))
 (ae (P.if_ (cQ hr (P.v 2) af) (ah (P.ret (P.v 1))) aq)
 (ah (P.ret (aZ (az (aZ af (P.y 0)) (cP (P.v 1) (aZ af (P.y 0)))) (aQ (P.v 2) af))))))
theorem qd (P:Pl X jv jB) (hS:X.env.scope=aa dG)
  (c_law_power:Callee X "_law_power" (ar 20)) (c_law_value:Callee X "_law_value" aI) (c_law_within:Callee X "_law_within" au) (m_abs:X.mg "abs"=none):SSs X (ag dG) dQ:=by
 unfold dQ
 exact (ae (P.set 4 (az (aQ (aZ af (aQ (P.y 0) af)) af) (P.y 0)))
 (ae (P.set 5 (aZ af (az (P.v 4) af)))
 (ae (P.set 6 af)
 (ae (P.if_ (zE (P.v 3) af) (ah (P.set 6 (P.call 0 c_law_power (a1 (hV (P.v 3)))))) (ah (P.set 5 (bp (P.v 5) (P.call 0 c_law_power (a1 (P.v 3)))))))
 (ae (P.set 7 (iC hr (cP (P.v 1) af) af))
 (ae (P.set 8 (bp (bp af (P.call 1 c_law_value (a2 (P.v 0) (P.v 1)))) (P.v 6)))
 (ae (P.set 9 (bp (az (P.call 1 c_law_value (a2 (P.v 0) (aQ (P.v 1) af))) (P.call 1 c_law_value (a2 (P.v 0) (P.v 1)))) (P.v 6)))
 (ae (P.set 10 (bp (az (P.call 1 c_law_value (a2 (P.v 0) (P.v 1))) (P.call 1 c_law_value (a2 (P.v 0) (az (P.v 1) af)))) (P.v 6)))
 (ae (P.set 11 (p5 (a2 (P.v 9) (P.v 10)) (by decide)))
 (ae (P.set 12 (bp (P.v 2) (P.v 5)))
 (ae (P.if_ (gL (cN (P.call 2 c_law_within (a3 (P.v 11) (P.v 7) (P.v 12))))) (ah (P.ret qk)) aq)
 (ae (P.set 13 (bp (bp (hW (P.v 8) (bp af (P.v 5))) af) (P.v 5)))
 (ae (P.if_ (t_w (w_and (tH (P.v 2) af) (j5 (cN (P.call 2 c_law_within (a3 (P.v 11) (P.v 7) (P.v 13))))))) (ah (P.ret qk)) aq)
 (ae (P.if_ (t_w (w_and (tH (P.v 2) af) (j5 (cN (P.call 2 c_law_within (a3 (P.v 11) (P.v 7) (az (P.v 13) (bp af (P.v 5))))))))) (ah (P.ret qk)) aq)
 (ae (P.set 13 (bp (hW (P.v 8) (P.v 5)) (P.v 5)))
 (ae (vj P.toSx L 14 rfl (P.sto _ (mG 14)) (GR (p5 (a2 (P.v 13) (az (P.v 13) (P.v 5))) (by decide))) (ae (P.set 15 (aQ (cJ Dh CK (P.w 3) m_abs boot_abs (a1 (aQ (P.v 14) (P.v 8)))) (cJ Dh CK (P.w 3) m_abs boot_abs (a1 (aQ (P.v 12) (P.v 8))))))
 (ae (P.set 16 (E5 (JV (P.v 15) af) (fA (gH (iC hr (P.v 15) af) (gH (Ko hr (P.v 14) (P.v 12)) (fA (iC hr (cP (P.v 2) af) af)))))))
 (ah (P.if_ (t_w (w_and (cN (P.v 16)) (j5 (cN (P.call 2 c_law_within (a3 (P.v 11) (P.v 7) (P.v 14))))))) (ah (P.ret qk)) aq)))))
 (ae (P.if_ (t_w (w_or (Ig hr (P.v 2) af) (lP (gL (cN (P.call 2 c_law_within (a3 (p5 (a2 (bp af (P.y 11)) (bp af (P.y 11))) (by decide)) (P.v 7) (bp af (P.v 5))))))))) (ah (P.ret qk)) aq)
 (ah (P.ret (LF (cJ Dh CK (P.w 3) m_abs boot_abs (a1 (aQ (bp af (P.v 5)) (bp af (P.v 8))))) (bp af (cJ Dh CK (P.w 3) m_abs boot_abs (a1 (aQ (P.v 12) (P.v 8)))))))))))))))))))))))))
theorem sJ (P:Pl X kA kJ) (hS:X.env.scope=aa eF)
  (m_str:X.mg "str"=none) (m_len:X.mg "len"=none) (c_law_power:Callee X "_law_power" (ar 20)):SSs X (ag eF) fj:=by
 unfold fj
 exact (ae (P.set 3 (E6 (p5 (a2 ax ax) (by decide)) (P.v 0)))
 (ae (P.if_ (cQ hr (P.v 1) af) (ah (P.ret (az (P.v 3) ax))) aq)
 (ae (P.set 4 (fu rZ rj (P.w 0) m_str boot_str (a1 (P.v 1))))
 (ae (P.set 5 (aQ (az (P.v 2) (cJ jU jR (P.w 1) m_len PySem.boot_len (a1 (P.v 4)))) af))
 (ae (P.if_ (t_w (w_and (oZ CJ CJ je je (hV af) (P.v 5) af) (j5 (zF (P.v 2) af)))) (ah (P.ret (az (P.v 3) (fu rZ rj (P.w 0) m_str boot_str (a1 (bp (P.v 1) (P.call 2 c_law_power (a1 (P.v 2))))))))) aq)
 (ae (P.if_ (oZ CJ CJ je je (hV af) (P.v 5) af) (ae (P.set 6 (P.call 2 c_law_power (a1 (hV (P.v 2)))))
 (ah (P.ret (az (az (az (P.v 3) (fu rZ rj (P.w 0) m_str boot_str (a1 (hW (P.v 1) (P.v 6))))) ax) (Bk Gx PySem.F.slot_str_zfill PySem.F.type_str_zfill CO (fu rZ rj (P.w 0) m_str boot_str (a1 (cP (P.v 1) (P.v 6)))) (hV (P.v 2))))))) aq)
 (ae (P.if_ (cQ hr (cJ jU jR (P.w 1) m_len PySem.boot_len (a1 (P.v 4))) af) (ah (P.ret (az (az (az (P.v 3) (P.v 4)) ax) (fu rZ rj (P.w 0) m_str boot_str (a1 (P.v 5)))))) aq)
 (ah (P.ret (az (az (az (az (az (P.v 3) (P.y 4)) ax) (kj (P.v 4) (da af) eJ)) ax) (fu rZ rj (P.w 0) m_str boot_str (a1 (P.v 5)))))))))))))
theorem kX (P:Pl X gy gE) (hS:X.env.scope=aa bY)
  (m_str:X.mg "str"=none) (isi_str:Isi X (.ty "str")) (hE:nA X) (m_isinstance:X.mg "isinstance"=none) (c_law_spelling_of:Callee X "_law_spelling_of" aA) (c_law_layout:Callee X "_law_layout" bK) (c_law_is_best:Callee X "_law_is_best" bN):SSs X (ag bY) aO:=by
 unfold aO
 exact (ae (P.if_ (gL (cN (Bl isi_str hE (P.w 0) m_isinstance (P.v 3) (JU (n:="str") (P.w 1) m_str boot_str)))) (ah (P.ret qk)) aq)
 (ae (P.set 4 (aZ (aQ (aZ af (P.y 0)) af) (P.y 0)))
 (ae (P.if_ (tH (P.v 2) (P.v 4)) (ah (P.ret (iC hr (P.v 3) ax))) aq)
 (ae (P.if_ (cQ hr (P.v 2) (P.v 4)) (ah (P.ret (iC hr (P.v 3) (E6 (p5 (a2 ax ax) (by decide)) (P.v 1))))) aq)
 (ae (P.if_ (cQ hr (P.v 2) af) (ah (P.ret (iC hr (P.v 3) (E6 (p5 (a2 ax ax) (by decide)) (P.v 1))))) aq)
 (ae (P.set 5 (P.call 2 c_law_spelling_of (a1 (P.v 3))))
 (ae (P.if_ (t_w (w_or (cQ hr (P.y 5) af) (lP (Ig hr (P.v 3) (P.call 3 c_law_layout (a3 (P.v 1) (P.y 5) (P.y 5))))))) (ah (P.ret qk)) aq)
 (ah (P.ret (P.call 4 c_law_is_best (aj (P.v 0) (aj (P.v 2) (aj (P.y 5) (aj (P.y 5) gI))))))))))))))
theorem mP (P:Pl X hX ia) (hS:X.env.scope=aa cy)
     : SSs X (ag cy) cG:=by
 unfold cG
 exact (ae (P.if_ (cN (Bk dC PySem.F.slot_str_startswith PySem.F.type_str_startswith cF (P.v 0) ax)) (ah (P.ret (cI (a2 af (kj (P.v 0) (da af) eJ)) (by decide)))) aq)
 (ae (P.if_ (cN (Bk dC PySem.F.slot_str_startswith PySem.F.type_str_startswith cF (P.v 0) ax)) (ah (P.ret (cI (a2 af (kj (P.v 0) (da af) eJ)) (by decide)))) aq)
 (ah (P.ret (cI (a2 af (P.v 0)) (by decide))))))
theorem uz (P:Pl X m8 nv) (hS:X.env.scope=aa fU) {C_NoText:Addr}
  (m_len:X.mg "len"=none) (g_LONGEST_LINE:∃ t,X.mg "LONGEST_LINE"=some (.int 400 t)) (q_NoText:X.mg "NoText"=some (.ref  C_NoText)) (xi_NoText:PySem.W.excIn X.K C_NoText bmV "ValueError.__new__"=true):SSs X (ag fU) d6:=by
 unfold d6
 exact (ae (P.if_ (tH (cJ jU jR (P.w 0) m_len PySem.boot_len (a1 (P.v 0))) (jo (P.w 1) g_LONGEST_LINE)) (ah (gO (x:="NoText") L.calm (P.w 2) q_NoText xi_NoText)) aq)
 (ah (P.ret (Bk Gy PySem.F.slot_str_strip PySem.F.type_str_strip CP (P.v 0) ax))))
theorem qi (P:Pl X jA jG) (hS:X.env.scope=aa dN)
  (g_FIGURES:∃ t,X.mg "FIGURES"=some (.str "0123456789" t)) (m_all:X.mg "all"=none):SSs X (ag dN) dX:=by
 unfold dX
 exact (ah (P.ret (gH (Ko hr (P.v 0) ax) (fA (cJ (LK L.calm) Lq (P.w 0) m_all boot_all (a1 (JX L.calm P.sc (x:="sign") (ksn:=[]) (G:=["FIGURES"]) (ks:=[]) (by walk_at "C") rfl (by decide) (by rw [hS];decide +kernel) (JK (P.v 0)) (fun C fp s H S' G'=>(SF (G6 S' 0 rfl) (JW (G' _ (mG 0)) g_FIGURES))))))))))
theorem qh (P:Pl X jz jF) (hS:X.env.scope=aa dM) {C_NoText:Addr}
  (c_sign_and_word:Callee X "sign_and_word" aD) (c_all_figures:Callee X "all_figures" aE) (m_len:X.mg "len"=none) (g_LONGEST_EXPONENT:∃ t,X.mg "LONGEST_EXPONENT"=some (.int 4 t)) (q_NoText:X.mg "NoText"=some (.ref  C_NoText)) (xi_NoText:PySem.W.excIn X.K C_NoText bmV "ValueError.__new__"=true) (m_int:X.mg "int"=none):SSs X (ag dM) dW:=by
 unfold dW
 exact (ae (P.set 1 (P.call 0 c_sign_and_word (a1 (P.v 0))))
 (ae (P.if_ (t_w (w_or (gL (cN (P.call 1 c_all_figures (a1 (P.y 1))))) (lP (tH (cJ jU jR (P.w 2) m_len PySem.boot_len (a1 (P.y 1))) (jo (P.w 3) g_LONGEST_EXPONENT))))) (ah (gO (x:="NoText") L.calm (P.w 4) q_NoText xi_NoText)) aq)
 (ah (P.ret (wQ (cQ hr (P.y 1) af) (hV (fu wX v5 (P.w 5) m_int PyProof.Rows.boot_int (a1 (P.y 1)))) (fu wX v5 (P.w 5) m_int PyProof.Rows.boot_int (a1 (P.y 1))))))))
theorem BD (P:Pl X sU tj) (hS:X.env.scope=aa i8) {C_NoText:Addr}
  (c_sign_and_word:Callee X "sign_and_word" aD) (c_bare_line:Callee X "bare_line" bh) (c_exponent_of:Callee X "exponent_of" cE) (c_all_figures:Callee X "all_figures" aE) (q_NoText:X.mg "NoText"=some (.ref  C_NoText)) (xi_NoText:PySem.W.excIn X.K C_NoText bmV "ValueError.__new__"=true) (m_int:X.mg "int"=none) (m_len:X.mg "len"=none):SSs X (ag i8) gY:=by
 unfold gY
 exact (ae (P.set 1 (P.call 0 c_sign_and_word (a1 (P.call 1 c_bare_line (a1 (P.v 0))))))
 (ae (P.set 2 (Bk fZ PySem.F.slot_str_partition PySem.F.type_str_partition eX (P.y 1) ax))
 (ae (P.set 3 (wQ (cQ hr (P.y 2) ax) (P.call 2 c_exponent_of (a1 (P.y 2))) af))
 (ae (P.set 4 (Bk fZ PySem.F.slot_str_partition PySem.F.type_str_partition eX (P.y 2) ax))
 (ae (P.if_ (gL (cN (P.call 3 c_all_figures (a1 (P.y 4))))) (ah (gO (x:="NoText") L.calm (P.w 4) q_NoText xi_NoText)) aq)
 (ae (P.if_ (t_w (w_and (cQ hr (P.y 4) ax) (j5 (gL (cN (P.call 3 c_all_figures (a1 (P.y 4)))))))) (ah (gO (x:="NoText") L.calm (P.w 4) q_NoText xi_NoText)) aq)
 (ah (P.ret (cI (a3 (P.y 1) (fu wX v5 (P.w 5) m_int PyProof.Rows.boot_int (a1 (az (P.y 4) (P.y 4)))) (aQ (P.v 3) (cJ jU jR (P.w 6) m_len PySem.boot_len (a1 (P.y 4))))) (by decide))))))))))
theorem uv (P:Pl X mX ng) (hS:X.env.scope=aa fR)
  (c_endless:Callee X "endless" ba):SSs X (ag fR) gh:=by
 unfold gh
 exact (ah (P.ret (az (P.call 0 c_endless (a1 (P.v 0))) (aZ af (aQ (P.y 0) af)))))
theorem J5 (P:Pl X Fg Fl) (hS:X.env.scope=aa vg)
  (c_way_of:Callee X "way_of" dO) (c_sign_and_word:Callee X "sign_and_word" aD) (c_bare_line:Callee X "bare_line" bh) (c_signed:Callee X "signed" dP) (c_endless:Callee X "endless" ba) (c_no_number:Callee X "no_number" d4) (c_spelled:Callee X "spelled" fF) (c_tenfold:Callee X "tenfold" br) (c_rounded:Callee X "rounded" aK):SSs X (ag vg) oG:=by
 unfold oG
 exact (ae (P.xp (P.call 0 c_way_of (a1 (P.v 1))))
 (ae (P.set 3 (P.call 1 c_sign_and_word (a1 (P.call 2 c_bare_line (a1 (P.v 2))))))
 (ae (P.if_ (cQ hr (P.y 3) ax) (ah (P.ret (cI (a2 (P.call 3 c_signed (a3 (P.v 0) (P.y 3) (P.call 4 c_endless (a1 (P.v 0))))) af) (by decide)))) aq)
 (ae (P.if_ (cQ hr (P.y 3) ax) (ah (P.ret (cI (a2 (P.call 5 c_no_number (a1 (P.v 0))) af) (by decide)))) aq)
 (ae (P.set 4 (P.call 6 c_spelled (a1 (P.v 2))))
 (ae (P.set 5 (P.call 7 c_tenfold (a3 (P.y 4) af (P.y 4))))
 (ah (P.ret (P.call 8 c_rounded (aj (P.v 0) (aj (P.v 1) (aj (P.y 4) (aj (P.y 5) (aj (P.y 5) gI))))))))))))))
theorem BH (P:Pl X sY tw) (hS:X.env.scope=aa jc)
     : SSs X (ag jc) jl:=by
 unfold jl
 exact (ae (P.if_ (cQ hr (P.v 0) ax) (ah (P.ret (E5 (PZ (P.v 2) af) (fA (gH (iC hr (P.v 2) af) (fA (P.v 3))))))) aq)
 (ae (P.if_ (cQ hr (P.v 0) ax) (ah (P.ret (LF (P.v 2) af))) aq)
 (ah (P.ret (P.v 1)))))
theorem uw (P:Pl X mY nh) (hS:X.env.scope=aa fS)
  (m_int:X.mg "int"=none) (isi_int:Isi X (.ty "int")) (hE:nA X) (m_isinstance:X.mg "isinstance"=none) (m_bool:X.mg "bool"=none) (isi_bool:Isi X (.ty "bool")):SSs X (ag fS) gi:=by
 unfold gi
 exact (ah (P.ret (gH (Bl isi_int hE (P.w 0) m_isinstance (P.v 0) (JU (n:="int") (P.w 1) m_int boot_int)) (fA (G7 (Bl isi_bool hE (P.w 0) m_isinstance (P.v 0) (JU (n:="bool") (P.w 2) m_bool boot_bool)))))))
theorem yv (P:Pl X oO oT) (hS:X.env.scope=aa ip)
     : SSs X (ag ip) iy:=by
 unfold iy
 exact (ae (P.if_ (cQ hr (P.v 0) ax) (ah (P.ret (E5 (JV (P.v 2) af) (fA (gH (iC hr (P.v 2) af) (fA (P.v 3))))))) aq)
 (ae (P.if_ (cQ hr (P.v 0) ax) (ah (P.ret (JV (P.v 2) af))) aq)
 (ah (P.ret (G7 (P.v 1))))))
theorem yw (P:Pl X oP oU) (hS:X.env.scope=aa iq)
  (m_tuple:X.mg "tuple"=none) (isi_tuple:Isi X (.ty "tuple")) (hE:nA X) (m_isinstance:X.mg "isinstance"=none) (m_len:X.mg "len"=none) (c_law_whole:Callee X "_law_whole" bg) (c_law_value:Callee X "_law_value" aI) (c_law_near:Callee X "_law_near" fG) (c_law_far:Callee X "_law_far" gU):SSs X (ag iq) cu:=by
 unfold cu
 exact (ae (P.if_ (t_w (w_or (gL (cN (Bl isi_tuple hE (P.w 0) m_isinstance (P.v 5) (JU (n:="tuple") (P.w 1) m_tuple boot_tuple)))) (w_or (Ig hr (cJ jU jR (P.w 2) m_len PySem.boot_len (a1 (P.v 5))) af) (w_or (gL (cN (P.call 3 c_law_whole (a1 (P.y 5))))) (lP (gL (cN (P.call 3 c_law_whole (a1 (P.y 5)))))))))) (ah (P.ret qk)) aq)
 (ae (P.set 6 (aQ (P.y 5) (aZ (P.v 2) (az (P.y 0) (P.y 0)))))
 (ae (P.set 7 (aZ (aQ (aZ af (P.y 0)) af) (P.y 0)))
 (ae (P.if_ (gL (oZ CJ CJ je je af (P.v 6) (P.v 7))) (ah (P.ret qk)) aq)
 (ae (P.set 8 (bp (P.call 4 c_law_value (a2 (P.v 0) (P.v 6))) (P.v 4)))
 (ae (P.set 9 (E5 (gH (iC hr (P.v 1) ax) (fA (iC hr (P.v 2) af))) (fA (gH (iC hr (P.v 1) ax) (fA (iC hr (P.v 2) af))))))
 (ae (P.if_ (t_w (w_and (cQ hr (P.v 6) (P.v 7)) (j5 (zF (P.v 3) (P.v 8))))) (ah (P.ret (gH (iC hr (P.y 5) af) (fA (E5 (iC hr (P.v 1) ax) (E5 (iC hr (P.v 1) ax) (fA (P.v 9)))))))) aq)
 (ae (P.if_ (cQ hr (P.v 3) (P.v 8)) (ah (P.ret (iC hr (P.y 5) af))) aq)
 (ae (P.set 10 af)
 (ae (P.if_ (zE (P.v 3) (aZ (P.v 4) (P.y 0))) (ah (P.set 10 af)) aq)
 (ae (P.if_ (tH (P.v 3) (P.v 8)) (ae (P.set 12 (bp (P.call 4 c_law_value (a2 (P.v 0) (az (P.v 6) af))) (P.v 4)))
 (ae (P.if_ (zF (P.v 3) (P.v 12)) (ah (P.ret (gH (iC hr (P.y 5) af) (gH (iC hr (P.v 6) (aQ (P.v 7) af)) (gH (Ko hr (P.v 1) ax) (gH (Ko hr (P.v 1) ax) (fA (G7 (P.v 9))))))))) aq)
 (ah (P.ret (gH (iC hr (P.y 5) (P.v 10)) (fA (P.call 5 c_law_near (aj (P.v 1) (aj (P.v 9) (aj (aQ (aQ (bp af (P.v 3)) (P.v 8)) (P.v 12)) (aj (iC hr (cP (P.v 6) af) af) gI))))))))))) aq)
 (ae (P.if_ (cQ hr (P.v 6) (P.v 7)) (ah (P.set 10 af)) aq)
 (ae (P.set 11 (bp (P.call 4 c_law_value (a2 (P.v 0) (aQ (P.v 6) af))) (P.v 4)))
 (ae (P.if_ (Qj (P.v 3) (P.v 11)) (ah (P.ret qk)) aq)
 (ah (P.ret (gH (iC hr (P.y 5) (P.v 10)) (fA (P.call 6 c_law_far (aj (P.v 1) (aj (P.v 9) (aj (aQ (aQ (bp af (P.v 3)) (P.v 8)) (P.v 11)) (aj (iC hr (cP (P.v 6) af) af) gI)))))))))))))))))))))))
theorem kY (P:Pl X gA gF) (hS:X.env.scope=aa bZ)
  (c_read:Callee X "read" gT) (m_tuple:X.mg "tuple"=none) (isi_tuple:Isi X (.ty "tuple")) (hE:nA X) (m_isinstance:X.mg "isinstance"=none) (m_len:X.mg "len"=none) (c_law_whole:Callee X "_law_whole" bg) (c_law_spelling_of:Callee X "_law_spelling_of" aA) (c_law_fair:Callee X "_law_fair" aF) (c_law_power:Callee X "_law_power" (ar 20)):SSs X (ag bZ) bw:=by
 unfold bw
 exact (ae (P.set 5 (P.call 0 c_read (a3 (P.v 0) (P.v 3) (P.v 4))))
 (ae (P.set 6 (aZ (aQ (aZ af (P.y 0)) af) (P.y 0)))
 (ae (P.set 7 (az (aZ (P.v 1) (az (P.y 0) (P.y 0))) (P.v 2)))
 (ae (P.if_ (tH (P.v 2) (P.v 6)) (ah (P.set 7 (az (P.v 6) (aZ af (aQ (P.y 0) af))))) aq)
 (ae (P.if_ (t_w (w_or (gL (cN (Bl isi_tuple hE (P.w 1) m_isinstance (P.v 5) (JU (n:="tuple") (P.w 2) m_tuple boot_tuple)))) (w_or (Ig hr (cJ jU jR (P.w 3) m_len PySem.boot_len (a1 (P.v 5))) af) (w_or (gL (cN (P.call 4 c_law_whole (a1 (P.y 5))))) (lP (gL (cN (P.call 4 c_law_whole (a1 (P.y 5)))))))))) (ah (P.ret qk)) aq)
 (ae (P.if_ (t_w (w_and (cQ hr (P.v 3) ax) (j5 (Ig hr (P.y 5) (P.v 7))))) (ah (P.ret qk)) aq)
 (ae (P.if_ (t_w (w_or (cQ hr (P.v 2) af) (lP (zF (P.v 2) (P.v 6))))) (ah (P.ret (iC hr (P.v 5) (cI (a2 (P.v 7) af) (by decide))))) aq)
 (ae (P.set 8 (P.call 5 c_law_spelling_of (a1 (P.v 4))))
 (ae (P.set 9 (az (aQ (aZ af (aQ (P.y 0) af)) af) (P.y 0)))
 (ae (P.if_ (zE (P.y 8) af) (ah (P.ret (P.call 6 c_law_fair (aj (P.v 0) (aj (P.v 3) (aj (P.v 1) (aj (aZ (P.y 8) (P.v 9)) (aj (P.call 7 c_law_power (a1 (hV (P.y 8)))) (aj (P.v 5) gI))))))))) aq)
 (ah (P.ret (P.call 6 c_law_fair (aj (P.v 0) (aj (P.v 3) (aj (P.v 1) (aj (aZ (bp (P.y 8) (P.call 7 c_law_power (a1 (P.y 8)))) (P.v 9)) (aj af (aj (P.v 5) gI)))))))))))))))))))
theorem sI (P:Pl X kz kI) (hS:X.env.scope=aa eE)
     : SSs X (ag eE) fi:=by
 unfold fi
 exact (ah (P.ret (E6 (p5 (aj ax (aj ax (aj ax (aj ax (aj ax gI))))) (by decide)) (cP (P.v 0) af))))
theorem LO (P:Pl X Ke Kh) (hS:X.env.scope=aa nM)
  (c_law_size_for:Callee X "_law_size_for" bU) (c_law_cell_at:Callee X "_law_cell_at" cD) (m_len:X.mg "len"=none) (c_law_bits_by:Callee X "_law_bits_by" bO) (c_shown:Callee X "shown" ck) (c_law_shown_well:Callee X "_law_shown_well" aG) (c_law_read_alike:Callee X "_law_read_alike" aH) (c_law_way_by:Callee X "_law_way_by" dA):SSs X (ag nM) C5:=by
 unfold C5
 exact (ae (P.set 1 (LC (P.v 0) (da af) (da af)))
 (ae (P.set 2 (P.call 0 c_law_size_for (a2 (P.call 1 c_law_cell_at (a2 (P.v 0) af)) (cJ jU jR (P.w 2) m_len PySem.boot_len (a1 (P.v 1))))))
 (ae (vj P.toSx L 3 rfl (P.sto _ (mG 3)) (GR (P.v 1)) (ae (P.set 4 (P.call 3 c_law_bits_by (a2 (P.v 2) (P.v 3))))
 (ae (P.set 5 (P.call 4 c_shown (a2 (P.v 2) (az (P.y 4) (aZ (P.y 4) (az (P.y 2) (P.y 2)))))))
 (ae (P.if_ (gL (cN (P.call 5 c_law_shown_well (aj (P.v 2) (aj (P.y 4) (aj (P.y 4) (aj (P.v 5) gI))))))) (ah (P.ret qk)) aq)
 (ae (P.if_ (gL (cN (P.call 6 c_law_read_alike (aj (P.v 2) (aj (P.y 4) (aj (P.y 4) (aj ax (aj (P.v 5) gI)))))))) (ah (P.ret qk)) aq)
 (ah (P.if_ (gL (cN (P.call 6 c_law_read_alike (aj (P.v 2) (aj (P.y 4) (aj (P.y 4) (aj (P.call 7 c_law_way_by (a1 (cP (bp (P.v 3) af) af))) (aj (P.v 5) gI)))))))) (ah (P.ret qk)) aq)))))))
 (ah (P.ret qk)))))
end
theorem all_mk {P:Program} {w:World} {K:PySem.W.Frag} {h:Heap} {mg:Str->Option Value} {fa:Addr} (KX:K.In h) (GG:h.Ns mainGlobals mg) (hfa:mg "law"=some (.ref fa))
  {C_Way:Addr} (n_Way:PySem.W.nsIn K mainGlobals "Way"=some (some (.ref C_Way)))
  (pg_Way:PySem.W.plainGet K C_Way Str.empty=true) (hd_Way:PySem.W.hasDictIn K C_Way=true) (po_Way:PySem.W.plainOver K C_Way=true) (sa_Way:PySem.W.findIn K (.ref C_Way) "__setattr__"=some (some (.builtin "object.__setattr__")))
  (na_Way:PySem.W.findIn K (.ref C_Way) "name"=some none)
  {fIWay:Addr} {odIWay anIWay:Option Addr} {slIWay:Array (Option Value)} {ocIWay kVIWay dcIWay pmIWay cdIWay ctIWay:Value}
  (aIWay:PySem.W.findIn K (.ref C_Way) "__init__"=some (some (.ref fIWay))) (uIWay:PySem.W.isFn K (.ref fIWay)=true) (mm_Way:PySem.W.makesIn K C_Way=true) (kc_Way:PySem.W.keepIn K (.ref C_Way)=true)
  (lIWay:K.lookup fIWay=some ⟨ocIWay,odIWay,.func (PySem.W.fnOf "__init__" "Way.__init__" (aL iu) (ag iu) (aa iu) .none kVIWay dcIWay pmIWay anIWay cdIWay ctIWay),slIWay⟩)
  (eIWay:PySem.W.codeIn K cdIWay "Way.__init__"=true) (kIWay:PySem.W.keepIn K (.ref fIWay)=true)
  (q1:DA K "_law_size_for" cW)
  (q2:DA K "_law_cell_at" dI)
  (q3:DA K "_law_code_by" dH)
  (q4:DA K "_law_bits_by" dJ)
  (q5:DA K "sign_bit" ij)
  (q6:DA K "width" pG)
  (q7:DA K "parted" lx)
  (q8:DA K "last_field" eG)
  (q9:DA K "kind" vi)
  (q10:DA K "worth_fraction" bW)
  (q11:DA K "bias" vk)
  (q12:DA K "low" Co)
  (q13:DA K "worth" pF)
  (q14:DA K "fraction" ir)
  {f15:Addr} {od15 an15:Option Addr} {sl15:Array (Option Value)} {oc15 kV15 dc15 pm15 cd15 ct15:Value}
  (a15:PySem.W.nsIn K mainGlobals "ten_to"=some (some (.ref f15)))
  (l15:K.lookup f15=some ⟨oc15,od15,.func (PySem.W.fnOf "ten_to" "ten_to" (aL fQ) (ag fQ) (aa fQ) .none kV15 dc15 pm15 an15 cd15 ct15),sl15⟩)
  (e15:PySem.W.codeIn K cd15 "ten_to"=true) (k15:PySem.W.keepIn K (.ref f15)=true)
  (q16:DA K "tenfold" i7)
  (q17:DA K "below_ten_to" cZ)
  (q18:DA K "scaled" lq)
  (q19:DA K "height" lz)
  (q20:DA K "ten_height" eA)
  (q21:DA K "bare_spelling" cz)
  (q22:DA K "way_of" lh)
  (q23:DA K "check_fraction" b6)
  (q24:DA K "rest_by_middle" bX)
  (q25:DA K "rest_of" jb)
  (q26:DA K "cut" Cp)
  (q27:DA K "endless" jd)
  (q28:DA K "signed" lj)
  (q29:DA K "lost_flags" eC)
  {f30:Addr} {od30 an30:Option Addr} {sl30:Array (Option Value)} {oc30 kV30 dc30 pm30 cd30 ct30:Value}
  (a30:PySem.W.findIn K (.ref C_Way) "flees_nought"=some (some (.ref f30))) (u30:PySem.W.isFn K (.ref f30)=true)
  (l30:K.lookup f30=some ⟨oc30,od30,.func (PySem.W.fnOf "flees_nought" "Way.flees_nought" (aL aC) (ag aC) (aa aC) .none kV30 dc30 pm30 an30 cd30 ct30),sl30⟩)
  (e30:PySem.W.codeIn K cd30 "Way.flees_nought"=true) (k30:PySem.W.keepIn K (.ref f30)=true)
  {f31:Addr} {od31 an31:Option Addr} {sl31:Array (Option Value)} {oc31 kV31 dc31 pm31 cd31 ct31:Value}
  (a31:PySem.W.findIn K (.ref C_Way) "grows"=some (some (.ref f31))) (u31:PySem.W.isFn K (.ref f31)=true)
  (l31:K.lookup f31=some ⟨oc31,od31,.func (PySem.W.fnOf "grows" "Way.grows" (aL cg) (ag cg) (aa cg) .none kV31 dc31 pm31 an31 cd31 ct31),sl31⟩)
  (e31:PySem.W.codeIn K cd31 "Way.grows"=true) (k31:PySem.W.keepIn K (.ref f31)=true)
  {f32:Addr} {od32 an32:Option Addr} {sl32:Array (Option Value)} {oc32 kV32 dc32 pm32 cd32 ct32:Value}
  (a32:PySem.W.findIn K (.ref C_Way) "bursts"=some (some (.ref f32))) (u32:PySem.W.isFn K (.ref f32)=true)
  (l32:K.lookup f32=some ⟨oc32,od32,.func (PySem.W.fnOf "bursts" "Way.bursts" (aL bJ) (ag bJ) (aa bJ) .none kV32 dc32 pm32 an32 cd32 ct32),sl32⟩)
  (e32:PySem.W.codeIn K cd32 "Way.bursts"=true) (k32:PySem.W.keepIn K (.ref f32)=true)
  (q33:DA K "settled" i9)
  (q34:DA K "rounded" ja)
  (q35:DA K "reads_back" eB)
  (q36:DA K "nearest_back" cV)
  (q37:DA K "shortest" ik)
  (q38:DA K "laid_short" eI)
  (q39:DA K "laid_in_full" cY)
  (q40:DA K "laid" vh)
  (q41:DA K "shown" pI)
  (q42:DA K "_law_count_of" cX)
  (q43:DA K "_law_spelling_of" bM)
  {f44:Addr} {od44 an44:Option Addr} {sl44:Array (Option Value)} {oc44 kV44 dc44 pm44 cd44 ct44:Value}
  (a44:PySem.W.nsIn K mainGlobals "_law_power"=some (some (.ref f44)))
  (l44:K.lookup f44=some ⟨oc44,od44,.func (PySem.W.fnOf "_law_power" "_law_power" (aL cb) (ag cb) (aa cb) .none kV44 dc44 pm44 an44 cd44 ct44),sl44⟩)
  (e44:PySem.W.codeIn K cd44 "_law_power"=true) (k44:PySem.W.keepIn K (.ref f44)=true)
  (q45:DA K "_law_within" eD)
  (q46:DA K "_law_value" fT)
  (q47:DA K "_law_is_best" dG)
  (q48:DA K "_law_layout" eF)
  (q49:DA K "_law_shown_well" bY)
  (q50:DA K "sign_and_word" cy)
  (q51:DA K "bare_line" fU)
  (q52:DA K "all_figures" dN)
  (q53:DA K "exponent_of" dM)
  (q54:DA K "spelled" i8)
  (q55:DA K "no_number" fR)
  (q56:DA K "read" vg)
  (q57:DA K "_law_far" jc)
  (q58:DA K "_law_whole" fS)
  (q59:DA K "_law_near" ip)
  (q60:DA K "_law_fair" iq)
  (q61:DA K "_law_read_alike" bZ)
  (q62:DA K "_law_way_by" eE)
  {f63:Addr} {od63 an63:Option Addr} {sl63:Array (Option Value)} {oc63 kV63 dc63 pm63 cd63 ct63:Value}
  (a63:PySem.W.nsIn K mainGlobals "law"=some (some (.ref f63)))
  (l63:K.lookup f63=some ⟨oc63,od63,.func (PySem.W.fnOf "law" "law" (aL nM) (ag nM) (aa nM) .none kV63 dc63 pm63 an63 cd63 ct63),sl63⟩)
  (e63:PySem.W.codeIn K cd63 "law"=true) (k63:PySem.W.keepIn K (.ref f63)=true)
  (z_len:PySem.W.nsIn K mainGlobals "len"=some none)
  (z_max:PySem.W.nsIn K mainGlobals "max"=some none)
  (z_str:PySem.W.nsIn K mainGlobals "str"=some none)
  (z_int:PySem.W.nsIn K mainGlobals "int"=some none)
  (z_abs:PySem.W.nsIn K mainGlobals "abs"=some none)
  (z_isinstance:PySem.W.nsIn K mainGlobals "isinstance"=some none)
  (z_all:PySem.W.nsIn K mainGlobals "all"=some none)
  (z_bool:PySem.W.nsIn K mainGlobals "bool"=some none)
  (z_tuple:PySem.W.nsIn K mainGlobals "tuple"=some none)
  {A_NAMES:Addr} {dd_NAMES:Option Addr} {nn_NAMES:Nat} {ss_NAMES:Array (Option Value)} {t0_NAMES t1_NAMES t2_NAMES t3_NAMES t4_NAMES:Tok} (y_NAMES:PySem.W.nsIn K mainGlobals "NAMES"=some (some (.ref A_NAMES)))
  (yl_NAMES:K.lookup A_NAMES=some ⟨.type "tuple",dd_NAMES,.seq #[.str "even" t0_NAMES,.str "away" t1_NAMES,.str "nought" t2_NAMES,.str "up" t3_NAMES,.str "down" t4_NAMES] nn_NAMES,ss_NAMES⟩)
  {t_INEXACT:Tok} (y_INEXACT:PySem.W.nsIn K mainGlobals "INEXACT"=some (some (.int 1 t_INEXACT)))
  {t_GREAT:Tok} (y_GREAT:PySem.W.nsIn K mainGlobals "GREAT"=some (some (.int 4 t_GREAT)))
  {t_SMALL:Tok} (y_SMALL:PySem.W.nsIn K mainGlobals "SMALL"=some (some (.int 2 t_SMALL)))
  {t_LONGEST_LINE:Tok} (y_LONGEST_LINE:PySem.W.nsIn K mainGlobals "LONGEST_LINE"=some (some (.int 400 t_LONGEST_LINE)))
  {t_FIGURES:Tok} (y_FIGURES:PySem.W.nsIn K mainGlobals "FIGURES"=some (some (.str "0123456789" t_FIGURES)))
  {t_LONGEST_EXPONENT:Tok} (y_LONGEST_EXPONENT:PySem.W.nsIn K mainGlobals "LONGEST_EXPONENT"=some (some (.int 4 t_LONGEST_EXPONENT)))
  {C_MillError:Addr} (n_MillError:PySem.W.nsIn K mainGlobals "MillError"=some (some (.ref C_MillError)))
  {C_NoBits:Addr} (n_NoBits:PySem.W.nsIn K mainGlobals "NoBits"=some (some (.ref C_NoBits)))
  {C_NotFinite:Addr} (n_NotFinite:PySem.W.nsIn K mainGlobals "NotFinite"=some (some (.ref C_NotFinite)))
  {C_NoWay:Addr} (n_NoWay:PySem.W.nsIn K mainGlobals "NoWay"=some (some (.ref C_NoWay)))
  {C_NoFraction:Addr} (n_NoFraction:PySem.W.nsIn K mainGlobals "NoFraction"=some (some (.ref C_NoFraction)))
  {C_NoText:Addr} (n_NoText:PySem.W.nsIn K mainGlobals "NoText"=some (some (.ref C_NoText)))
  (xi_NoBits:PySem.W.excIn K C_NoBits bmV "ValueError.__new__"=true)
  (xi_NotFinite:PySem.W.excIn K C_NotFinite bmV "ValueError.__new__"=true)
  (xi_NoWay:PySem.W.excIn K C_NoWay bmV "ValueError.__new__"=true)
  (xi_NoFraction:PySem.W.excIn K C_NoFraction bmV "ValueError.__new__"=true)
  (xi_NoText:PySem.W.excIn K C_NoText bmV "ValueError.__new__"=true)
  (v_MillError:XCls K C_MillError)
  (w_NoSize:PySem.W.nsIn K mainGlobals "NoSize"=some none)
  (v_NoBits:XCls K C_NoBits)
  (w_NoParts:PySem.W.nsIn K mainGlobals "NoParts"=some none)
  (w_NoRank:PySem.W.nsIn K mainGlobals "NoRank"=some none)
  (v_NotFinite:XCls K C_NotFinite)
  (v_NoWay:XCls K C_NoWay)
  (w_NoFlags:PySem.W.nsIn K mainGlobals "NoFlags"=some none)
  (v_NoFraction:XCls K C_NoFraction)
  (w_Unlike:PySem.W.nsIn K mainGlobals "Unlike"=some none)
  (w_Empty:PySem.W.nsIn K mainGlobals "Empty"=some none)
  (w_NoLeft:PySem.W.nsIn K mainGlobals "NoLeft"=some none)
  (v_NoText:XCls K C_NoText)
  (w_NoRow:PySem.W.nsIn K mainGlobals "NoRow"=some none)
  (w_NoName:PySem.W.nsIn K mainGlobals "NoName"=some none)
  (w_Stopped:PySem.W.nsIn K mainGlobals "Stopped"=some none)
  (i_str_NoneType:PySem.W.kitOne K (.type "NoneType") (.type "str")=some false)
  (i_str_bool:PySem.W.kitOne K (.type "bool") (.type "str")=some false)
  (i_str_int:PySem.W.kitOne K (.type "int") (.type "str")=some false)
  (i_str_str:PySem.W.kitOne K (.type "str") (.type "str")=some true)
  (i_str_tuple:PySem.W.kitOne K (.type "tuple") (.type "str")=some false)
  (i_str_list:PySem.W.kitOne K (.type "list") (.type "str")=some false)
  (i_int_NoneType:PySem.W.kitOne K (.type "NoneType") (.type "int")=some false)
  (i_int_bool:PySem.W.kitOne K (.type "bool") (.type "int")=some true)
  (i_int_int:PySem.W.kitOne K (.type "int") (.type "int")=some true)
  (i_int_str:PySem.W.kitOne K (.type "str") (.type "int")=some false)
  (i_int_tuple:PySem.W.kitOne K (.type "tuple") (.type "int")=some false)
  (i_int_list:PySem.W.kitOne K (.type "list") (.type "int")=some false)
  (i_bool_NoneType:PySem.W.kitOne K (.type "NoneType") (.type "bool")=some false)
  (i_bool_bool:PySem.W.kitOne K (.type "bool") (.type "bool")=some true)
  (i_bool_int:PySem.W.kitOne K (.type "int") (.type "bool")=some false)
  (i_bool_str:PySem.W.kitOne K (.type "str") (.type "bool")=some false)
  (i_bool_tuple:PySem.W.kitOne K (.type "tuple") (.type "bool")=some false)
  (i_bool_list:PySem.W.kitOne K (.type "list") (.type "bool")=some false)
  (i_tuple_NoneType:PySem.W.kitOne K (.type "NoneType") (.type "tuple")=some false)
  (i_tuple_bool:PySem.W.kitOne K (.type "bool") (.type "tuple")=some false)
  (i_tuple_int:PySem.W.kitOne K (.type "int") (.type "tuple")=some false)
  (i_tuple_str:PySem.W.kitOne K (.type "str") (.type "tuple")=some false)
  (i_tuple_tuple:PySem.W.kitOne K (.type "tuple") (.type "tuple")=some true)
  (i_tuple_list:PySem.W.kitOne K (.type "list") (.type "tuple")=some false)
  : ∃ fd:FuncData,(∀ (s:Shared) (v:Value),BindsTo s fd ⟨[v],[]⟩ [("_law_script",v)])/\∀ base:Heap,K.In base->base.Ns mainGlobals mg->FnOk P w K mg base (CXF P w) 27 fa fd ["_law_script"] (spP K mg CD):=by
 have e:=hfa.symm.trans (PySem.W.mg_of KX GG a63)
 cases e
 have q_Way:=PySem.W.mg_of KX GG n_Way
 have cl_Way:Cls K C_Way:=⟨pg_Way,hd_Way,po_Way,sa_Way⟩
 have m_len:=PySem.W.mg_none_of KX GG z_len
 have m_max:=PySem.W.mg_none_of KX GG z_max
 have m_str:=PySem.W.mg_none_of KX GG z_str
 have m_int:=PySem.W.mg_none_of KX GG z_int
 have m_abs:=PySem.W.mg_none_of KX GG z_abs
 have m_isinstance:=PySem.W.mg_none_of KX GG z_isinstance
 have m_all:=PySem.W.mg_none_of KX GG z_all
 have m_bool:=PySem.W.mg_none_of KX GG z_bool
 have m_tuple:=PySem.W.mg_none_of KX GG z_tuple
 have g_INEXACT:∃ t,mg "INEXACT"=some (.int 1 t):=⟨_,PySem.W.mg_of KX GG y_INEXACT⟩
 have g_GREAT:∃ t,mg "GREAT"=some (.int 4 t):=⟨_,PySem.W.mg_of KX GG y_GREAT⟩
 have g_SMALL:∃ t,mg "SMALL"=some (.int 2 t):=⟨_,PySem.W.mg_of KX GG y_SMALL⟩
 have g_LONGEST_LINE:∃ t,mg "LONGEST_LINE"=some (.int 400 t):=⟨_,PySem.W.mg_of KX GG y_LONGEST_LINE⟩
 have g_FIGURES:∃ t,mg "FIGURES"=some (.str "0123456789" t):=⟨_,PySem.W.mg_of KX GG y_FIGURES⟩
 have g_LONGEST_EXPONENT:∃ t,mg "LONGEST_EXPONENT"=some (.int 4 t):=⟨_,PySem.W.mg_of KX GG y_LONGEST_EXPONENT⟩
 have q_MillError:=PySem.W.mg_of KX GG n_MillError
 have q_NoBits:=PySem.W.mg_of KX GG n_NoBits
 have q_NotFinite:=PySem.W.mg_of KX GG n_NotFinite
 have q_NoWay:=PySem.W.mg_of KX GG n_NoWay
 have q_NoFraction:=PySem.W.mg_of KX GG n_NoFraction
 have q_NoText:=PySem.W.mg_of KX GG n_NoText
 have hXF:∀ n∈av,XF K mg n:=LS
  ⟨.inr ⟨_,q_MillError,v_MillError⟩⟩
  ⟨.inl (PySem.W.mg_none_of KX GG w_NoSize)⟩
  ⟨.inr ⟨_,q_NoBits,v_NoBits⟩⟩
  ⟨.inl (PySem.W.mg_none_of KX GG w_NoParts)⟩
  ⟨.inl (PySem.W.mg_none_of KX GG w_NoRank)⟩
  ⟨.inr ⟨_,q_NotFinite,v_NotFinite⟩⟩
  ⟨.inr ⟨_,q_NoWay,v_NoWay⟩⟩
  ⟨.inl (PySem.W.mg_none_of KX GG w_NoFlags)⟩
  ⟨.inr ⟨_,q_NoFraction,v_NoFraction⟩⟩
  ⟨.inl (PySem.W.mg_none_of KX GG w_Unlike)⟩
  ⟨.inl (PySem.W.mg_none_of KX GG w_Empty)⟩
  ⟨.inl (PySem.W.mg_none_of KX GG w_NoLeft)⟩
  ⟨.inr ⟨_,q_NoText,v_NoText⟩⟩
  ⟨.inl (PySem.W.mg_none_of KX GG w_NoRow)⟩
  ⟨.inl (PySem.W.mg_none_of KX GG w_NoName)⟩
  ⟨.inl (PySem.W.mg_none_of KX GG w_Stopped)⟩
 refine ⟨PySem.W.fnOf "law" "law" (aL nM) (ag nM) (aa nM) .none kV63 dc63 pm63 an63 cd63 ct63,fun s v=>.of_eq rfl,fun base _ _ => ?_⟩
 have FIWay:=kh (st:=iu) lIWay eIWay kIWay
 have BIWay:=cL (ps:=["self","name"]) FIWay rfl fun _ _ _ _ _ _ _ _=>rfl
 have JIWay:FnOk P w K mg base CX0 1 fIWay _ ["self","name"] (spI K "name"):=GP (k:=0) FIWay ⟨rfl,rfl,rfl,by decide +kernel,by decide +kernel,by decide +kernel,by decide +kernel⟩ (by decide +kernel) (by decide +kernel) (by decide +kernel) (by decide +kernel) rfl (fun _=>rfl)
 have D1:FnP P w K mg base "_law_size_for" 1 bU:=q1.fn KX GG lY rfl rfl (cL · rfl fun _ _ _ _ _ _ _ _=>rfl) fun X hr L O Pl hS =>
  nR (X:=at5 X P w K mg base) hr L O Pl hS
 have D2:FnP P w K mg base "_law_cell_at" 1 cD:=q2.fn KX GG nI rfl rfl (cL · rfl fun _ _ _ _ _ _ _ _=>rfl) fun X hr L O Pl hS =>
  qf (X:=at5 X P w K mg base) hr L O Pl hS m_len
 have D3:FnP P w K mg base "_law_code_by" 1 cC:=q3.fn KX GG nH rfl rfl (cL · rfl fun _ _ _ _ _ _ _ _=>rfl) fun X hr L O Pl hS =>
  qe (X:=at5 X P w K mg base) hr L O Pl hS
 have D4:FnP P w K mg base "_law_bits_by" 2 bO:=q4.fn KX GG nJ rfl rfl (cL · rfl fun _ _ _ _ _ _ _ _=>rfl) fun X hr L O Pl hS =>
  qg (X:=at5 X P w K mg base) hr L O Pl hS (D3.c hr)
 have D5:FnP P w K mg base "sign_bit" 1 cq:=q5.fn KX GG tO rfl rfl (cw · rfl fun _ _ _ _ _ _ _=>rfl) fun X hr L O Pl hS =>
  yt (X:=at5 X P w K mg base) hr L O Pl hS
 have D6:FnP P w K mg base "width" 1 ma:=q6.fn KX GG Cm rfl rfl (cw · rfl fun _ _ _ _ _ _ _=>rfl) fun X hr L O Pl hS =>
  Hm (X:=at5 X P w K mg base) hr L O Pl hS
 have D7:FnP P w K mg base "parted" 2 fW:=q7.fn KX GG zX rfl rfl (cL · rfl fun _ _ _ _ _ _ _ _=>rfl) fun X hr L O Pl hS =>
  Dm (X:=at5 X P w K mg base) hr L O Pl hS (D6.c hr) q_NoBits xi_NoBits (D5.c hr)
 have D8:FnP P w K mg base "last_field" 1 aW:=q8.fn KX GG pB rfl rfl (cw · rfl fun _ _ _ _ _ _ _=>rfl) fun X hr L O Pl hS =>
  sL (X:=at5 X P w K mg base) hr L O Pl hS
 have D9:FnP P w K mg base "kind" 3 ou:=q9.fn KX GG FW rfl rfl (cL · rfl fun _ _ _ _ _ _ _ _=>rfl) fun X hr L O Pl hS =>
  J7 (X:=at5 X P w K mg base) hr L O Pl hS (D7.c hr) (D8.c hr)
 have D10:FnP P w K mg base "worth_fraction" 1 bq:=q10.fn KX GG jL rfl rfl (cw · rfl fun _ _ _ _ _ _ _=>rfl) fun X hr L O Pl hS =>
  kU (X:=at5 X P w K mg base) hr L O Pl hS
 have D11:FnP P w K mg base "bias" 1 qP:=q11.fn KX GG FY rfl rfl (cw · rfl fun _ _ _ _ _ _ _=>rfl) fun X hr L O Pl hS =>
  J8 (X:=at5 X P w K mg base) hr L O Pl hS
 have D12:FnP P w K mg base "low" 2 md:=q12.fn KX GG Ir rfl rfl (cw · rfl fun _ _ _ _ _ _ _=>rfl) fun X hr L O Pl hS =>
  LN (X:=at5 X P w K mg base) hr L O Pl hS (D11.c hr)
 have D13:FnP P w K mg base "worth" 3 iT:=q13.fn KX GG Ck rfl rfl (cL · rfl fun _ _ _ _ _ _ _ _=>rfl) fun X hr L O Pl hS =>
  Hl (X:=at5 X P w K mg base) hr L O Pl hS (D7.c hr) (D8.c hr) q_NotFinite xi_NotFinite (D12.c hr)
 have D14:FnP P w K mg base "fraction" 4 cS:=q14.fn KX GG tU rfl rfl (cL · rfl fun _ _ _ _ _ _ _ _=>rfl) fun X hr L O Pl hS =>
  yx (X:=at5 X P w K mg base) hr L O Pl hS (D10.c hr) (D13.c hr)
 have F15:=kh (st:=fQ) l15 e15 k15
 have B15:=cw (ps:=["number"]) F15 rfl fun _ _ _ _ _ _ _=>rfl
 have D15:∀ j,FnP P w K mg base "ten_to" (j+1) (cA j):=fun j=>by
  induction j with
  | zero=>exact rR EY k15 (PySem.W.mg_of KX GG a15) B15
  | succ j ih =>
  refine rR (up1 (mJ (k:=j+1) F15 zU rfl rfl fun X hr L O Pl hS => ?_)) k15 (PySem.W.mg_of KX GG a15) B15
  exact Dj (X:=at5 X P w K mg base) hr L O Pl hS (ih.callee hr (Nat.le_refl _))
 have D16:FnP P w K mg base "tenfold" 22 br:=q16.fn KX GG xT rfl rfl (fM · rfl fun _ _ _ _ _ _ _ _ _=>rfl) fun X hr L O Pl hS =>
  BC (X:=at5 X P w K mg base) hr L O Pl hS ((D15 20).callee hr (by decide))
 have D17:FnP P w K mg base "below_ten_to" 23 bA:=q17.fn KX GG l6 rfl rfl (fM · rfl fun _ _ _ _ _ _ _ _ _=>rfl) fun X hr L O Pl hS =>
  nV (X:=at5 X P w K mg base) hr L O Pl hS (D16.c hr)
 have D18:FnP P w K mg base "scaled" 1 fV:=q18.fn KX GG zW rfl rfl (fM · rfl fun _ _ _ _ _ _ _ _ _=>rfl) fun X hr L O Pl hS =>
  Dl (X:=at5 X P w K mg base) hr L O Pl hS
 have D19:FnP P w K mg base "height" 2 fX:=q19.fn KX GG zY rfl rfl (cL · rfl fun _ _ _ _ _ _ _ _=>rfl) fun X hr L O Pl hS =>
  Dn (X:=at5 X P w K mg base) hr L O Pl hS (D18.c hr)
 have D20:FnP P w K mg base "ten_height" 24 du:=q20.fn KX GG ph rfl rfl (cL · rfl fun _ _ _ _ _ _ _ _=>rfl) fun X hr L O Pl hS =>
  sC (X:=at5 X P w K mg base) hr L O Pl hS (D19.c hr) (D17.c hr)
 have D21:FnP P w K mg base "bare_spelling" 1 bL:=q21.fn KX GG kQ rfl rfl (fM · rfl fun _ _ _ _ _ _ _ _ _=>rfl) fun X hr L O Pl hS =>
  mQ (X:=at5 X P w K mg base) hr L O Pl hS
 have D22:FnP P w K mg base "way_of" 3 dO:=q22.fn KX GG zT rfl rfl (cw · rfl fun _ _ _ _ _ _ _=>rfl) fun X hr L O Pl hS =>
  Di (X:=at5 X P w K mg base) hr L O Pl hS (GU (ss:=["even","away","nought","up","down"]) (PySem.W.mg_of KX GG y_NAMES) yl_NAMES (qz (ts:=[t0_NAMES,t1_NAMES,t2_NAMES,t3_NAMES,t4_NAMES]) rfl rfl) (Nat.le_of_ble_eq_true rfl)) q_NoWay xi_NoWay ⟨⟨C_Way,_,1,_,_,q_Way,cl_Way,na_Way,⟨mm_Way,aIWay,uIWay,kc_Way⟩,JIWay,hr.mono (by decide),BIWay⟩⟩
 have D23:FnP P w K mg base "check_fraction" 1 bu:=q23.fn KX GG jP rfl rfl (cL · rfl fun _ _ _ _ _ _ _ _=>rfl) fun X hr L O Pl hS =>
  kZ (X:=at5 X P w K mg base) hr L O Pl hS q_NoFraction xi_NoFraction
 have D24:FnP P w K mg base "rest_by_middle" 1 bt:=q24.fn KX GG jM rfl rfl (fM · rfl fun _ _ _ _ _ _ _ _ _=>rfl) fun X hr L O Pl hS =>
  kW (X:=at5 X P w K mg base) hr L O Pl hS
 have D25:FnP P w K mg base "rest_of" 2 gS:=q25.fn KX GG xX rfl rfl (cL · rfl fun _ _ _ _ _ _ _ _=>rfl) fun X hr L O Pl hS =>
  BG (X:=at5 X P w K mg base) hr L O Pl hS (D24.c hr)
 have D26:FnP P w K mg base "cut" 3 t7:=q26.fn KX GG Iv rfl rfl (fM · rfl fun _ _ _ _ _ _ _ _ _=>rfl) fun X hr L O Pl hS =>
  LP (X:=at5 X P w K mg base) hr L O Pl hS (D23.c hr) (D12.c hr) (D19.c hr) m_max (D18.c hr) (D25.c hr)
 have D27:FnP P w K mg base "endless" 2 ba:=q27.fn KX GG xZ rfl rfl (cw · rfl fun _ _ _ _ _ _ _=>rfl) fun X hr L O Pl hS =>
  BI (X:=at5 X P w K mg base) hr L O Pl hS (D8.c hr)
 have D28:FnP P w K mg base "signed" 2 dP:=q28.fn KX GG zV rfl rfl (fM · rfl fun _ _ _ _ _ _ _ _ _=>rfl) fun X hr L O Pl hS =>
  Dk (X:=at5 X P w K mg base) hr L O Pl hS (D5.c hr)
 have D29:FnP P w K mg base "lost_flags" 3 dz:=q29.fn KX GG pq rfl rfl (fM · rfl fun _ _ _ _ _ _ _ _ _=>rfl) fun X hr L O Pl hS =>
  sG (X:=at5 X P w K mg base) hr L O Pl hS (D27.c hr) g_INEXACT g_GREAT g_SMALL
 have F30:=kh (st:=aC) l30 e30 k30
 have B30:=cL (ps:=["self","sign"]) F30 rfl fun _ _ _ _ _ _ _ _=>rfl
 have D30:=mJ (P:=P) (w:=w) (mg:=mg) (base:=base) (n:=2) (m:=2) (g:=aY) (k:=0) F30 iR rfl rfl fun X hr L O Pl hS=>by
  exact js (X:=at5 X P w K mg base) hr L O Pl hS ⟨⟨C_Way,q_Way,cl_Way,na_Way⟩⟩
 have F31:=kh (st:=cg) l31 e31 k31
 have B31:=mM (ps:=["self","sign","odd","rest"]) F31 rfl fun _ _ _ _ _ _ _ _ _ _=>rfl
 have D31:=mJ (P:=P) (w:=w) (mg:=mg) (base:=base) (n:=4) (m:=4) (g:=d7) (k:=1) F31 qM rfl rfl fun X hr L O Pl hS=>by
  exact uA (X:=at5 X P w K mg base) hr L O Pl hS ⟨⟨C_Way,q_Way,cl_Way,na_Way⟩⟩ ⟨⟨C_Way,f30,1,_,_,q_Way,cl_Way,⟨a30,u30,k30⟩,D30,hr.mono (by decide),B30⟩⟩
 have F32:=kh (st:=bJ) l32 e32 k32
 have B32:=cL (ps:=["self","sign"]) F32 rfl fun _ _ _ _ _ _ _ _=>rfl
 have D32:=mJ (P:=P) (w:=w) (mg:=mg) (base:=base) (n:=2) (m:=2) (g:=dD) (k:=1) F32 pE rfl rfl fun X hr L O Pl hS=>by
  exact sO (X:=at5 X P w K mg base) hr L O Pl hS ⟨⟨C_Way,q_Way,cl_Way,na_Way⟩⟩ ⟨⟨C_Way,f30,1,_,_,q_Way,cl_Way,⟨a30,u30,k30⟩,D30,hr.mono (by decide),B30⟩⟩
 have D33:FnP P w K mg base "settled" 4 gR:=q33.fn KX GG xV rfl rfl (Fc · rfl fun _ _ _ _ _ _ _ _ _ _ _ _=>rfl) fun X hr L O Pl hS =>
  BE (X:=at5 X P w K mg base) hr L O Pl hS (D22.c hr) (D12.c hr) (D27.c hr) ⟨⟨C_Way,f32,2,_,_,q_Way,cl_Way,⟨a32,u32,k32⟩,D32,hr.mono (by decide),B32⟩⟩ (D28.c hr) g_INEXACT g_GREAT ⟨⟨C_Way,f31,2,_,_,q_Way,cl_Way,⟨a31,u31,k31⟩,D31,hr.mono (by decide),B31⟩⟩ (D29.c hr)
 have D34:FnP P w K mg base "rounded" 5 aK:=q34.fn KX GG xW rfl rfl (Fd · rfl fun _ _ _ _ _ _ _ _ _ _ _=>rfl) fun X hr L O Pl hS =>
  BF (X:=at5 X P w K mg base) hr L O Pl hS (D22.c hr) (D26.c hr) (D33.c hr)
 have D35:FnP P w K mg base "reads_back" 23 bc:=q35.fn KX GG pj rfl rfl (mM · rfl fun _ _ _ _ _ _ _ _ _ _=>rfl) fun X hr L O Pl hS =>
  sD (X:=at5 X P w K mg base) hr L O Pl hS (D13.c hr) (D16.c hr) (D34.c hr)
 have D36:FnP P w K mg base "nearest_back" 24 bx:=q36.fn KX GG lX rfl rfl (mM · rfl fun _ _ _ _ _ _ _ _ _ _=>rfl) fun X hr L O Pl hS =>
  nQ (X:=at5 X P w K mg base) hr L O Pl hS (D35.c hr)
 have D37:FnP P w K mg base "shortest" 25 cR:=q37.fn KX GG tP rfl rfl (cL · rfl fun _ _ _ _ _ _ _ _=>rfl) fun X hr L O Pl hS =>
  yu (X:=at5 X P w K mg base) hr L O Pl hS (D14.c hr) (D20.c hr) (D16.c hr) (D36.c hr) (D21.c hr)
 have D38:FnP P w K mg base "laid_short" 1 dB:=q38.fn KX GG pC rfl rfl (cL · rfl fun _ _ _ _ _ _ _ _=>rfl) fun X hr L O Pl hS =>
  sN (X:=at5 X P w K mg base) hr L O Pl hS m_len m_str
 have D39:FnP P w K mg base "laid_in_full" 1 bV:=q39.fn KX GG l5 rfl rfl (fM · rfl fun _ _ _ _ _ _ _ _ _=>rfl) fun X hr L O Pl hS =>
  nU (X:=at5 X P w K mg base) hr L O Pl hS
 have D40:FnP P w K mg base "laid" 2 ka:=q40.fn KX GG FV rfl rfl (fM · rfl fun _ _ _ _ _ _ _ _ _=>rfl) fun X hr L O Pl hS =>
  J6 (X:=at5 X P w K mg base) hr L O Pl hS m_str m_len (D39.c hr) (D38.c hr)
 have D41:FnP P w K mg base "shown" 26 ck:=q41.fn KX GG Cn rfl rfl (cL · rfl fun _ _ _ _ _ _ _ _=>rfl) fun X hr L O Pl hS =>
  Hn (X:=at5 X P w K mg base) hr L O Pl hS (D9.c hr) (D27.c hr) (D37.c hr) (D40.c hr)
 have D42:FnP P w K mg base "_law_count_of" 1 bz:=q42.fn KX GG lZ rfl rfl (cw · rfl fun _ _ _ _ _ _ _=>rfl) fun X hr L O Pl hS =>
  nS (X:=at5 X P w K mg base) hr L O Pl hS m_len m_int
 have D43:FnP P w K mg base "_law_spelling_of" 2 aA:=q43.fn KX GG iZ rfl rfl (cw · rfl fun _ _ _ _ _ _ _=>rfl) fun X hr L O Pl hS =>
  jV (X:=at5 X P w K mg base) hr L O Pl hS m_int (D42.c hr) m_len
 have F44:=kh (st:=cb) l44 e44 k44
 have B44:=cw (ps:=["_law_n"]) F44 rfl fun _ _ _ _ _ _ _=>rfl
 have D44:∀ j,FnP P w K mg base "_law_power" (j+1) (ar j):=fun j=>by
  induction j with
  | zero=>exact rR EY k44 (PySem.W.mg_of KX GG a44) B44
  | succ j ih =>
  refine rR (up1 (mJ (k:=j+1) F44 qK rfl rfl fun X hr L O Pl hS => ?_)) k44 (PySem.W.mg_of KX GG a44) B44
  exact uy (X:=at5 X P w K mg base) hr L O Pl hS (ih.callee hr (Nat.le_refl _))
 have D45:FnP P w K mg base "_law_within" 1 au:=q45.fn KX GG pv rfl rfl (fM · rfl fun _ _ _ _ _ _ _ _ _=>rfl) fun X hr L O Pl hS =>
  sH (X:=at5 X P w K mg base) hr L O Pl hS
 have D46:FnP P w K mg base "_law_value" 1 aI:=q46.fn KX GG qJ rfl rfl (cL · rfl fun _ _ _ _ _ _ _ _=>rfl) fun X hr L O Pl hS =>
  ux (X:=at5 X P w K mg base) hr L O Pl hS
 have D47:FnP P w K mg base "_law_is_best" 22 bN:=q47.fn KX GG nG rfl rfl (mM · rfl fun _ _ _ _ _ _ _ _ _ _=>rfl) fun X hr L O Pl hS =>
  qd (X:=at5 X P w K mg base) hr L O Pl hS ((D44 20).callee hr (by decide)) (D46.c hr) (D45.c hr) m_abs
 have D48:FnP P w K mg base "_law_layout" 22 bK:=q48.fn KX GG pA rfl rfl (fM · rfl fun _ _ _ _ _ _ _ _ _=>rfl) fun X hr L O Pl hS =>
  sJ (X:=at5 X P w K mg base) hr L O Pl hS m_str m_len ((D44 20).callee hr (by decide))
 have D49:FnP P w K mg base "_law_shown_well" 23 aG:=q49.fn KX GG jN rfl rfl (mM · rfl fun _ _ _ _ _ _ _ _ _ _=>rfl) fun X hr L O Pl hS =>
  kX (X:=at5 X P w K mg base) hr L O Pl hS m_str (rL (by decide) i_str_NoneType i_str_bool i_str_int i_str_str i_str_tuple i_str_list) (jn (oW hXF)) m_isinstance (D43.c hr) (D48.c hr) (D47.c hr)
 have D50:FnP P w K mg base "sign_and_word" 1 aD:=q50.fn KX GG kP rfl rfl (cw · rfl fun _ _ _ _ _ _ _=>rfl) fun X hr L O Pl hS =>
  mP (X:=at5 X P w K mg base) hr L O Pl hS
 have D51:FnP P w K mg base "bare_line" 1 bh:=q51.fn KX GG qL rfl rfl (cw · rfl fun _ _ _ _ _ _ _=>rfl) fun X hr L O Pl hS =>
  uz (X:=at5 X P w K mg base) hr L O Pl hS m_len g_LONGEST_LINE q_NoText xi_NoText
 have D52:FnP P w K mg base "all_figures" 1 aE:=q52.fn KX GG nL rfl rfl (cw · rfl fun _ _ _ _ _ _ _=>rfl) fun X hr L O Pl hS =>
  qi (X:=at5 X P w K mg base) hr L O Pl hS g_FIGURES m_all
 have D53:FnP P w K mg base "exponent_of" 2 cE:=q53.fn KX GG nK rfl rfl (cw · rfl fun _ _ _ _ _ _ _=>rfl) fun X hr L O Pl hS =>
  qh (X:=at5 X P w K mg base) hr L O Pl hS (D50.c hr) (D52.c hr) m_len g_LONGEST_EXPONENT q_NoText xi_NoText m_int
 have D54:FnP P w K mg base "spelled" 3 fF:=q54.fn KX GG xU rfl rfl (cw · rfl fun _ _ _ _ _ _ _=>rfl) fun X hr L O Pl hS =>
  BD (X:=at5 X P w K mg base) hr L O Pl hS (D50.c hr) (D51.c hr) (D53.c hr) (D52.c hr) q_NoText xi_NoText m_int m_len
 have D55:FnP P w K mg base "no_number" 3 d4:=q55.fn KX GG qH rfl rfl (cw · rfl fun _ _ _ _ _ _ _=>rfl) fun X hr L O Pl hS =>
  uv (X:=at5 X P w K mg base) hr L O Pl hS (D27.c hr)
 have D56:FnP P w K mg base "read" 23 gT:=q56.fn KX GG FU rfl rfl (fM · rfl fun _ _ _ _ _ _ _ _ _=>rfl) fun X hr L O Pl hS =>
  J5 (X:=at5 X P w K mg base) hr L O Pl hS (D22.c hr) (D50.c hr) (D51.c hr) (D28.c hr) (D27.c hr) (D55.c hr) (D54.c hr) (D16.c hr) (D34.c hr)
 have D57:FnP P w K mg base "_law_far" 1 gU:=q57.fn KX GG xY rfl rfl (mM · rfl fun _ _ _ _ _ _ _ _ _ _=>rfl) fun X hr L O Pl hS =>
  BH (X:=at5 X P w K mg base) hr L O Pl hS
 have D58:FnP P w K mg base "_law_whole" 1 bg:=q58.fn KX GG qI rfl rfl (cw · rfl fun _ _ _ _ _ _ _=>rfl) fun X hr L O Pl hS =>
  uw (X:=at5 X P w K mg base) hr L O Pl hS m_int (rL (by decide) i_int_NoneType i_int_bool i_int_int i_int_str i_int_tuple i_int_list) (jn (oW hXF)) m_isinstance m_bool (rL (by decide) i_bool_NoneType i_bool_bool i_bool_int i_bool_str i_bool_tuple i_bool_list)
 have D59:FnP P w K mg base "_law_near" 1 fG:=q59.fn KX GG tQ rfl rfl (mM · rfl fun _ _ _ _ _ _ _ _ _ _=>rfl) fun X hr L O Pl hS =>
  yv (X:=at5 X P w K mg base) hr L O Pl hS
 have D60:FnP P w K mg base "_law_fair" 2 aF:=q60.fn KX GG tR rfl rfl (Fc · rfl fun _ _ _ _ _ _ _ _ _ _ _ _=>rfl) fun X hr L O Pl hS =>
  yw (X:=at5 X P w K mg base) hr L O Pl hS m_tuple (rL (by decide) i_tuple_NoneType i_tuple_bool i_tuple_int i_tuple_str i_tuple_tuple i_tuple_list) (jn (oW hXF)) m_isinstance m_len (D58.c hr) (D46.c hr) (D59.c hr) (D57.c hr)
 have D61:FnP P w K mg base "_law_read_alike" 24 aH:=q61.fn KX GG jO rfl rfl (Fd · rfl fun _ _ _ _ _ _ _ _ _ _ _=>rfl) fun X hr L O Pl hS =>
  kY (X:=at5 X P w K mg base) hr L O Pl hS (D56.c hr) m_tuple (rL (by decide) i_tuple_NoneType i_tuple_bool i_tuple_int i_tuple_str i_tuple_tuple i_tuple_list) (jn (oW hXF)) m_isinstance m_len (D58.c hr) (D43.c hr) (D60.c hr) ((D44 20).callee hr (by decide))
 have D62:FnP P w K mg base "_law_way_by" 1 dA:=q62.fn KX GG pz rfl rfl (cw · rfl fun _ _ _ _ _ _ _=>rfl) fun X hr L O Pl hS =>
  sI (X:=at5 X P w K mg base) hr L O Pl hS
 have F63:=kh (st:=nM) l63 e63 k63
 ·refine mJ (k:=26) F63 Iu rfl rfl fun X hr L O Pl hS => ?_
  exact LO (X:=at5 X P w K mg base) hr L O Pl hS (D1.c hr) (D2.c hr) m_len (D4.c hr) (D41.c hr) (D49.c hr) (D61.c hr) (D62.c hr)
end T
namespace H
open PySem PySem.W PySem.Spec PyProof.Rows L2 EV ES
noncomputable section
noncomputable abbrev vS (x:Str) (n:Nat):Value:=.str x n
noncomputable abbrev vI (x:Int) (n:Nat):Value:=.int x n
noncomputable abbrev r (n:Addr):Value:=.ref n
noncomputable abbrev z (x:Int):Value:=.int x 0
noncomputable abbrev c (n:Nat):Value:=.str "/claim/cut.py" n
noncomputable abbrev en (P:Params) (x:Str) (n:Nat) (v:Value):DictEntry:=⟨PyData.keyHash P x,.str x n,v⟩
noncomputable abbrev sqO (c:Value) (a:Array Value):Obj:=⟨c,none,.seq a 0,#[]⟩
noncomputable abbrev fiO (c:Value) (a:Array Value):Obj:=⟨c,none,.fields a,#[]⟩
noncomputable abbrev diO (c:Value) (a:Array DictEntry) (n:Nat):Obj:=⟨c,none,.dict a n,#[]⟩
noncomputable abbrev fnO (c:Value) (x q:Str) (s:Stmt) (g:Addr) (cl:List (Str×Addr)) (d k dc m:Value) (an:Option Addr) (cd ct:Value) (b:Addr):Obj:=⟨c,none,.func ⟨x,q,aL s,.stmts (ag s),aa s,g,cl,d,k,dc,m,an,cd,ct,b⟩,#[]⟩
noncomputable abbrev N:BT:=.nil
noncomputable abbrev L (o:Obj):BT:=.node o .nil .nil
noncomputable abbrev B (o:Obj) (l r:BT):BT:=.node o l r
noncomputable def cut (n:Nat) (t:BT):Nat->Nat->BT := @BT.rec (fun _=>Nat->Nat->BT) (fun _ _=>.nil) (fun v _ _ l r a b => @Bool.rec (fun _=>BT) .nil (.node v (l (Nat.mul 2 a) (Nat.add a b)) (r (Nat.mul 2 a) (Nat.add (Nat.mul 2 a) b))) (Nat.blt b n)) t
noncomputable def o0:Obj:=sqO (.type "tuple") #[]
noncomputable def o1:Obj:=fiO .none #[]
noncomputable def o2:Obj:=fiO (.type "code") #[(vS "<module>" 182),(vS "<module>" 183),(c 184),(z 1),(z 0),(z 0),(z 0),(z 0),(r 11),(.bool false),(z 181),(r 12),.none,.none,.none,.none,(z 185),(z 1),(c 186)]
noncomputable def o3:Obj:=(Obj.mk (.type "frame") none Data.plain #[(some (r 13)),(some (r 3)),(some (r 3)),none,(some (vS "__main__" 164)),none,(some (r 0))])
noncomputable def o4 (P:Params):Obj:=diO (.type "dict") #[(en P "__name__" 165 (vS "roundmill.errors" 187)),(en P "__doc__" 166 .none),(en P "__package__" 167 .none),(en P "__loader__" 168 (.builtin "__main__.__loader__#opaque")),(en P "__spec__" 169 .none),(en P "__annotations__" 170 (r 6)),(en P "__builtins__" 171 (r 4)),(en P "__file__" 173 (c 172)),(en P "__cached__" 174 .none),(en P "MillError" 206 (r 24))] 10
noncomputable def o5:Obj:=fiO .none #[(z 2),(z 0),(r 20)]
noncomputable def o6:Obj:=sqO (.type "tuple") #[(.type "ValueError")]
noncomputable def o7:Obj:=fiO (.type "builtin_function_or_method") #[(.builtin "type.__prepare__"),(.type "type")]
noncomputable def o8 (P:Params):Obj:=diO (.type "dict") #[(en P "__module__" 196 (vS "roundmill.errors" 187)),(en P "__qualname__" 198 (vS "MillError" 197)),(en P "__firstlineno__" 200 (vI 2 199)),(en P "__static_attributes__" 201 (r 22))] 4
noncomputable def o9:Obj:=fiO (.type "code") #[(vS "MillError" 191),(vS "MillError" 192),(c 193),(z 2),(z 0),(z 0),(z 0),(z 0),(r 18),(.bool false),(z 181),(r 19),.none,.none,.none,.none,(z 194),(z 2),(c 195)]
noncomputable def o10:Obj:=(Obj.mk (.type "frame") none Data.plain #[(some (r 20)),(some (r 3)),(some (r 17)),none,(some (vS "roundmill.errors" 187)),none,(some (r 0))])
noncomputable def o11 (P:Params):Obj:=diO (.type "dict") #[(en P "__module__" 196 (vS "roundmill.errors" 187)),(en P "__firstlineno__" 200 (vI 2 199)),(en P "__static_attributes__" 201 (r 22)),(en P "__weakref__" 203 (r 25)),(en P "__doc__" 204 .none)] 3
noncomputable def o12:Obj:=(Obj.mk (.type "type") none (Data.cls (ClassData.mk "MillError" [(.type "ValueError")] [(r 24),(.type "ValueError"),(.type "Exception"),(.type "BaseException"),(.type "object")] 23 "MillError" true [] [] false none false)) #[(some (r 15)),none,(some (vS "MillError" 189)),(some (vS "MillError" 197)),(some (.builtin "ValueError.__new__")),(some (.bool true))])
noncomputable def o13:Obj:=fiO (.type "getset_descriptor") #[(vS "__weakref__" 202),(r 24),(.builtin "ExceptionGroup.__weakref__"),.none]
noncomputable def o14:Obj:=fiO (.type "super") #[(r 24),(r 24),(r 24)]
noncomputable def o15:Obj:=fiO (.type "builtin_function_or_method") #[(.builtin "object.__init_subclass__"),(r 24)]
noncomputable def o16 (P:Params):Obj:=diO (.type "dict") #[(en P "__name__" 165 (vS "roundmill.errors" 187)),(en P "__doc__" 166 .none),(en P "__package__" 167 .none),(en P "__loader__" 168 (.builtin "__main__.__loader__#opaque")),(en P "__spec__" 169 .none),(en P "__annotations__" 170 (r 6)),(en P "__builtins__" 171 (r 4)),(en P "__file__" 173 (c 172)),(en P "__cached__" 174 .none),(en P "MillError" 206 (r 24)),(en P "NoBits" 222 (r 37))] 11
noncomputable def o17:Obj:=fiO .none #[(z 2),(z 0),(r 20),(z 4),(z 0),(r 33)]
noncomputable def o18:Obj:=(Obj.mk (.type "type") none (Data.cls (ClassData.mk "MillError" [(.type "ValueError")] [(r 24),(.type "ValueError"),(.type "Exception"),(.type "BaseException"),(.type "object")] 23 "MillError" true [] [(r 37)] false none false)) #[(some (r 15)),none,(some (vS "MillError" 189)),(some (vS "MillError" 197)),(some (.builtin "ValueError.__new__")),(some (.bool true))])
noncomputable def o19:Obj:=sqO (.type "tuple") #[(r 24)]
noncomputable def o20 (P:Params):Obj:=diO (.type "dict") #[(en P "__module__" 214 (vS "roundmill.errors" 187)),(en P "__qualname__" 216 (vS "NoBits" 215)),(en P "__firstlineno__" 218 (vI 4 217)),(en P "__static_attributes__" 219 (r 35))] 4
noncomputable def o21:Obj:=fiO (.type "code") #[(vS "NoBits" 209),(vS "NoBits" 210),(c 211),(z 4),(z 0),(z 0),(z 0),(z 0),(r 31),(.bool false),(z 181),(r 32),.none,.none,.none,.none,(z 212),(z 4),(c 213)]
noncomputable def o22:Obj:=(Obj.mk (.type "frame") none Data.plain #[(some (r 33)),(some (r 3)),(some (r 30)),none,(some (vS "roundmill.errors" 187)),none,(some (r 0))])
noncomputable def o23 (P:Params):Obj:=diO (.type "dict") #[(en P "__module__" 214 (vS "roundmill.errors" 187)),(en P "__firstlineno__" 218 (vI 4 217)),(en P "__static_attributes__" 219 (r 35)),(en P "__doc__" 220 .none)] 2
noncomputable def o24:Obj:=(Obj.mk (.type "type") none (Data.cls (ClassData.mk "NoBits" [(r 24)] [(r 37),(r 24),(.type "ValueError"),(.type "Exception"),(.type "BaseException"),(.type "object")] 36 "NoBits" true [] [] false none false)) #[(some (r 28)),none,(some (vS "NoBits" 207)),(some (vS "NoBits" 215)),(some (.builtin "ValueError.__new__")),(some (.bool true))])
noncomputable def o25:Obj:=fiO (.type "super") #[(r 37),(r 37),(r 37)]
noncomputable def o26:Obj:=fiO (.type "builtin_function_or_method") #[(.builtin "object.__init_subclass__"),(r 37)]
noncomputable def o27 (P:Params):Obj:=diO (.type "dict") #[(en P "__name__" 165 (vS "roundmill.errors" 187)),(en P "__doc__" 166 .none),(en P "__package__" 167 .none),(en P "__loader__" 168 (.builtin "__main__.__loader__#opaque")),(en P "__spec__" 169 .none),(en P "__annotations__" 170 (r 6)),(en P "__builtins__" 171 (r 4)),(en P "__file__" 173 (c 172)),(en P "__cached__" 174 .none),(en P "MillError" 206 (r 24)),(en P "NoBits" 222 (r 37)),(en P "NotFinite" 238 (r 49))] 12
noncomputable def o28:Obj:=fiO .none #[(z 2),(z 0),(r 20),(z 4),(z 0),(r 33),(z 6),(z 0),(r 45)]
noncomputable def o29:Obj:=(Obj.mk (.type "type") none (Data.cls (ClassData.mk "MillError" [(.type "ValueError")] [(r 24),(.type "ValueError"),(.type "Exception"),(.type "BaseException"),(.type "object")] 23 "MillError" true [] [(r 37),(r 49)] false none false)) #[(some (r 15)),none,(some (vS "MillError" 189)),(some (vS "MillError" 197)),(some (.builtin "ValueError.__new__")),(some (.bool true))])
noncomputable def o30 (P:Params):Obj:=diO (.type "dict") #[(en P "__module__" 230 (vS "roundmill.errors" 187)),(en P "__qualname__" 232 (vS "NotFinite" 231)),(en P "__firstlineno__" 234 (vI 6 233)),(en P "__static_attributes__" 235 (r 47))] 4
noncomputable def o31:Obj:=fiO (.type "code") #[(vS "NotFinite" 225),(vS "NotFinite" 226),(c 227),(z 6),(z 0),(z 0),(z 0),(z 0),(r 43),(.bool false),(z 181),(r 44),.none,.none,.none,.none,(z 228),(z 6),(c 229)]
noncomputable def o32:Obj:=(Obj.mk (.type "frame") none Data.plain #[(some (r 45)),(some (r 3)),(some (r 42)),none,(some (vS "roundmill.errors" 187)),none,(some (r 0))])
noncomputable def o33 (P:Params):Obj:=diO (.type "dict") #[(en P "__module__" 230 (vS "roundmill.errors" 187)),(en P "__firstlineno__" 234 (vI 6 233)),(en P "__static_attributes__" 235 (r 47)),(en P "__doc__" 236 .none)] 2
noncomputable def o34:Obj:=(Obj.mk (.type "type") none (Data.cls (ClassData.mk "NotFinite" [(r 24)] [(r 49),(r 24),(.type "ValueError"),(.type "Exception"),(.type "BaseException"),(.type "object")] 48 "NotFinite" true [] [] false none false)) #[(some (r 40)),none,(some (vS "NotFinite" 223)),(some (vS "NotFinite" 231)),(some (.builtin "ValueError.__new__")),(some (.bool true))])
noncomputable def o35:Obj:=fiO (.type "super") #[(r 49),(r 49),(r 49)]
noncomputable def o36:Obj:=fiO (.type "builtin_function_or_method") #[(.builtin "object.__init_subclass__"),(r 49)]
noncomputable def o37 (P:Params):Obj:=diO (.type "dict") #[(en P "__name__" 165 (vS "roundmill.errors" 187)),(en P "__doc__" 166 .none),(en P "__package__" 167 .none),(en P "__loader__" 168 (.builtin "__main__.__loader__#opaque")),(en P "__spec__" 169 .none),(en P "__annotations__" 170 (r 6)),(en P "__builtins__" 171 (r 4)),(en P "__file__" 173 (c 172)),(en P "__cached__" 174 .none),(en P "MillError" 206 (r 24)),(en P "NoBits" 222 (r 37)),(en P "NotFinite" 238 (r 49)),(en P "NoWay" 254 (r 61))] 13
noncomputable def o38:Obj:=fiO .none #[(z 2),(z 0),(r 20),(z 4),(z 0),(r 33),(z 6),(z 0),(r 45),(z 8),(z 0),(r 57)]
noncomputable def o39:Obj:=(Obj.mk (.type "type") none (Data.cls (ClassData.mk "MillError" [(.type "ValueError")] [(r 24),(.type "ValueError"),(.type "Exception"),(.type "BaseException"),(.type "object")] 23 "MillError" true [] [(r 37),(r 49),(r 61)] false none false)) #[(some (r 15)),none,(some (vS "MillError" 189)),(some (vS "MillError" 197)),(some (.builtin "ValueError.__new__")),(some (.bool true))])
noncomputable def o40 (P:Params):Obj:=diO (.type "dict") #[(en P "__module__" 246 (vS "roundmill.errors" 187)),(en P "__qualname__" 248 (vS "NoWay" 247)),(en P "__firstlineno__" 250 (vI 8 249)),(en P "__static_attributes__" 251 (r 59))] 4
noncomputable def o41:Obj:=fiO (.type "code") #[(vS "NoWay" 241),(vS "NoWay" 242),(c 243),(z 8),(z 0),(z 0),(z 0),(z 0),(r 55),(.bool false),(z 181),(r 56),.none,.none,.none,.none,(z 244),(z 8),(c 245)]
noncomputable def o42:Obj:=(Obj.mk (.type "frame") none Data.plain #[(some (r 57)),(some (r 3)),(some (r 54)),none,(some (vS "roundmill.errors" 187)),none,(some (r 0))])
noncomputable def o43 (P:Params):Obj:=diO (.type "dict") #[(en P "__module__" 246 (vS "roundmill.errors" 187)),(en P "__firstlineno__" 250 (vI 8 249)),(en P "__static_attributes__" 251 (r 59)),(en P "__doc__" 252 .none)] 2
noncomputable def o44:Obj:=(Obj.mk (.type "type") none (Data.cls (ClassData.mk "NoWay" [(r 24)] [(r 61),(r 24),(.type "ValueError"),(.type "Exception"),(.type "BaseException"),(.type "object")] 60 "NoWay" true [] [] false none false)) #[(some (r 52)),none,(some (vS "NoWay" 239)),(some (vS "NoWay" 247)),(some (.builtin "ValueError.__new__")),(some (.bool true))])
noncomputable def o45:Obj:=fiO (.type "super") #[(r 61),(r 61),(r 61)]
noncomputable def o46:Obj:=fiO (.type "builtin_function_or_method") #[(.builtin "object.__init_subclass__"),(r 61)]
noncomputable def o47 (P:Params):Obj:=diO (.type "dict") #[(en P "__name__" 165 (vS "roundmill.errors" 187)),(en P "__doc__" 166 .none),(en P "__package__" 167 .none),(en P "__loader__" 168 (.builtin "__main__.__loader__#opaque")),(en P "__spec__" 169 .none),(en P "__annotations__" 170 (r 6)),(en P "__builtins__" 171 (r 4)),(en P "__file__" 173 (c 172)),(en P "__cached__" 174 .none),(en P "MillError" 206 (r 24)),(en P "NoBits" 222 (r 37)),(en P "NotFinite" 238 (r 49)),(en P "NoWay" 254 (r 61)),(en P "NoFraction" 270 (r 73))] 14
noncomputable def o48:Obj:=fiO .none #[(z 2),(z 0),(r 20),(z 4),(z 0),(r 33),(z 6),(z 0),(r 45),(z 8),(z 0),(r 57),(z 10),(z 0),(r 69)]
noncomputable def o49:Obj:=(Obj.mk (.type "type") none (Data.cls (ClassData.mk "MillError" [(.type "ValueError")] [(r 24),(.type "ValueError"),(.type "Exception"),(.type "BaseException"),(.type "object")] 23 "MillError" true [] [(r 37),(r 49),(r 61),(r 73)] false none false)) #[(some (r 15)),none,(some (vS "MillError" 189)),(some (vS "MillError" 197)),(some (.builtin "ValueError.__new__")),(some (.bool true))])
noncomputable def o50 (P:Params):Obj:=diO (.type "dict") #[(en P "__module__" 262 (vS "roundmill.errors" 187)),(en P "__qualname__" 264 (vS "NoFraction" 263)),(en P "__firstlineno__" 266 (vI 10 265)),(en P "__static_attributes__" 267 (r 71))] 4
noncomputable def o51:Obj:=fiO (.type "code") #[(vS "NoFraction" 257),(vS "NoFraction" 258),(c 259),(z 10),(z 0),(z 0),(z 0),(z 0),(r 67),(.bool false),(z 181),(r 68),.none,.none,.none,.none,(z 260),(z 10),(c 261)]
noncomputable def o52:Obj:=(Obj.mk (.type "frame") none Data.plain #[(some (r 69)),(some (r 3)),(some (r 66)),none,(some (vS "roundmill.errors" 187)),none,(some (r 0))])
noncomputable def o53 (P:Params):Obj:=diO (.type "dict") #[(en P "__module__" 262 (vS "roundmill.errors" 187)),(en P "__firstlineno__" 266 (vI 10 265)),(en P "__static_attributes__" 267 (r 71)),(en P "__doc__" 268 .none)] 2
noncomputable def o54:Obj:=(Obj.mk (.type "type") none (Data.cls (ClassData.mk "NoFraction" [(r 24)] [(r 73),(r 24),(.type "ValueError"),(.type "Exception"),(.type "BaseException"),(.type "object")] 72 "NoFraction" true [] [] false none false)) #[(some (r 64)),none,(some (vS "NoFraction" 255)),(some (vS "NoFraction" 263)),(some (.builtin "ValueError.__new__")),(some (.bool true))])
noncomputable def o55:Obj:=fiO (.type "super") #[(r 73),(r 73),(r 73)]
noncomputable def o56:Obj:=fiO (.type "builtin_function_or_method") #[(.builtin "object.__init_subclass__"),(r 73)]
noncomputable def o57 (P:Params):Obj:=diO (.type "dict") #[(en P "__name__" 165 (vS "roundmill.sizes" 287)),(en P "__doc__" 166 .none),(en P "__package__" 167 .none),(en P "__loader__" 168 (.builtin "__main__.__loader__#opaque")),(en P "__spec__" 169 .none),(en P "__annotations__" 170 (r 6)),(en P "__builtins__" 171 (r 4)),(en P "__file__" 173 (c 172)),(en P "__cached__" 174 .none),(en P "MillError" 206 (r 24)),(en P "NoBits" 222 (r 37)),(en P "NotFinite" 238 (r 49)),(en P "NoWay" 254 (r 61)),(en P "NoFraction" 270 (r 73)),(en P "NoText" 286 (r 85)),(en P "width" 295 (r 94)),(en P "bias" 302 (r 101)),(en P "low" 309 (r 108)),(en P "sign_bit" 316 (r 115)),(en P "last_field" 323 (r 122)),(en P "endless" 330 (r 129))] 21
noncomputable def o58:Obj:=fiO .none #[(z 2),(z 0),(r 20),(z 4),(z 0),(r 33),(z 6),(z 0),(r 45),(z 8),(z 0),(r 57),(z 10),(z 0),(r 69),(z 12),(z 0),(r 81),(z 15),(z 0),(r 93),(z 17),(z 0),(r 100),(z 19),(z 0),(r 107),(z 21),(z 0),(r 114),(z 23),(z 0),(r 121),(z 25),(z 0),(r 128)]
noncomputable def o59:Obj:=(Obj.mk (.type "type") none (Data.cls (ClassData.mk "MillError" [(.type "ValueError")] [(r 24),(.type "ValueError"),(.type "Exception"),(.type "BaseException"),(.type "object")] 23 "MillError" true [] [(r 37),(r 49),(r 61),(r 73),(r 85)] false none false)) #[(some (r 15)),none,(some (vS "MillError" 189)),(some (vS "MillError" 197)),(some (.builtin "ValueError.__new__")),(some (.bool true))])
noncomputable def o60 (P:Params):Obj:=diO (.type "dict") #[(en P "__module__" 278 (vS "roundmill.errors" 187)),(en P "__qualname__" 280 (vS "NoText" 279)),(en P "__firstlineno__" 282 (vI 12 281)),(en P "__static_attributes__" 283 (r 83))] 4
noncomputable def o61:Obj:=fiO (.type "code") #[(vS "NoText" 273),(vS "NoText" 274),(c 275),(z 12),(z 0),(z 0),(z 0),(z 0),(r 79),(.bool false),(z 181),(r 80),.none,.none,.none,.none,(z 276),(z 12),(c 277)]
noncomputable def o62:Obj:=(Obj.mk (.type "frame") none Data.plain #[(some (r 81)),(some (r 3)),(some (r 78)),none,(some (vS "roundmill.errors" 187)),none,(some (r 0))])
noncomputable def o63 (P:Params):Obj:=diO (.type "dict") #[(en P "__module__" 278 (vS "roundmill.errors" 187)),(en P "__firstlineno__" 282 (vI 12 281)),(en P "__static_attributes__" 283 (r 83)),(en P "__doc__" 284 .none)] 2
noncomputable def o64:Obj:=(Obj.mk (.type "type") none (Data.cls (ClassData.mk "NoText" [(r 24)] [(r 85),(r 24),(.type "ValueError"),(.type "Exception"),(.type "BaseException"),(.type "object")] 84 "NoText" true [] [] false none false)) #[(some (r 76)),none,(some (vS "NoText" 271)),(some (vS "NoText" 279)),(some (.builtin "ValueError.__new__")),(some (.bool true))])
noncomputable def o65:Obj:=fiO (.type "super") #[(r 85),(r 85),(r 85)]
noncomputable def o66:Obj:=fiO (.type "builtin_function_or_method") #[(.builtin "object.__init_subclass__"),(r 85)]
noncomputable def o67:Obj:=sqO (.type "tuple") #[(vS "size" 292)]
noncomputable def o68:Obj:=fnO .none "width" "width" (T.top 8) 0 [] .none .none .none .none none .none .none 0
noncomputable def o69:Obj:=fiO (.type "code") #[(vS "width" 289),(vS "width" 290),(c 291),(z 15),(z 1),(z 0),(z 0),(z 3),(r 88),(.bool true),(z 181),(r 89),.none,(r 90),(r 91),(r 92),(z 293),(z 15),(c 294)]
noncomputable def o70:Obj:=fnO (.type "function") "width" "width" (T.top 8) 3 [] .none .none .none (vS "roundmill.sizes" 287) none (r 93) .none 0
noncomputable def o71:Obj:=sqO (.type "tuple") #[(vS "size" 299)]
noncomputable def o72:Obj:=fnO .none "bias" "bias" (T.top 9) 0 [] .none .none .none .none none .none .none 0
noncomputable def o73:Obj:=fiO (.type "code") #[(vS "bias" 296),(vS "bias" 297),(c 298),(z 17),(z 1),(z 0),(z 0),(z 3),(r 95),(.bool true),(z 181),(r 96),.none,(r 97),(r 98),(r 99),(z 300),(z 17),(c 301)]
noncomputable def o74:Obj:=fnO (.type "function") "bias" "bias" (T.top 9) 3 [] .none .none .none (vS "roundmill.sizes" 287) none (r 100) .none 0
noncomputable def o75:Obj:=sqO (.type "tuple") #[(vS "size" 306)]
noncomputable def o76:Obj:=fnO .none "low" "low" (T.top 10) 0 [] .none .none .none .none none .none .none 0
noncomputable def o77:Obj:=fiO (.type "code") #[(vS "low" 303),(vS "low" 304),(c 305),(z 19),(z 1),(z 0),(z 0),(z 3),(r 102),(.bool true),(z 181),(r 103),.none,(r 104),(r 105),(r 106),(z 307),(z 19),(c 308)]
noncomputable def o78:Obj:=fnO (.type "function") "low" "low" (T.top 10) 3 [] .none .none .none (vS "roundmill.sizes" 287) none (r 107) .none 0
noncomputable def o79:Obj:=sqO (.type "tuple") #[(vS "size" 313)]
noncomputable def o80:Obj:=fnO .none "sign_bit" "sign_bit" (T.top 11) 0 [] .none .none .none .none none .none .none 0
noncomputable def o81:Obj:=fiO (.type "code") #[(vS "sign_bit" 310),(vS "sign_bit" 311),(c 312),(z 21),(z 1),(z 0),(z 0),(z 3),(r 109),(.bool true),(z 181),(r 110),.none,(r 111),(r 112),(r 113),(z 314),(z 21),(c 315)]
noncomputable def o82:Obj:=fnO (.type "function") "sign_bit" "sign_bit" (T.top 11) 3 [] .none .none .none (vS "roundmill.sizes" 287) none (r 114) .none 0
noncomputable def o83:Obj:=sqO (.type "tuple") #[(vS "size" 320)]
noncomputable def o84:Obj:=fnO .none "last_field" "last_field" (T.top 12) 0 [] .none .none .none .none none .none .none 0
noncomputable def o85:Obj:=fiO (.type "code") #[(vS "last_field" 317),(vS "last_field" 318),(c 319),(z 23),(z 1),(z 0),(z 0),(z 3),(r 116),(.bool true),(z 181),(r 117),.none,(r 118),(r 119),(r 120),(z 321),(z 23),(c 322)]
noncomputable def o86:Obj:=fnO (.type "function") "last_field" "last_field" (T.top 12) 3 [] .none .none .none (vS "roundmill.sizes" 287) none (r 121) .none 0
noncomputable def o87:Obj:=sqO (.type "tuple") #[(vS "size" 327)]
noncomputable def o88:Obj:=fnO .none "endless" "endless" (T.top 13) 0 [] .none .none .none .none none .none .none 0
noncomputable def o89:Obj:=fiO (.type "code") #[(vS "endless" 324),(vS "endless" 325),(c 326),(z 25),(z 1),(z 0),(z 0),(z 3),(r 123),(.bool true),(z 181),(r 124),.none,(r 125),(r 126),(r 127),(z 328),(z 25),(c 329)]
noncomputable def o90:Obj:=fnO (.type "function") "endless" "endless" (T.top 13) 3 [] .none .none .none (vS "roundmill.sizes" 287) none (r 128) .none 0
noncomputable def o91 (P:Params):Obj:=diO (.type "dict") #[(en P "__name__" 165 (vS "roundmill.parts" 395)),(en P "__doc__" 166 .none),(en P "__package__" 167 .none),(en P "__loader__" 168 (.builtin "__main__.__loader__#opaque")),(en P "__spec__" 169 .none),(en P "__annotations__" 170 (r 6)),(en P "__builtins__" 171 (r 4)),(en P "__file__" 173 (c 172)),(en P "__cached__" 174 .none),(en P "MillError" 206 (r 24)),(en P "NoBits" 222 (r 37)),(en P "NotFinite" 238 (r 49)),(en P "NoWay" 254 (r 61)),(en P "NoFraction" 270 (r 73)),(en P "NoText" 286 (r 85)),(en P "width" 295 (r 94)),(en P "bias" 302 (r 101)),(en P "low" 309 (r 108)),(en P "sign_bit" 316 (r 115)),(en P "last_field" 323 (r 122)),(en P "endless" 330 (r 129)),(en P "no_number" 337 (r 136)),(en P "check_fraction" 347 (r 143)),(en P "scaled" 356 (r 150)),(en P "height" 366 (r 157)),(en P "rest_by_middle" 375 (r 164)),(en P "rest_of" 383 (r 171)),(en P "cut" 394 (r 178)),(en P "parted" 406 (r 185)),(en P "kind" 417 (r 192)),(en P "worth" 429 (r 199)),(en P "worth_fraction" 438 (r 206)),(en P "fraction" 446 (r 213))] 33
noncomputable def o92:Obj:=fiO .none #[(z 2),(z 0),(r 20),(z 4),(z 0),(r 33),(z 6),(z 0),(r 45),(z 8),(z 0),(r 57),(z 10),(z 0),(r 69),(z 12),(z 0),(r 81),(z 15),(z 0),(r 93),(z 17),(z 0),(r 100),(z 19),(z 0),(r 107),(z 21),(z 0),(r 114),(z 23),(z 0),(r 121),(z 25),(z 0),(r 128),(z 27),(z 0),(r 135),(z 30),(z 0),(r 142),(z 33),(z 0),(r 149),(z 37),(z 0),(r 156),(z 41),(z 0),(r 163),(z 47),(z 0),(r 170),(z 49),(z 0),(r 177),(z 57),(z 0),(r 184),(z 63),(z 0),(r 191),(z 72),(z 0),(r 198),(z 82),(z 0),(r 205),(z 88),(z 0),(r 212)]
noncomputable def o93:Obj:=sqO (.type "tuple") #[(vS "size" 334)]
noncomputable def o94:Obj:=fnO .none "no_number" "no_number" (T.top 14) 0 [] .none .none .none .none none .none .none 0
noncomputable def o95:Obj:=fiO (.type "code") #[(vS "no_number" 331),(vS "no_number" 332),(c 333),(z 27),(z 1),(z 0),(z 0),(z 3),(r 130),(.bool true),(z 181),(r 131),.none,(r 132),(r 133),(r 134),(z 335),(z 27),(c 336)]
noncomputable def o96:Obj:=fnO (.type "function") "no_number" "no_number" (T.top 14) 3 [] .none .none .none (vS "roundmill.sizes" 287) none (r 135) .none 0
noncomputable def o97:Obj:=sqO (.type "tuple") #[(vS "top" 343),(vS "bottom" 344)]
noncomputable def o98:Obj:=fnO .none "check_fraction" "check_fraction" (T.top 16) 0 [] .none .none .none .none none .none .none 0
noncomputable def o99:Obj:=fiO (.type "code") #[(vS "check_fraction" 340),(vS "check_fraction" 341),(c 342),(z 30),(z 2),(z 0),(z 0),(z 3),(r 137),(.bool true),(z 181),(r 138),.none,(r 139),(r 140),(r 141),(z 345),(z 30),(c 346)]
noncomputable def Pr:Obj:=fnO (.type "function") "check_fraction" "check_fraction" (T.top 16) 3 [] .none .none .none (vS "roundmill.cutting" 338) none (r 142) .none 0
noncomputable def Pq:Obj:=sqO (.type "tuple") #[(vS "top" 351),(vS "bottom" 352),(vS "power" 353)]
noncomputable def R5:Obj:=fnO .none "scaled" "scaled" (T.top 17) 0 [] .none .none .none .none none .none .none 0
noncomputable def Pp:Obj:=fiO (.type "code") #[(vS "scaled" 348),(vS "scaled" 349),(c 350),(z 33),(z 3),(z 0),(z 0),(z 3),(r 144),(.bool true),(z 181),(r 145),.none,(r 146),(r 147),(r 148),(z 354),(z 33),(c 355)]
noncomputable def Po:Obj:=fnO (.type "function") "scaled" "scaled" (T.top 17) 3 [] .none .none .none (vS "roundmill.cutting" 338) none (r 149) .none 0
noncomputable def Pn:Obj:=sqO (.type "tuple") #[(vS "top" 360),(vS "bottom" 361),(vS "guess" 362),(vS "parts" 363)]
noncomputable def R3:Obj:=fnO .none "height" "height" (T.top 18) 0 [] .none .none .none .none none .none .none 0
noncomputable def Pm:Obj:=fiO (.type "code") #[(vS "height" 357),(vS "height" 358),(c 359),(z 37),(z 2),(z 0),(z 0),(z 3),(r 151),(.bool true),(z 181),(r 152),.none,(r 153),(r 154),(r 155),(z 364),(z 37),(c 365)]
noncomputable def Pk:Obj:=fnO (.type "function") "height" "height" (T.top 18) 3 [] .none .none .none (vS "roundmill.cutting" 338) none (r 156) .none 0
noncomputable def Pj:Obj:=sqO (.type "tuple") #[(vS "over" 370),(vS "number" 371),(vS "middle" 372)]
noncomputable def R1:Obj:=fnO .none "rest_by_middle" "rest_by_middle" (T.top 19) 0 [] .none .none .none .none none .none .none 0
noncomputable def Ph:Obj:=fiO (.type "code") #[(vS "rest_by_middle" 367),(vS "rest_by_middle" 368),(c 369),(z 41),(z 3),(z 0),(z 0),(z 3),(r 158),(.bool true),(z 181),(r 159),.none,(r 160),(r 161),(r 162),(z 373),(z 41),(c 374)]
noncomputable def Pg:Obj:=fnO (.type "function") "rest_by_middle" "rest_by_middle" (T.top 19) 3 [] .none .none .none (vS "roundmill.cutting" 338) none (r 163) .none 0
noncomputable def Pf:Obj:=sqO (.type "tuple") #[(vS "over" 379),(vS "step" 380)]
noncomputable def R0:Obj:=fnO .none "rest_of" "rest_of" (T.top 20) 0 [] .none .none .none .none none .none .none 0
noncomputable def Pe:Obj:=fiO (.type "code") #[(vS "rest_of" 376),(vS "rest_of" 377),(c 378),(z 47),(z 2),(z 0),(z 0),(z 3),(r 165),(.bool true),(z 181),(r 166),.none,(r 167),(r 168),(r 169),(z 381),(z 47),(c 382)]
noncomputable def Pd:Obj:=fnO (.type "function") "rest_of" "rest_of" (T.top 20) 3 [] .none .none .none (vS "roundmill.cutting" 338) none (r 170) .none 0
noncomputable def Pc:Obj:=sqO (.type "tuple") #[(vS "size" 387),(vS "top" 388),(vS "bottom" 389),(vS "power" 390),(vS "parts" 391)]
noncomputable def RZ:Obj:=fnO .none "cut" "cut" (T.top 21) 0 [] .none .none .none .none none .none .none 0
noncomputable def Pa:Obj:=fiO (.type "code") #[(vS "cut" 384),(vS "cut" 385),(c 386),(z 49),(z 3),(z 0),(z 0),(z 3),(r 172),(.bool true),(z 181),(r 173),.none,(r 174),(r 175),(r 176),(z 392),(z 49),(c 393)]
noncomputable def O9:Obj:=fnO (.type "function") "cut" "cut" (T.top 21) 3 [] .none .none .none (vS "roundmill.cutting" 338) none (r 177) .none 0
noncomputable def O8:Obj:=sqO (.type "tuple") #[(vS "size" 400),(vS "bits" 401),(vS "code" 402),(vS "step" 403)]
noncomputable def RY:Obj:=fnO .none "parted" "parted" (T.top 23) 0 [] .none .none .none .none none .none .none 0
noncomputable def O7:Obj:=fiO (.type "code") #[(vS "parted" 397),(vS "parted" 398),(c 399),(z 57),(z 2),(z 0),(z 0),(z 3),(r 179),(.bool true),(z 181),(r 180),.none,(r 181),(r 182),(r 183),(z 404),(z 57),(c 405)]
noncomputable def O6:Obj:=fnO (.type "function") "parted" "parted" (T.top 23) 3 [] .none .none .none (vS "roundmill.parts" 395) none (r 184) .none 0
noncomputable def O5:Obj:=sqO (.type "tuple") #[(vS "size" 410),(vS "bits" 411),(vS "parts" 412),(vS "field" 413),(vS "figures" 414)]
noncomputable def RX:Obj:=fnO .none "kind" "kind" (T.top 24) 0 [] .none .none .none .none none .none .none 0
noncomputable def O4:Obj:=fiO (.type "code") #[(vS "kind" 407),(vS "kind" 408),(c 409),(z 63),(z 2),(z 0),(z 0),(z 3),(r 186),(.bool true),(z 181),(r 187),.none,(r 188),(r 189),(r 190),(z 415),(z 63),(c 416)]
noncomputable def O3:Obj:=fnO (.type "function") "kind" "kind" (T.top 24) 3 [] .none .none .none (vS "roundmill.parts" 395) none (r 191) .none 0
noncomputable def O0:Obj:=sqO (.type "tuple") #[(vS "size" 421),(vS "bits" 422),(vS "parts" 423),(vS "sign" 424),(vS "field" 425),(vS "figures" 426)]
noncomputable def RW:Obj:=fnO .none "worth" "worth" (T.top 25) 0 [] .none .none .none .none none .none .none 0
noncomputable def OZ:Obj:=fiO (.type "code") #[(vS "worth" 418),(vS "worth" 419),(c 420),(z 72),(z 2),(z 0),(z 0),(z 3),(r 193),(.bool true),(z 181),(r 194),.none,(r 195),(r 196),(r 197),(z 427),(z 72),(c 428)]
noncomputable def OY:Obj:=fnO (.type "function") "worth" "worth" (T.top 25) 3 [] .none .none .none (vS "roundmill.parts" 395) none (r 198) .none 0
noncomputable def OX:Obj:=sqO (.type "tuple") #[(vS "value" 433),(vS "whole" 434),(vS "power" 435)]
noncomputable def RV:Obj:=fnO .none "worth_fraction" "worth_fraction" (T.top 26) 0 [] .none .none .none .none none .none .none 0
noncomputable def OW:Obj:=fiO (.type "code") #[(vS "worth_fraction" 430),(vS "worth_fraction" 431),(c 432),(z 82),(z 1),(z 0),(z 0),(z 3),(r 200),(.bool true),(z 181),(r 201),.none,(r 202),(r 203),(r 204),(z 436),(z 82),(c 437)]
noncomputable def OV:Obj:=fnO (.type "function") "worth_fraction" "worth_fraction" (T.top 26) 3 [] .none .none .none (vS "roundmill.parts" 395) none (r 205) .none 0
noncomputable def OU:Obj:=sqO (.type "tuple") #[(vS "size" 442),(vS "bits" 443)]
noncomputable def RU:Obj:=fnO .none "fraction" "fraction" (T.top 27) 0 [] .none .none .none .none none .none .none 0
noncomputable def OT:Obj:=fiO (.type "code") #[(vS "fraction" 439),(vS "fraction" 440),(c 441),(z 88),(z 2),(z 0),(z 0),(z 3),(r 207),(.bool true),(z 181),(r 208),.none,(r 209),(r 210),(r 211),(z 444),(z 88),(c 445)]
noncomputable def OS:Obj:=fnO (.type "function") "fraction" "fraction" (T.top 27) 3 [] .none .none .none (vS "roundmill.parts" 395) none (r 212) .none 0
noncomputable def RS (P:Params):Obj:=diO (.type "dict") #[(en P "__name__" 165 (vS "roundmill.ways" 462)),(en P "__doc__" 166 .none),(en P "__package__" 167 .none),(en P "__loader__" 168 (.builtin "__main__.__loader__#opaque")),(en P "__spec__" 169 .none),(en P "__annotations__" 170 (r 6)),(en P "__builtins__" 171 (r 4)),(en P "__file__" 173 (c 172)),(en P "__cached__" 174 .none),(en P "MillError" 206 (r 24)),(en P "NoBits" 222 (r 37)),(en P "NotFinite" 238 (r 49)),(en P "NoWay" 254 (r 61)),(en P "NoFraction" 270 (r 73)),(en P "NoText" 286 (r 85)),(en P "width" 295 (r 94)),(en P "bias" 302 (r 101)),(en P "low" 309 (r 108)),(en P "sign_bit" 316 (r 115)),(en P "last_field" 323 (r 122)),(en P "endless" 330 (r 129)),(en P "no_number" 337 (r 136)),(en P "check_fraction" 347 (r 143)),(en P "scaled" 356 (r 150)),(en P "height" 366 (r 157)),(en P "rest_by_middle" 375 (r 164)),(en P "rest_of" 383 (r 171)),(en P "cut" 394 (r 178)),(en P "parted" 406 (r 185)),(en P "kind" 417 (r 192)),(en P "worth" 429 (r 199)),(en P "worth_fraction" 438 (r 206)),(en P "fraction" 446 (r 213)),(en P "signed" 455 (r 220)),(en P "INEXACT" 457 (vI 1 456)),(en P "SMALL" 459 (vI 2 458)),(en P "GREAT" 461 (vI 4 460)),(en P "NAMES" 469 (r 221))] 38
noncomputable def RR:Obj:=fiO .none #[(z 2),(z 0),(r 20),(z 4),(z 0),(r 33),(z 6),(z 0),(r 45),(z 8),(z 0),(r 57),(z 10),(z 0),(r 69),(z 12),(z 0),(r 81),(z 15),(z 0),(r 93),(z 17),(z 0),(r 100),(z 19),(z 0),(r 107),(z 21),(z 0),(r 114),(z 23),(z 0),(r 121),(z 25),(z 0),(r 128),(z 27),(z 0),(r 135),(z 30),(z 0),(r 142),(z 33),(z 0),(r 149),(z 37),(z 0),(r 156),(z 41),(z 0),(r 163),(z 47),(z 0),(r 170),(z 49),(z 0),(r 177),(z 57),(z 0),(r 184),(z 63),(z 0),(r 191),(z 72),(z 0),(r 198),(z 82),(z 0),(r 205),(z 88),(z 0),(r 212),(z 90),(z 0),(r 219)]
noncomputable def OR:Obj:=sqO (.type "tuple") #[(vS "size" 450),(vS "sign" 451),(vS "code" 452)]
noncomputable def RP:Obj:=fnO .none "signed" "signed" (T.top 28) 0 [] .none .none .none .none none .none .none 0
noncomputable def OP:Obj:=fiO (.type "code") #[(vS "signed" 447),(vS "signed" 448),(c 449),(z 90),(z 3),(z 0),(z 0),(z 3),(r 214),(.bool true),(z 181),(r 215),.none,(r 216),(r 217),(r 218),(z 453),(z 90),(c 454)]
noncomputable def OO:Obj:=fnO (.type "function") "signed" "signed" (T.top 28) 3 [] .none .none .none (vS "roundmill.parts" 395) none (r 219) .none 0
noncomputable def ON:Obj:=sqO (.type "tuple") #[(vS "even" 464),(vS "away" 465),(vS "nought" 466),(vS "up" 467),(vS "down" 468)]
noncomputable def RO (P:Params):Obj:=diO (.type "dict") #[(en P "__name__" 165 (vS "roundmill.rounding" 532)),(en P "__doc__" 166 .none),(en P "__package__" 167 .none),(en P "__loader__" 168 (.builtin "__main__.__loader__#opaque")),(en P "__spec__" 169 .none),(en P "__annotations__" 170 (r 6)),(en P "__builtins__" 171 (r 4)),(en P "__file__" 173 (c 172)),(en P "__cached__" 174 .none),(en P "MillError" 206 (r 24)),(en P "NoBits" 222 (r 37)),(en P "NotFinite" 238 (r 49)),(en P "NoWay" 254 (r 61)),(en P "NoFraction" 270 (r 73)),(en P "NoText" 286 (r 85)),(en P "width" 295 (r 94)),(en P "bias" 302 (r 101)),(en P "low" 309 (r 108)),(en P "sign_bit" 316 (r 115)),(en P "last_field" 323 (r 122)),(en P "endless" 330 (r 129)),(en P "no_number" 337 (r 136)),(en P "check_fraction" 347 (r 143)),(en P "scaled" 356 (r 150)),(en P "height" 366 (r 157)),(en P "rest_by_middle" 375 (r 164)),(en P "rest_of" 383 (r 171)),(en P "cut" 394 (r 178)),(en P "parted" 406 (r 185)),(en P "kind" 417 (r 192)),(en P "worth" 429 (r 199)),(en P "worth_fraction" 438 (r 206)),(en P "fraction" 446 (r 213)),(en P "signed" 455 (r 220)),(en P "INEXACT" 457 (vI 1 456)),(en P "SMALL" 459 (vI 2 458)),(en P "GREAT" 461 (vI 4 460)),(en P "NAMES" 469 (r 221)),(en P "Way" 524 (r 259)),(en P "way_of" 531 (r 270)),(en P "settled" 549 (r 277))] 41
noncomputable def RN:Obj:=fiO .none #[(z 2),(z 0),(r 20),(z 4),(z 0),(r 33),(z 6),(z 0),(r 45),(z 8),(z 0),(r 57),(z 10),(z 0),(r 69),(z 12),(z 0),(r 81),(z 15),(z 0),(r 93),(z 17),(z 0),(r 100),(z 19),(z 0),(r 107),(z 21),(z 0),(r 114),(z 23),(z 0),(r 121),(z 25),(z 0),(r 128),(z 27),(z 0),(r 135),(z 30),(z 0),(r 142),(z 33),(z 0),(r 149),(z 37),(z 0),(r 156),(z 41),(z 0),(r 163),(z 47),(z 0),(r 170),(z 49),(z 0),(r 177),(z 57),(z 0),(r 184),(z 63),(z 0),(r 191),(z 72),(z 0),(r 198),(z 82),(z 0),(r 205),(z 88),(z 0),(r 212),(z 90),(z 0),(r 219),(z 97),(z 0),(r 227),(z 120),(z 0),(r 269),(z 125),(z 0),(r 276)]
noncomputable def RM (P:Params):Obj:=diO (.type "dict") #[(en P "__module__" 477 (vS "roundmill.ways" 462)),(en P "__qualname__" 479 (vS "Way" 478)),(en P "__firstlineno__" 481 (vI 97 480)),(en P "__init__" 489 (r 235)),(en P "grows" 499 (r 242)),(en P "bursts" 507 (r 249)),(en P "flees_nought" 515 (r 256)),(en P "__static_attributes__" 517 (r 257))] 8
noncomputable def RL:Obj:=fiO .none #[(z 99),(z 4),(r 234),(z 102),(z 4),(r 241),(z 111),(z 4),(r 248),(z 116),(z 4),(r 255)]
noncomputable def RK:Obj:=fiO (.type "code") #[(vS "Way" 472),(vS "Way" 473),(c 474),(z 97),(z 0),(z 0),(z 0),(z 0),(r 225),(.bool false),(z 181),(r 226),.none,.none,.none,.none,(z 475),(z 97),(c 476)]
noncomputable def RJ:Obj:=(Obj.mk (.type "frame") none Data.plain #[(some (r 227)),(some (r 3)),(some (r 224)),none,(some (vS "roundmill.ways" 462)),none,(some (r 0))])
noncomputable def OM:Obj:=sqO (.type "tuple") #[(vS "self" 485),(vS "name" 486)]
noncomputable def RH:Obj:=fnO .none "__init__" "Way.__init__" ((dE (T.top 34)).getD 0 (.Pass ⟨0,0,0,0⟩)) 0 [] .none .none .none .none none .none .none 0
noncomputable def OL:Obj:=fiO (.type "code") #[(vS "__init__" 482),(vS "Way.__init__" 483),(c 484),(z 99),(z 2),(z 0),(z 0),(z 3),(r 229),(.bool true),(z 181),(r 230),.none,(r 231),(r 232),(r 233),(z 487),(z 99),(c 488)]
noncomputable def OK:Obj:=fnO (.type "function") "__init__" "Way.__init__" ((dE (T.top 34)).getD 0 (.Pass ⟨0,0,0,0⟩)) 3 [] .none .none .none (vS "roundmill.ways" 462) none (r 234) .none 0
noncomputable def OJ:Obj:=sqO (.type "tuple") #[(vS "self" 493),(vS "sign" 494),(vS "odd" 495),(vS "rest" 496)]
noncomputable def RG:Obj:=fnO .none "grows" "Way.grows" ((dE (T.top 34)).getD 1 (.Pass ⟨0,0,0,0⟩)) 0 [] .none .none .none .none none .none .none 0
noncomputable def OI:Obj:=fiO (.type "code") #[(vS "grows" 490),(vS "Way.grows" 491),(c 492),(z 102),(z 4),(z 0),(z 0),(z 3),(r 236),(.bool true),(z 181),(r 237),.none,(r 238),(r 239),(r 240),(z 497),(z 102),(c 498)]
noncomputable def OH:Obj:=fnO (.type "function") "grows" "Way.grows" ((dE (T.top 34)).getD 1 (.Pass ⟨0,0,0,0⟩)) 3 [] .none .none .none (vS "roundmill.ways" 462) none (r 241) .none 0
noncomputable def OG:Obj:=sqO (.type "tuple") #[(vS "self" 503),(vS "sign" 504)]
noncomputable def RF:Obj:=fnO .none "bursts" "Way.bursts" ((dE (T.top 34)).getD 2 (.Pass ⟨0,0,0,0⟩)) 0 [] .none .none .none .none none .none .none 0
noncomputable def OF:Obj:=fiO (.type "code") #[(vS "bursts" 500),(vS "Way.bursts" 501),(c 502),(z 111),(z 2),(z 0),(z 0),(z 3),(r 243),(.bool true),(z 181),(r 244),.none,(r 245),(r 246),(r 247),(z 505),(z 111),(c 506)]
noncomputable def OE:Obj:=fnO (.type "function") "bursts" "Way.bursts" ((dE (T.top 34)).getD 2 (.Pass ⟨0,0,0,0⟩)) 3 [] .none .none .none (vS "roundmill.ways" 462) none (r 248) .none 0
noncomputable def OD:Obj:=sqO (.type "tuple") #[(vS "self" 511),(vS "sign" 512)]
noncomputable def RE:Obj:=fnO .none "flees_nought" "Way.flees_nought" ((dE (T.top 34)).getD 3 (.Pass ⟨0,0,0,0⟩)) 0 [] .none .none .none .none none .none .none 0
noncomputable def OC:Obj:=fiO (.type "code") #[(vS "flees_nought" 508),(vS "Way.flees_nought" 509),(c 510),(z 116),(z 2),(z 0),(z 0),(z 3),(r 250),(.bool true),(z 181),(r 251),.none,(r 252),(r 253),(r 254),(z 513),(z 116),(c 514)]
noncomputable def OB:Obj:=fnO (.type "function") "flees_nought" "Way.flees_nought" ((dE (T.top 34)).getD 3 (.Pass ⟨0,0,0,0⟩)) 3 [] .none .none .none (vS "roundmill.ways" 462) none (r 255) .none 0
noncomputable def OA:Obj:=sqO (.type "tuple") #[(vS "name" 516)]
noncomputable def Oz (P:Params):Obj:=diO (.type "dict") #[(en P "__module__" 477 (vS "roundmill.ways" 462)),(en P "__firstlineno__" 481 (vI 97 480)),(en P "__init__" 489 (r 235)),(en P "grows" 499 (r 242)),(en P "bursts" 507 (r 249)),(en P "flees_nought" 515 (r 256)),(en P "__static_attributes__" 517 (r 257)),(en P "__dict__" 519 (r 260)),(en P "__weakref__" 521 (r 261)),(en P "__doc__" 522 .none)] 4
noncomputable def Oy:Obj:=(Obj.mk (.type "type") none (Data.cls (ClassData.mk "Way" [(.type "object")] [(r 259),(.type "object")] 258 "Way" true [] [] false none false)) #[none,none,(some (vS "Way" 470)),(some (vS "Way" 478)),(some (.builtin "object.__new__")),(some (.bool true))])
noncomputable def Ox:Obj:=fiO (.type "getset_descriptor") #[(vS "__dict__" 518),(r 259),(.builtin "function.__dict__"),(.builtin "function.__dict__#set")]
noncomputable def Ow:Obj:=fiO (.type "getset_descriptor") #[(vS "__weakref__" 520),(r 259),(.builtin "ExceptionGroup.__weakref__"),.none]
noncomputable def RD:Obj:=fiO (.type "super") #[(r 259),(r 259),(r 259)]
noncomputable def RC:Obj:=fiO (.type "builtin_function_or_method") #[(.builtin "object.__init_subclass__"),(r 259)]
noncomputable def Ov:Obj:=sqO (.type "tuple") #[(vS "name" 528)]
noncomputable def RB:Obj:=fnO .none "way_of" "way_of" (T.top 35) 0 [] .none .none .none .none none .none .none 0
noncomputable def Ou:Obj:=fiO (.type "code") #[(vS "way_of" 525),(vS "way_of" 526),(c 527),(z 120),(z 1),(z 0),(z 0),(z 3),(r 264),(.bool true),(z 181),(r 265),.none,(r 266),(r 267),(r 268),(z 529),(z 120),(c 530)]
noncomputable def Ot:Obj:=fnO (.type "function") "way_of" "way_of" (T.top 35) 3 [] .none .none .none (vS "roundmill.ways" 462) none (r 269) .none 0
noncomputable def Oq:Obj:=sqO (.type "tuple") #[(vS "size" 537),(vS "way" 538),(vS "sign" 539),(vS "whole" 540),(vS "power" 541),(vS "rest" 542),(vS "chosen" 543),(vS "code" 544),(vS "end" 545),(vS "taken" 546)]
noncomputable def Rz:Obj:=fnO .none "settled" "settled" (T.top 37) 0 [] .none .none .none .none none .none .none 0
noncomputable def Oo:Obj:=fiO (.type "code") #[(vS "settled" 534),(vS "settled" 535),(c 536),(z 125),(z 6),(z 0),(z 0),(z 3),(r 271),(.bool true),(z 181),(r 272),.none,(r 273),(r 274),(r 275),(z 547),(z 125),(c 548)]
noncomputable def Om:Obj:=fnO (.type "function") "settled" "settled" (T.top 37) 3 [] .none .none .none (vS "roundmill.rounding" 532) none (r 276) .none 0
noncomputable def Ry (P:Params):Obj:=diO (.type "dict") #[(en P "__name__" 165 (vS "roundmill.writing" 648)),(en P "__doc__" 166 .none),(en P "__package__" 167 .none),(en P "__loader__" 168 (.builtin "__main__.__loader__#opaque")),(en P "__spec__" 169 .none),(en P "__annotations__" 170 (r 6)),(en P "__builtins__" 171 (r 4)),(en P "__file__" 173 (c 172)),(en P "__cached__" 174 .none),(en P "MillError" 206 (r 24)),(en P "NoBits" 222 (r 37)),(en P "NotFinite" 238 (r 49)),(en P "NoWay" 254 (r 61)),(en P "NoFraction" 270 (r 73)),(en P "NoText" 286 (r 85)),(en P "width" 295 (r 94)),(en P "bias" 302 (r 101)),(en P "low" 309 (r 108)),(en P "sign_bit" 316 (r 115)),(en P "last_field" 323 (r 122)),(en P "endless" 330 (r 129)),(en P "no_number" 337 (r 136)),(en P "check_fraction" 347 (r 143)),(en P "scaled" 356 (r 150)),(en P "height" 366 (r 157)),(en P "rest_by_middle" 375 (r 164)),(en P "rest_of" 383 (r 171)),(en P "cut" 394 (r 178)),(en P "parted" 406 (r 185)),(en P "kind" 417 (r 192)),(en P "worth" 429 (r 199)),(en P "worth_fraction" 438 (r 206)),(en P "fraction" 446 (r 213)),(en P "signed" 455 (r 220)),(en P "INEXACT" 457 (vI 1 456)),(en P "SMALL" 459 (vI 2 458)),(en P "GREAT" 461 (vI 4 460)),(en P "NAMES" 469 (r 221)),(en P "Way" 524 (r 259)),(en P "way_of" 531 (r 270)),(en P "settled" 549 (r 277)),(en P "lost_flags" 559 (r 284)),(en P "rounded" 571 (r 291)),(en P "LONGEST_LINE" 575 (vI 400 574)),(en P "LONGEST_EXPONENT" 577 (vI 4 576)),(en P "FIGURES" 579 (vS "0123456789" 578)),(en P "ten_to" 587 (r 298)),(en P "tenfold" 596 (r 305)),(en P "all_figures" 602 (r 310)),(en P "bare_line" 609 (r 317)),(en P "sign_and_word" 616 (r 324)),(en P "exponent_of" 624 (r 331)),(en P "spelled" 635 (r 338)),(en P "read" 647 (r 345)),(en P "reads_back" 661 (r 352))] 55
noncomputable def Rx:Obj:=fiO .none #[(z 2),(z 0),(r 20),(z 4),(z 0),(r 33),(z 6),(z 0),(r 45),(z 8),(z 0),(r 57),(z 10),(z 0),(r 69),(z 12),(z 0),(r 81),(z 15),(z 0),(r 93),(z 17),(z 0),(r 100),(z 19),(z 0),(r 107),(z 21),(z 0),(r 114),(z 23),(z 0),(r 121),(z 25),(z 0),(r 128),(z 27),(z 0),(r 135),(z 30),(z 0),(r 142),(z 33),(z 0),(r 149),(z 37),(z 0),(r 156),(z 41),(z 0),(r 163),(z 47),(z 0),(r 170),(z 49),(z 0),(r 177),(z 57),(z 0),(r 184),(z 63),(z 0),(r 191),(z 72),(z 0),(r 198),(z 82),(z 0),(r 205),(z 88),(z 0),(r 212),(z 90),(z 0),(r 219),(z 97),(z 0),(r 227),(z 120),(z 0),(r 269),(z 125),(z 0),(r 276),(z 136),(z 0),(r 283),(z 141),(z 0),(r 290),(z 149),(z 0),(r 297),(z 154),(z 0),(r 304),(z 158),(z 0),(r 309),(z 160),(z 0),(r 316),(z 164),(z 0),(r 323),(z 170),(z 0),(r 330),(z 175),(z 0),(r 337),(z 185),(z 0),(r 344),(z 196),(z 0),(r 351)]
noncomputable def Ol:Obj:=sqO (.type "tuple") #[(vS "size" 553),(vS "code" 554),(vS "taken" 555),(vS "faint" 556)]
noncomputable def Rw:Obj:=fnO .none "lost_flags" "lost_flags" (T.top 38) 0 [] .none .none .none .none none .none .none 0
noncomputable def Oj:Obj:=fiO (.type "code") #[(vS "lost_flags" 550),(vS "lost_flags" 551),(c 552),(z 136),(z 3),(z 0),(z 0),(z 3),(r 278),(.bool true),(z 181),(r 279),.none,(r 280),(r 281),(r 282),(z 557),(z 136),(c 558)]
noncomputable def Oi:Obj:=fnO (.type "function") "lost_flags" "lost_flags" (T.top 38) 3 [] .none .none .none (vS "roundmill.rounding" 532) none (r 283) .none 0
noncomputable def Oh:Obj:=sqO (.type "tuple") #[(vS "size" 563),(vS "way" 564),(vS "sign" 565),(vS "top" 566),(vS "bottom" 567),(vS "parts" 568)]
noncomputable def Rv:Obj:=fnO .none "rounded" "rounded" (T.top 39) 0 [] .none .none .none .none none .none .none 0
noncomputable def Og:Obj:=fiO (.type "code") #[(vS "rounded" 560),(vS "rounded" 561),(c 562),(z 141),(z 5),(z 0),(z 0),(z 3),(r 285),(.bool true),(z 181),(r 286),.none,(r 287),(r 288),(r 289),(z 569),(z 141),(c 570)]
noncomputable def Of:Obj:=fnO (.type "function") "rounded" "rounded" (T.top 39) 3 [] .none .none .none (vS "roundmill.rounding" 532) none (r 290) .none 0
noncomputable def Oe:Obj:=sqO (.type "tuple") #[(vS "number" 583),(vS "half" 584)]
noncomputable def Ru:Obj:=fnO .none "ten_to" "ten_to" (T.top 44) 0 [] .none .none .none .none none .none .none 0
noncomputable def Od:Obj:=fiO (.type "code") #[(vS "ten_to" 580),(vS "ten_to" 581),(c 582),(z 149),(z 1),(z 0),(z 0),(z 3),(r 292),(.bool true),(z 181),(r 293),.none,(r 294),(r 295),(r 296),(z 585),(z 149),(c 586)]
noncomputable def Oc:Obj:=fnO (.type "function") "ten_to" "ten_to" (T.top 44) 3 [] .none .none .none (vS "roundmill.reading" 572) none (r 297) .none 0
noncomputable def Ob:Obj:=sqO (.type "tuple") #[(vS "top" 591),(vS "bottom" 592),(vS "place" 593)]
noncomputable def Rt:Obj:=fnO .none "tenfold" "tenfold" (T.top 45) 0 [] .none .none .none .none none .none .none 0
noncomputable def Oa:Obj:=fiO (.type "code") #[(vS "tenfold" 588),(vS "tenfold" 589),(c 590),(z 154),(z 3),(z 0),(z 0),(z 3),(r 299),(.bool true),(z 181),(r 300),.none,(r 301),(r 302),(r 303),(z 594),(z 154),(c 595)]
noncomputable def N9:Obj:=fnO (.type "function") "tenfold" "tenfold" (T.top 45) 3 [] .none .none .none (vS "roundmill.reading" 572) none (r 304) .none 0
noncomputable def Rr:Obj:=fnO .none "all_figures" "all_figures" (T.top 46) 0 [] .none .none .none .none none .none .none 0
noncomputable def N8:Obj:=fiO (.type "code") #[(vS "all_figures" 597),(vS "all_figures" 598),(c 599),(z 158),(z 1),(z 0),(z 0),(z 3),(r 306),(.bool true),(z 181),(r 307),.none,.none,.none,(r 308),(z 600),(z 158),(c 601)]
noncomputable def N7:Obj:=fnO (.type "function") "all_figures" "all_figures" (T.top 46) 3 [] .none .none .none (vS "roundmill.reading" 572) none (r 309) .none 0
noncomputable def N6:Obj:=sqO (.type "tuple") #[(vS "line" 606)]
noncomputable def Rq:Obj:=fnO .none "bare_line" "bare_line" (T.top 47) 0 [] .none .none .none .none none .none .none 0
noncomputable def N5:Obj:=fiO (.type "code") #[(vS "bare_line" 603),(vS "bare_line" 604),(c 605),(z 160),(z 1),(z 0),(z 0),(z 3),(r 311),(.bool true),(z 181),(r 312),.none,(r 313),(r 314),(r 315),(z 607),(z 160),(c 608)]
noncomputable def N4:Obj:=fnO (.type "function") "bare_line" "bare_line" (T.top 47) 3 [] .none .none .none (vS "roundmill.reading" 572) none (r 316) .none 0
noncomputable def N3:Obj:=sqO (.type "tuple") #[(vS "word" 613)]
noncomputable def Rp:Obj:=fnO .none "sign_and_word" "sign_and_word" (T.top 48) 0 [] .none .none .none .none none .none .none 0
noncomputable def N2:Obj:=fiO (.type "code") #[(vS "sign_and_word" 610),(vS "sign_and_word" 611),(c 612),(z 164),(z 1),(z 0),(z 0),(z 3),(r 318),(.bool true),(z 181),(r 319),.none,(r 320),(r 321),(r 322),(z 614),(z 164),(c 615)]
noncomputable def N1:Obj:=fnO (.type "function") "sign_and_word" "sign_and_word" (T.top 48) 3 [] .none .none .none (vS "roundmill.reading" 572) none (r 323) .none 0
noncomputable def NZ:Obj:=sqO (.type "tuple") #[(vS "word" 620),(vS "parts" 621)]
noncomputable def Ro:Obj:=fnO .none "exponent_of" "exponent_of" (T.top 49) 0 [] .none .none .none .none none .none .none 0
noncomputable def NY:Obj:=fiO (.type "code") #[(vS "exponent_of" 617),(vS "exponent_of" 618),(c 619),(z 170),(z 1),(z 0),(z 0),(z 3),(r 325),(.bool true),(z 181),(r 326),.none,(r 327),(r 328),(r 329),(z 622),(z 170),(c 623)]
noncomputable def NX:Obj:=fnO (.type "function") "exponent_of" "exponent_of" (T.top 49) 3 [] .none .none .none (vS "roundmill.reading" 572) none (r 330) .none 0
noncomputable def NW:Obj:=sqO (.type "tuple") #[(vS "line" 628),(vS "start" 629),(vS "halves" 630),(vS "exponent" 631),(vS "body" 632)]
noncomputable def Rn:Obj:=fnO .none "spelled" "spelled" (T.top 50) 0 [] .none .none .none .none none .none .none 0
noncomputable def NV:Obj:=fiO (.type "code") #[(vS "spelled" 625),(vS "spelled" 626),(c 627),(z 175),(z 1),(z 0),(z 0),(z 3),(r 332),(.bool true),(z 181),(r 333),.none,(r 334),(r 335),(r 336),(z 633),(z 175),(c 634)]
noncomputable def NU:Obj:=fnO (.type "function") "spelled" "spelled" (T.top 50) 3 [] .none .none .none (vS "roundmill.reading" 572) none (r 337) .none 0
noncomputable def NT:Obj:=sqO (.type "tuple") #[(vS "size" 639),(vS "way" 640),(vS "line" 641),(vS "start" 642),(vS "spelling" 643),(vS "value" 644)]
noncomputable def Rm:Obj:=fnO .none "read" "read" (T.top 51) 0 [] .none .none .none .none none .none .none 0
noncomputable def NS:Obj:=fiO (.type "code") #[(vS "read" 636),(vS "read" 637),(c 638),(z 185),(z 3),(z 0),(z 0),(z 3),(r 339),(.bool true),(z 181),(r 340),.none,(r 341),(r 342),(r 343),(z 645),(z 185),(c 646)]
noncomputable def NR:Obj:=fnO (.type "function") "read" "read" (T.top 51) 3 [] .none .none .none (vS "roundmill.reading" 572) none (r 344) .none 0
noncomputable def NQ:Obj:=sqO (.type "tuple") #[(vS "size" 653),(vS "bits" 654),(vS "figures" 655),(vS "place" 656),(vS "sign" 657),(vS "value" 658)]
noncomputable def Rl:Obj:=fnO .none "reads_back" "reads_back" (T.top 53) 0 [] .none .none .none .none none .none .none 0
noncomputable def NP:Obj:=fiO (.type "code") #[(vS "reads_back" 650),(vS "reads_back" 651),(c 652),(z 196),(z 4),(z 0),(z 0),(z 3),(r 346),(.bool true),(z 181),(r 347),.none,(r 348),(r 349),(r 350),(z 659),(z 196),(c 660)]
noncomputable def NO:Obj:=fnO (.type "function") "reads_back" "reads_back" (T.top 53) 3 [] .none .none .none (vS "roundmill.writing" 648) none (r 351) .none 0
noncomputable def Rk (P:Params):Obj:=diO (.type "dict") #[(en P "__name__" 165 (vS "law_roundmill_k57_whole_shown_and_read" 757)),(en P "__doc__" 166 .none),(en P "__package__" 167 .none),(en P "__loader__" 168 (.builtin "__main__.__loader__#opaque")),(en P "__spec__" 169 .none),(en P "__annotations__" 170 (r 6)),(en P "__builtins__" 171 (r 4)),(en P "__file__" 173 (c 172)),(en P "__cached__" 174 .none),(en P "MillError" 206 (r 24)),(en P "NoBits" 222 (r 37)),(en P "NotFinite" 238 (r 49)),(en P "NoWay" 254 (r 61)),(en P "NoFraction" 270 (r 73)),(en P "NoText" 286 (r 85)),(en P "width" 295 (r 94)),(en P "bias" 302 (r 101)),(en P "low" 309 (r 108)),(en P "sign_bit" 316 (r 115)),(en P "last_field" 323 (r 122)),(en P "endless" 330 (r 129)),(en P "no_number" 337 (r 136)),(en P "check_fraction" 347 (r 143)),(en P "scaled" 356 (r 150)),(en P "height" 366 (r 157)),(en P "rest_by_middle" 375 (r 164)),(en P "rest_of" 383 (r 171)),(en P "cut" 394 (r 178)),(en P "parted" 406 (r 185)),(en P "kind" 417 (r 192)),(en P "worth" 429 (r 199)),(en P "worth_fraction" 438 (r 206)),(en P "fraction" 446 (r 213)),(en P "signed" 455 (r 220)),(en P "INEXACT" 457 (vI 1 456)),(en P "SMALL" 459 (vI 2 458)),(en P "GREAT" 461 (vI 4 460)),(en P "NAMES" 469 (r 221)),(en P "Way" 524 (r 259)),(en P "way_of" 531 (r 270)),(en P "settled" 549 (r 277)),(en P "lost_flags" 559 (r 284)),(en P "rounded" 571 (r 291)),(en P "LONGEST_LINE" 575 (vI 400 574)),(en P "LONGEST_EXPONENT" 577 (vI 4 576)),(en P "FIGURES" 579 (vS "0123456789" 578)),(en P "ten_to" 587 (r 298)),(en P "tenfold" 596 (r 305)),(en P "all_figures" 602 (r 310)),(en P "bare_line" 609 (r 317)),(en P "sign_and_word" 616 (r 324)),(en P "exponent_of" 624 (r 331)),(en P "spelled" 635 (r 338)),(en P "read" 647 (r 345)),(en P "reads_back" 661 (r 352)),(en P "ten_height" 670 (r 359)),(en P "below_ten_to" 680 (r 366)),(en P "shortest" 692 (r 373)),(en P "nearest_back" 707 (r 380)),(en P "bare_spelling" 716 (r 387)),(en P "laid" 728 (r 394)),(en P "laid_in_full" 737 (r 401)),(en P "laid_short" 746 (r 408)),(en P "shown" 756 (r 415)),(en P "_law_cell_at" 766 (r 422)),(en P "_law_whole" 773 (r 429)),(en P "_law_way_by" 780 (r 436))] 67
noncomputable def Rj:Obj:=fiO .none #[(z 2),(z 0),(r 20),(z 4),(z 0),(r 33),(z 6),(z 0),(r 45),(z 8),(z 0),(r 57),(z 10),(z 0),(r 69),(z 12),(z 0),(r 81),(z 15),(z 0),(r 93),(z 17),(z 0),(r 100),(z 19),(z 0),(r 107),(z 21),(z 0),(r 114),(z 23),(z 0),(r 121),(z 25),(z 0),(r 128),(z 27),(z 0),(r 135),(z 30),(z 0),(r 142),(z 33),(z 0),(r 149),(z 37),(z 0),(r 156),(z 41),(z 0),(r 163),(z 47),(z 0),(r 170),(z 49),(z 0),(r 177),(z 57),(z 0),(r 184),(z 63),(z 0),(r 191),(z 72),(z 0),(r 198),(z 82),(z 0),(r 205),(z 88),(z 0),(r 212),(z 90),(z 0),(r 219),(z 97),(z 0),(r 227),(z 120),(z 0),(r 269),(z 125),(z 0),(r 276),(z 136),(z 0),(r 283),(z 141),(z 0),(r 290),(z 149),(z 0),(r 297),(z 154),(z 0),(r 304),(z 158),(z 0),(r 309),(z 160),(z 0),(r 316),(z 164),(z 0),(r 323),(z 170),(z 0),(r 330),(z 175),(z 0),(r 337),(z 185),(z 0),(r 344),(z 196),(z 0),(r 351),(z 200),(z 0),(r 358),(z 205),(z 0),(r 365),(z 208),(z 0),(r 372),(z 219),(z 0),(r 379),(z 228),(z 0),(r 386),(z 233),(z 0),(r 393),(z 242),(z 0),(r 400),(z 248),(z 0),(r 407),(z 251),(z 0),(r 414),(z 260),(z 0),(r 421),(z 264),(z 0),(r 428),(z 266),(z 0),(r 435)]
noncomputable def NN:Obj:=sqO (.type "tuple") #[(vS "top" 665),(vS "bottom" 666),(vS "guess" 667)]
noncomputable def Ri:Obj:=fnO .none "ten_height" "ten_height" (T.top 54) 0 [] .none .none .none .none none .none .none 0
noncomputable def NM:Obj:=fiO (.type "code") #[(vS "ten_height" 662),(vS "ten_height" 663),(c 664),(z 200),(z 2),(z 0),(z 0),(z 3),(r 353),(.bool true),(z 181),(r 354),.none,(r 355),(r 356),(r 357),(z 668),(z 200),(c 669)]
noncomputable def NL:Obj:=fnO (.type "function") "ten_height" "ten_height" (T.top 54) 3 [] .none .none .none (vS "roundmill.writing" 648) none (r 358) .none 0
noncomputable def NK:Obj:=sqO (.type "tuple") #[(vS "top" 674),(vS "bottom" 675),(vS "number" 676),(vS "parts" 677)]
noncomputable def Rh:Obj:=fnO .none "below_ten_to" "below_ten_to" (T.top 55) 0 [] .none .none .none .none none .none .none 0
noncomputable def NJ:Obj:=fiO (.type "code") #[(vS "below_ten_to" 671),(vS "below_ten_to" 672),(c 673),(z 205),(z 3),(z 0),(z 0),(z 3),(r 360),(.bool true),(z 181),(r 361),.none,(r 362),(r 363),(r 364),(z 678),(z 205),(c 679)]
noncomputable def NI:Obj:=fnO (.type "function") "below_ten_to" "below_ten_to" (T.top 55) 3 [] .none .none .none (vS "roundmill.writing" 648) none (r 365) .none 0
noncomputable def NH:Obj:=sqO (.type "tuple") #[(vS "size" 684),(vS "bits" 685),(vS "value" 686),(vS "place" 687),(vS "figures" 688),(vS "parts" 689)]
noncomputable def Rg:Obj:=fnO .none "shortest" "shortest" (T.top 56) 0 [] .none .none .none .none none .none .none 0
noncomputable def NG:Obj:=fiO (.type "code") #[(vS "shortest" 681),(vS "shortest" 682),(c 683),(z 208),(z 2),(z 0),(z 0),(z 3),(r 367),(.bool true),(z 181),(r 368),.none,(r 369),(r 370),(r 371),(z 690),(z 208),(c 691)]
noncomputable def NF:Obj:=fnO (.type "function") "shortest" "shortest" (T.top 56) 3 [] .none .none .none (vS "roundmill.writing" 648) none (r 372) .none 0
noncomputable def ND:Obj:=sqO (.type "tuple") #[(vS "size" 696),(vS "bits" 697),(vS "place" 698),(vS "parts" 699),(vS "lower" 700),(vS "double_over" 701),(vS "greater_first" 702),(vS "choices" 703),(vS "figures" 704)]
noncomputable def Rf:Obj:=fnO .none "nearest_back" "nearest_back" (T.top 57) 0 [] .none .none .none .none none .none .none 0
noncomputable def NC:Obj:=fiO (.type "code") #[(vS "nearest_back" 693),(vS "nearest_back" 694),(c 695),(z 219),(z 4),(z 0),(z 0),(z 3),(r 374),(.bool true),(z 181),(r 375),.none,(r 376),(r 377),(r 378),(z 705),(z 219),(c 706)]
noncomputable def NB:Obj:=fnO (.type "function") "nearest_back" "nearest_back" (T.top 57) 3 [] .none .none .none (vS "roundmill.writing" 648) none (r 379) .none 0
noncomputable def NA:Obj:=sqO (.type "tuple") #[(vS "sign" 711),(vS "figures" 712),(vS "place" 713)]
noncomputable def Rc:Obj:=fnO .none "bare_spelling" "bare_spelling" (T.top 58) 0 [] .none .none .none .none none .none .none 0
noncomputable def Nz:Obj:=fiO (.type "code") #[(vS "bare_spelling" 708),(vS "bare_spelling" 709),(c 710),(z 228),(z 3),(z 0),(z 0),(z 3),(r 381),(.bool true),(z 181),(r 382),.none,(r 383),(r 384),(r 385),(z 714),(z 228),(c 715)]
noncomputable def Ny:Obj:=fnO (.type "function") "bare_spelling" "bare_spelling" (T.top 58) 3 [] .none .none .none (vS "roundmill.writing" 648) none (r 386) .none 0
noncomputable def Nx:Obj:=sqO (.type "tuple") #[(vS "sign" 720),(vS "figures" 721),(vS "place" 722),(vS "ahead" 723),(vS "written" 724),(vS "top_place" 725)]
noncomputable def Rb:Obj:=fnO .none "laid" "laid" (T.top 59) 0 [] .none .none .none .none none .none .none 0
noncomputable def Nw:Obj:=fiO (.type "code") #[(vS "laid" 717),(vS "laid" 718),(c 719),(z 233),(z 3),(z 0),(z 0),(z 3),(r 388),(.bool true),(z 181),(r 389),.none,(r 390),(r 391),(r 392),(z 726),(z 233),(c 727)]
noncomputable def Nv:Obj:=fnO (.type "function") "laid" "laid" (T.top 59) 3 [] .none .none .none (vS "roundmill.writing" 648) none (r 393) .none 0
noncomputable def Nu:Obj:=sqO (.type "tuple") #[(vS "written" 732),(vS "place" 733),(vS "top_place" 734)]
noncomputable def Ra:Obj:=fnO .none "laid_in_full" "laid_in_full" (T.top 60) 0 [] .none .none .none .none none .none .none 0
noncomputable def Nt:Obj:=fiO (.type "code") #[(vS "laid_in_full" 729),(vS "laid_in_full" 730),(c 731),(z 242),(z 3),(z 0),(z 0),(z 3),(r 395),(.bool true),(z 181),(r 396),.none,(r 397),(r 398),(r 399),(z 735),(z 242),(c 736)]
noncomputable def Nr:Obj:=fnO (.type "function") "laid_in_full" "laid_in_full" (T.top 60) 3 [] .none .none .none (vS "roundmill.writing" 648) none (r 400) .none 0
noncomputable def Nq:Obj:=sqO (.type "tuple") #[(vS "written" 741),(vS "top_place" 742),(vS "behind" 743)]
noncomputable def Q9:Obj:=fnO .none "laid_short" "laid_short" (T.top 61) 0 [] .none .none .none .none none .none .none 0
noncomputable def Np:Obj:=fiO (.type "code") #[(vS "laid_short" 738),(vS "laid_short" 739),(c 740),(z 248),(z 2),(z 0),(z 0),(z 3),(r 402),(.bool true),(z 181),(r 403),.none,(r 404),(r 405),(r 406),(z 744),(z 248),(c 745)]
noncomputable def Nn:Obj:=fnO (.type "function") "laid_short" "laid_short" (T.top 61) 3 [] .none .none .none (vS "roundmill.writing" 648) none (r 407) .none 0
noncomputable def Nm:Obj:=sqO (.type "tuple") #[(vS "size" 750),(vS "bits" 751),(vS "found" 752),(vS "spelling" 753)]
noncomputable def Q8:Obj:=fnO .none "shown" "shown" (T.top 62) 0 [] .none .none .none .none none .none .none 0
noncomputable def Nl:Obj:=fiO (.type "code") #[(vS "shown" 747),(vS "shown" 748),(c 749),(z 251),(z 2),(z 0),(z 0),(z 3),(r 409),(.bool true),(z 181),(r 410),.none,(r 411),(r 412),(r 413),(z 754),(z 251),(c 755)]
noncomputable def Nk:Obj:=fnO (.type "function") "shown" "shown" (T.top 62) 3 [] .none .none .none (vS "roundmill.writing" 648) none (r 414) .none 0
noncomputable def Nj:Obj:=sqO (.type "tuple") #[(vS "_law_script" 762),(vS "_law_k" 763)]
noncomputable def Q7:Obj:=fnO .none "_law_cell_at" "_law_cell_at" (T.top 64) 0 [] .none .none .none .none none .none .none 0
noncomputable def Ni:Obj:=fiO (.type "code") #[(vS "_law_cell_at" 759),(vS "_law_cell_at" 760),(c 761),(z 260),(z 2),(z 0),(z 0),(z 3),(r 416),(.bool true),(z 181),(r 417),.none,(r 418),(r 419),(r 420),(z 764),(z 260),(c 765)]
noncomputable def Nh:Obj:=fnO (.type "function") "_law_cell_at" "_law_cell_at" (T.top 64) 3 [] .none .none .none (vS "law_roundmill_k57_whole_shown_and_read" 757) none (r 421) .none 0
noncomputable def Ng:Obj:=sqO (.type "tuple") #[(vS "_law_found" 770)]
noncomputable def Q6:Obj:=fnO .none "_law_whole" "_law_whole" (T.top 65) 0 [] .none .none .none .none none .none .none 0
noncomputable def Nf:Obj:=fiO (.type "code") #[(vS "_law_whole" 767),(vS "_law_whole" 768),(c 769),(z 264),(z 1),(z 0),(z 0),(z 3),(r 423),(.bool true),(z 181),(r 424),.none,(r 425),(r 426),(r 427),(z 771),(z 264),(c 772)]
noncomputable def Nd:Obj:=fnO (.type "function") "_law_whole" "_law_whole" (T.top 65) 3 [] .none .none .none (vS "law_roundmill_k57_whole_shown_and_read" 757) none (r 428) .none 0
noncomputable def Nc:Obj:=sqO (.type "tuple") #[(vS "_law_cell" 777)]
noncomputable def Q5:Obj:=fnO .none "_law_way_by" "_law_way_by" (T.top 66) 0 [] .none .none .none .none none .none .none 0
noncomputable def Nb:Obj:=fiO (.type "code") #[(vS "_law_way_by" 774),(vS "_law_way_by" 775),(c 776),(z 266),(z 1),(z 0),(z 0),(z 3),(r 430),(.bool true),(z 181),(r 431),.none,(r 432),(r 433),(r 434),(z 778),(z 266),(c 779)]
noncomputable def Na:Obj:=fnO (.type "function") "_law_way_by" "_law_way_by" (T.top 66) 3 [] .none .none .none (vS "law_roundmill_k57_whole_shown_and_read" 757) none (r 435) .none 0
noncomputable def Q4 (P:Params):Obj:=diO (.type "dict") #[(en P "__name__" 165 (vS "law_roundmill_k57_whole_shown_and_read" 757)),(en P "__doc__" 166 .none),(en P "__package__" 167 .none),(en P "__loader__" 168 (.builtin "__main__.__loader__#opaque")),(en P "__spec__" 169 .none),(en P "__annotations__" 170 (r 6)),(en P "__builtins__" 171 (r 4)),(en P "__file__" 173 (c 172)),(en P "__cached__" 174 .none),(en P "MillError" 206 (r 24)),(en P "NoBits" 222 (r 37)),(en P "NotFinite" 238 (r 49)),(en P "NoWay" 254 (r 61)),(en P "NoFraction" 270 (r 73)),(en P "NoText" 286 (r 85)),(en P "width" 295 (r 94)),(en P "bias" 302 (r 101)),(en P "low" 309 (r 108)),(en P "sign_bit" 316 (r 115)),(en P "last_field" 323 (r 122)),(en P "endless" 330 (r 129)),(en P "no_number" 337 (r 136)),(en P "check_fraction" 347 (r 143)),(en P "scaled" 356 (r 150)),(en P "height" 366 (r 157)),(en P "rest_by_middle" 375 (r 164)),(en P "rest_of" 383 (r 171)),(en P "cut" 394 (r 178)),(en P "parted" 406 (r 185)),(en P "kind" 417 (r 192)),(en P "worth" 429 (r 199)),(en P "worth_fraction" 438 (r 206)),(en P "fraction" 446 (r 213)),(en P "signed" 455 (r 220)),(en P "INEXACT" 457 (vI 1 456)),(en P "SMALL" 459 (vI 2 458)),(en P "GREAT" 461 (vI 4 460)),(en P "NAMES" 469 (r 221)),(en P "Way" 524 (r 259)),(en P "way_of" 531 (r 270)),(en P "settled" 549 (r 277)),(en P "lost_flags" 559 (r 284)),(en P "rounded" 571 (r 291)),(en P "LONGEST_LINE" 575 (vI 400 574)),(en P "LONGEST_EXPONENT" 577 (vI 4 576)),(en P "FIGURES" 579 (vS "0123456789" 578)),(en P "ten_to" 587 (r 298)),(en P "tenfold" 596 (r 305)),(en P "all_figures" 602 (r 310)),(en P "bare_line" 609 (r 317)),(en P "sign_and_word" 616 (r 324)),(en P "exponent_of" 624 (r 331)),(en P "spelled" 635 (r 338)),(en P "read" 647 (r 345)),(en P "reads_back" 661 (r 352)),(en P "ten_height" 670 (r 359)),(en P "below_ten_to" 680 (r 366)),(en P "shortest" 692 (r 373)),(en P "nearest_back" 707 (r 380)),(en P "bare_spelling" 716 (r 387)),(en P "laid" 728 (r 394)),(en P "laid_in_full" 737 (r 401)),(en P "laid_short" 746 (r 408)),(en P "shown" 756 (r 415)),(en P "_law_cell_at" 766 (r 422)),(en P "_law_whole" 773 (r 429)),(en P "_law_way_by" 780 (r 436)),(en P "_law_code_by" 792 (r 443)),(en P "_law_value" 801 (r 450)),(en P "_law_near" 811 (r 457)),(en P "_law_far" 821 (r 464)),(en P "_law_fair" 840 (r 471)),(en P "_law_power" 848 (r 478)),(en P "_law_within" 857 (r 485)),(en P "_law_is_best" 880 (r 492)),(en P "_law_layout" 893 (r 499)),(en P "_law_bits_by" 904 (r 506)),(en P "_law_count_of" 912 (r 513))] 78
noncomputable def Q3:Obj:=fiO .none #[(z 2),(z 0),(r 20),(z 4),(z 0),(r 33),(z 6),(z 0),(r 45),(z 8),(z 0),(r 57),(z 10),(z 0),(r 69),(z 12),(z 0),(r 81),(z 15),(z 0),(r 93),(z 17),(z 0),(r 100),(z 19),(z 0),(r 107),(z 21),(z 0),(r 114),(z 23),(z 0),(r 121),(z 25),(z 0),(r 128),(z 27),(z 0),(r 135),(z 30),(z 0),(r 142),(z 33),(z 0),(r 149),(z 37),(z 0),(r 156),(z 41),(z 0),(r 163),(z 47),(z 0),(r 170),(z 49),(z 0),(r 177),(z 57),(z 0),(r 184),(z 63),(z 0),(r 191),(z 72),(z 0),(r 198),(z 82),(z 0),(r 205),(z 88),(z 0),(r 212),(z 90),(z 0),(r 219),(z 97),(z 0),(r 227),(z 120),(z 0),(r 269),(z 125),(z 0),(r 276),(z 136),(z 0),(r 283),(z 141),(z 0),(r 290),(z 149),(z 0),(r 297),(z 154),(z 0),(r 304),(z 158),(z 0),(r 309),(z 160),(z 0),(r 316),(z 164),(z 0),(r 323),(z 170),(z 0),(r 330),(z 175),(z 0),(r 337),(z 185),(z 0),(r 344),(z 196),(z 0),(r 351),(z 200),(z 0),(r 358),(z 205),(z 0),(r 365),(z 208),(z 0),(r 372),(z 219),(z 0),(r 379),(z 228),(z 0),(r 386),(z 233),(z 0),(r 393),(z 242),(z 0),(r 400),(z 248),(z 0),(r 407),(z 251),(z 0),(r 414),(z 260),(z 0),(r 421),(z 264),(z 0),(r 428),(z 266),(z 0),(r 435),(z 268),(z 0),(r 442),(z 282),(z 0),(r 449),(z 287),(z 0),(r 456),(z 293),(z 0),(r 463),(z 299),(z 0),(r 470),(z 326),(z 0),(r 477),(z 333),(z 0),(r 484),(z 337),(z 0),(r 491),(z 367),(z 0),(r 498),(z 381),(z 0),(r 505),(z 390),(z 0),(r 512)]
noncomputable def M9:Obj:=sqO (.type "tuple") #[(vS "_law_size" 784),(vS "_law_cell" 785),(vS "_law_last" 786),(vS "_law_way" 787),(vS "_law_rest" 788),(vS "_law_field" 789)]
noncomputable def Q2:Obj:=fnO .none "_law_code_by" "_law_code_by" (T.top 67) 0 [] .none .none .none .none none .none .none 0
noncomputable def M8:Obj:=fiO (.type "code") #[(vS "_law_code_by" 781),(vS "_law_code_by" 782),(c 783),(z 268),(z 2),(z 0),(z 0),(z 3),(r 437),(.bool true),(z 181),(r 438),.none,(r 439),(r 440),(r 441),(z 790),(z 268),(c 791)]
noncomputable def M7:Obj:=fnO (.type "function") "_law_code_by" "_law_code_by" (T.top 67) 3 [] .none .none .none (vS "law_roundmill_k57_whole_shown_and_read" 757) none (r 442) .none 0
noncomputable def M6:Obj:=sqO (.type "tuple") #[(vS "_law_size" 796),(vS "_law_code" 797),(vS "_law_field" 798)]
noncomputable def Q1:Obj:=fnO .none "_law_value" "_law_value" (T.top 68) 0 [] .none .none .none .none none .none .none 0
noncomputable def M4:Obj:=fiO (.type "code") #[(vS "_law_value" 793),(vS "_law_value" 794),(c 795),(z 282),(z 2),(z 0),(z 0),(z 3),(r 444),(.bool true),(z 181),(r 445),.none,(r 446),(r 447),(r 448),(z 799),(z 282),(c 800)]
noncomputable def MZ:Obj:=fnO (.type "function") "_law_value" "_law_value" (T.top 68) 3 [] .none .none .none (vS "law_roundmill_k57_whole_shown_and_read" 757) none (r 449) .none 0
noncomputable def MY:Obj:=sqO (.type "tuple") #[(vS "_law_way" 805),(vS "_law_outward" 806),(vS "_law_lean" 807),(vS "_law_even" 808)]
noncomputable def Q0:Obj:=fnO .none "_law_near" "_law_near" (T.top 69) 0 [] .none .none .none .none none .none .none 0
noncomputable def MX:Obj:=fiO (.type "code") #[(vS "_law_near" 802),(vS "_law_near" 803),(c 804),(z 287),(z 4),(z 0),(z 0),(z 3),(r 451),(.bool true),(z 181),(r 452),.none,(r 453),(r 454),(r 455),(z 809),(z 287),(c 810)]
noncomputable def MW:Obj:=fnO (.type "function") "_law_near" "_law_near" (T.top 69) 3 [] .none .none .none (vS "law_roundmill_k57_whole_shown_and_read" 757) none (r 456) .none 0
noncomputable def MV:Obj:=sqO (.type "tuple") #[(vS "_law_way" 815),(vS "_law_outward" 816),(vS "_law_lean" 817),(vS "_law_even" 818)]
noncomputable def QZ:Obj:=fnO .none "_law_far" "_law_far" (T.top 70) 0 [] .none .none .none .none none .none .none 0
noncomputable def MU:Obj:=fiO (.type "code") #[(vS "_law_far" 812),(vS "_law_far" 813),(c 814),(z 293),(z 4),(z 0),(z 0),(z 3),(r 458),(.bool true),(z 181),(r 459),.none,(r 460),(r 461),(r 462),(z 819),(z 293),(c 820)]
noncomputable def MT:Obj:=fnO (.type "function") "_law_far" "_law_far" (T.top 70) 3 [] .none .none .none (vS "law_roundmill_k57_whole_shown_and_read" 757) none (r 463) .none 0
noncomputable def MS:Obj:=sqO (.type "tuple") #[(vS "_law_size" 825),(vS "_law_way" 826),(vS "_law_sign" 827),(vS "_law_tall" 828),(vS "_law_bottom" 829),(vS "_law_found" 830),(vS "_law_code" 831),(vS "_law_last" 832),(vS "_law_here" 833),(vS "_law_outward" 834),(vS "_law_due" 835),(vS "_law_beyond" 836),(vS "_law_before" 837)]
noncomputable def QY:Obj:=fnO .none "_law_fair" "_law_fair" (T.top 71) 0 [] .none .none .none .none none .none .none 0
noncomputable def MR:Obj:=fiO (.type "code") #[(vS "_law_fair" 822),(vS "_law_fair" 823),(c 824),(z 299),(z 6),(z 0),(z 0),(z 3),(r 465),(.bool true),(z 181),(r 466),.none,(r 467),(r 468),(r 469),(z 838),(z 299),(c 839)]
noncomputable def MQ:Obj:=fnO (.type "function") "_law_fair" "_law_fair" (T.top 71) 3 [] .none .none .none (vS "law_roundmill_k57_whole_shown_and_read" 757) none (r 470) .none 0
noncomputable def MP:Obj:=sqO (.type "tuple") #[(vS "_law_n" 844),(vS "_law_half" 845)]
noncomputable def QX:Obj:=fnO .none "_law_power" "_law_power" (T.top 72) 0 [] .none .none .none .none none .none .none 0
noncomputable def MO:Obj:=fiO (.type "code") #[(vS "_law_power" 841),(vS "_law_power" 842),(c 843),(z 326),(z 1),(z 0),(z 0),(z 3),(r 472),(.bool true),(z 181),(r 473),.none,(r 474),(r 475),(r 476),(z 846),(z 326),(c 847)]
noncomputable def MN:Obj:=fnO (.type "function") "_law_power" "_law_power" (T.top 72) 3 [] .none .none .none (vS "law_roundmill_k57_whole_shown_and_read" 757) none (r 477) .none 0
noncomputable def MM:Obj:=sqO (.type "tuple") #[(vS "_law_ends" 852),(vS "_law_even" 853),(vS "_law_point" 854)]
noncomputable def QW:Obj:=fnO .none "_law_within" "_law_within" (T.top 73) 0 [] .none .none .none .none none .none .none 0
noncomputable def ML:Obj:=fiO (.type "code") #[(vS "_law_within" 849),(vS "_law_within" 850),(c 851),(z 333),(z 3),(z 0),(z 0),(z 3),(r 479),(.bool true),(z 181),(r 480),.none,(r 481),(r 482),(r 483),(z 855),(z 333),(c 856)]
noncomputable def MK:Obj:=fnO (.type "function") "_law_within" "_law_within" (T.top 73) 3 [] .none .none .none (vS "law_roundmill_k57_whole_shown_and_read" 757) none (r 484) .none 0
noncomputable def MJ:Obj:=sqO (.type "tuple") #[(vS "_law_size" 861),(vS "_law_code" 862),(vS "_law_figures" 863),(vS "_law_place" 864),(vS "_law_steps" 865),(vS "_law_unit" 866),(vS "_law_scale" 867),(vS "_law_even" 868),(vS "_law_here" 869),(vS "_law_before" 870),(vS "_law_beyond" 871),(vS "_law_ends" 872),(vS "_law_point" 873),(vS "_law_under" 874),(vS "_law_other" 875),(vS "_law_lean" 876),(vS "_law_nearer" 877)]
noncomputable def QV:Obj:=fnO .none "_law_is_best" "_law_is_best" (T.top 74) 0 [] .none .none .none .none none .none .none 0
noncomputable def MI:Obj:=fiO (.type "code") #[(vS "_law_is_best" 858),(vS "_law_is_best" 859),(c 860),(z 337),(z 4),(z 0),(z 0),(z 3),(r 486),(.bool true),(z 181),(r 487),.none,(r 488),(r 489),(r 490),(z 878),(z 337),(c 879)]
noncomputable def MH:Obj:=fnO (.type "function") "_law_is_best" "_law_is_best" (T.top 74) 3 [] .none .none .none (vS "law_roundmill_k57_whole_shown_and_read" 757) none (r 491) .none 0
noncomputable def MG:Obj:=sqO (.type "tuple") #[(vS "_law_sign" 884),(vS "_law_figures" 885),(vS "_law_place" 886),(vS "_law_head" 887),(vS "_law_digits" 888),(vS "_law_at" 889),(vS "_law_unit" 890)]
noncomputable def QU:Obj:=fnO .none "_law_layout" "_law_layout" (T.top 75) 0 [] .none .none .none .none none .none .none 0
noncomputable def MF:Obj:=fiO (.type "code") #[(vS "_law_layout" 881),(vS "_law_layout" 882),(c 883),(z 367),(z 3),(z 0),(z 0),(z 3),(r 493),(.bool true),(z 181),(r 494),.none,(r 495),(r 496),(r 497),(z 891),(z 367),(c 892)]
noncomputable def ME:Obj:=fnO (.type "function") "_law_layout" "_law_layout" (T.top 75) 3 [] .none .none .none (vS "law_roundmill_k57_whole_shown_and_read" 757) none (r 498) .none 0
noncomputable def MD:Obj:=sqO (.type "tuple") #[(vS "_law_size" 897),(vS "_law_cell" 898),(vS "_law_last" 899),(vS "_law_rest" 900),(vS "_law_code" 901)]
noncomputable def QT:Obj:=fnO .none "_law_bits_by" "_law_bits_by" (T.top 76) 0 [] .none .none .none .none none .none .none 0
noncomputable def MC:Obj:=fiO (.type "code") #[(vS "_law_bits_by" 894),(vS "_law_bits_by" 895),(c 896),(z 381),(z 2),(z 0),(z 0),(z 3),(r 500),(.bool true),(z 181),(r 501),.none,(r 502),(r 503),(r 504),(z 902),(z 381),(c 903)]
noncomputable def MB:Obj:=fnO (.type "function") "_law_bits_by" "_law_bits_by" (T.top 76) 3 [] .none .none .none (vS "law_roundmill_k57_whole_shown_and_read" 757) none (r 505) .none 0
noncomputable def MA:Obj:=sqO (.type "tuple") #[(vS "_law_text" 908),(vS "_law_sign" 909)]
noncomputable def QS:Obj:=fnO .none "_law_count_of" "_law_count_of" (T.top 77) 0 [] .none .none .none .none none .none .none 0
noncomputable def Mz:Obj:=fiO (.type "code") #[(vS "_law_count_of" 905),(vS "_law_count_of" 906),(c 907),(z 390),(z 1),(z 0),(z 0),(z 3),(r 507),(.bool true),(z 181),(r 508),.none,(r 509),(r 510),(r 511),(z 910),(z 390),(c 911)]
noncomputable def Mx:Obj:=fnO (.type "function") "_law_count_of" "_law_count_of" (T.top 77) 3 [] .none .none .none (vS "law_roundmill_k57_whole_shown_and_read" 757) none (r 512) .none 0
noncomputable def Mw (P:Params):Obj:=diO (.type "dict") #[(en P "__name__" 165 (vS "law_roundmill_k57_whole_shown_and_read" 757)),(en P "__doc__" 166 .none),(en P "__package__" 167 .none),(en P "__loader__" 168 (.builtin "__main__.__loader__#opaque")),(en P "__spec__" 169 .none),(en P "__annotations__" 170 (r 6)),(en P "__builtins__" 171 (r 4)),(en P "__file__" 173 (c 172)),(en P "__cached__" 174 .none),(en P "MillError" 206 (r 24)),(en P "NoBits" 222 (r 37)),(en P "NotFinite" 238 (r 49)),(en P "NoWay" 254 (r 61)),(en P "NoFraction" 270 (r 73)),(en P "NoText" 286 (r 85)),(en P "width" 295 (r 94)),(en P "bias" 302 (r 101)),(en P "low" 309 (r 108)),(en P "sign_bit" 316 (r 115)),(en P "last_field" 323 (r 122)),(en P "endless" 330 (r 129)),(en P "no_number" 337 (r 136)),(en P "check_fraction" 347 (r 143)),(en P "scaled" 356 (r 150)),(en P "height" 366 (r 157)),(en P "rest_by_middle" 375 (r 164)),(en P "rest_of" 383 (r 171)),(en P "cut" 394 (r 178)),(en P "parted" 406 (r 185)),(en P "kind" 417 (r 192)),(en P "worth" 429 (r 199)),(en P "worth_fraction" 438 (r 206)),(en P "fraction" 446 (r 213)),(en P "signed" 455 (r 220)),(en P "INEXACT" 457 (vI 1 456)),(en P "SMALL" 459 (vI 2 458)),(en P "GREAT" 461 (vI 4 460)),(en P "NAMES" 469 (r 221)),(en P "Way" 524 (r 259)),(en P "way_of" 531 (r 270)),(en P "settled" 549 (r 277)),(en P "lost_flags" 559 (r 284)),(en P "rounded" 571 (r 291)),(en P "LONGEST_LINE" 575 (vI 400 574)),(en P "LONGEST_EXPONENT" 577 (vI 4 576)),(en P "FIGURES" 579 (vS "0123456789" 578)),(en P "ten_to" 587 (r 298)),(en P "tenfold" 596 (r 305)),(en P "all_figures" 602 (r 310)),(en P "bare_line" 609 (r 317)),(en P "sign_and_word" 616 (r 324)),(en P "exponent_of" 624 (r 331)),(en P "spelled" 635 (r 338)),(en P "read" 647 (r 345)),(en P "reads_back" 661 (r 352)),(en P "ten_height" 670 (r 359)),(en P "below_ten_to" 680 (r 366)),(en P "shortest" 692 (r 373)),(en P "nearest_back" 707 (r 380)),(en P "bare_spelling" 716 (r 387)),(en P "laid" 728 (r 394)),(en P "laid_in_full" 737 (r 401)),(en P "laid_short" 746 (r 408)),(en P "shown" 756 (r 415)),(en P "_law_cell_at" 766 (r 422)),(en P "_law_whole" 773 (r 429)),(en P "_law_way_by" 780 (r 436)),(en P "_law_code_by" 792 (r 443)),(en P "_law_value" 801 (r 450)),(en P "_law_near" 811 (r 457)),(en P "_law_far" 821 (r 464)),(en P "_law_fair" 840 (r 471)),(en P "_law_power" 848 (r 478)),(en P "_law_within" 857 (r 485)),(en P "_law_is_best" 880 (r 492)),(en P "_law_layout" 893 (r 499)),(en P "_law_bits_by" 904 (r 506)),(en P "_law_count_of" 912 (r 513)),(en P "_law_spelling_of" 925 (r 520)),(en P "_law_read_alike" 941 (r 527)),(en P "_law_shown_well" 953 (r 534)),(en P "_law_size_for" 962 (r 541)),(en P "law" 974 (r 548))] 83
noncomputable def QR:Obj:=fiO .none #[(z 2),(z 0),(r 20),(z 4),(z 0),(r 33),(z 6),(z 0),(r 45),(z 8),(z 0),(r 57),(z 10),(z 0),(r 69),(z 12),(z 0),(r 81),(z 15),(z 0),(r 93),(z 17),(z 0),(r 100),(z 19),(z 0),(r 107),(z 21),(z 0),(r 114),(z 23),(z 0),(r 121),(z 25),(z 0),(r 128),(z 27),(z 0),(r 135),(z 30),(z 0),(r 142),(z 33),(z 0),(r 149),(z 37),(z 0),(r 156),(z 41),(z 0),(r 163),(z 47),(z 0),(r 170),(z 49),(z 0),(r 177),(z 57),(z 0),(r 184),(z 63),(z 0),(r 191),(z 72),(z 0),(r 198),(z 82),(z 0),(r 205),(z 88),(z 0),(r 212),(z 90),(z 0),(r 219),(z 97),(z 0),(r 227),(z 120),(z 0),(r 269),(z 125),(z 0),(r 276),(z 136),(z 0),(r 283),(z 141),(z 0),(r 290),(z 149),(z 0),(r 297),(z 154),(z 0),(r 304),(z 158),(z 0),(r 309),(z 160),(z 0),(r 316),(z 164),(z 0),(r 323),(z 170),(z 0),(r 330),(z 175),(z 0),(r 337),(z 185),(z 0),(r 344),(z 196),(z 0),(r 351),(z 200),(z 0),(r 358),(z 205),(z 0),(r 365),(z 208),(z 0),(r 372),(z 219),(z 0),(r 379),(z 228),(z 0),(r 386),(z 233),(z 0),(r 393),(z 242),(z 0),(r 400),(z 248),(z 0),(r 407),(z 251),(z 0),(r 414),(z 260),(z 0),(r 421),(z 264),(z 0),(r 428),(z 266),(z 0),(r 435),(z 268),(z 0),(r 442),(z 282),(z 0),(r 449),(z 287),(z 0),(r 456),(z 293),(z 0),(r 463),(z 299),(z 0),(r 470),(z 326),(z 0),(r 477),(z 333),(z 0),(r 484),(z 337),(z 0),(r 491),(z 367),(z 0),(r 498),(z 381),(z 0),(r 505),(z 390),(z 0),(r 512),(z 397),(z 0),(r 519),(z 414),(z 0),(r 526),(z 431),(z 0),(r 533),(z 445),(z 0),(r 540),(z 454),(z 0),(r 547)]
noncomputable def Mv:Obj:=sqO (.type "tuple") #[(vS "_law_text" 916),(vS "_law_body" 917),(vS "_law_parts" 918),(vS "_law_point" 919),(vS "_law_figures" 920),(vS "_law_number" 921),(vS "_law_place" 922)]
noncomputable def QQ:Obj:=fnO .none "_law_spelling_of" "_law_spelling_of" (T.top 78) 0 [] .none .none .none .none none .none .none 0
noncomputable def Mu:Obj:=fiO (.type "code") #[(vS "_law_spelling_of" 913),(vS "_law_spelling_of" 914),(c 915),(z 397),(z 1),(z 0),(z 0),(z 3),(r 514),(.bool true),(z 181),(r 515),.none,(r 516),(r 517),(r 518),(z 923),(z 397),(c 924)]
noncomputable def Mt:Obj:=fnO (.type "function") "_law_spelling_of" "_law_spelling_of" (T.top 78) 3 [] .none .none .none (vS "law_roundmill_k57_whole_shown_and_read" 757) none (r 519) .none 0
noncomputable def Ms:Obj:=sqO (.type "tuple") #[(vS "_law_size" 929),(vS "_law_sign" 930),(vS "_law_code" 931),(vS "_law_way" 932),(vS "_law_text" 933),(vS "_law_found" 934),(vS "_law_last" 935),(vS "_law_due" 936),(vS "_law_spelling" 937),(vS "_law_steps" 938)]
noncomputable def QP:Obj:=fnO .none "_law_read_alike" "_law_read_alike" (T.top 79) 0 [] .none .none .none .none none .none .none 0
noncomputable def Mr:Obj:=fiO (.type "code") #[(vS "_law_read_alike" 926),(vS "_law_read_alike" 927),(c 928),(z 414),(z 5),(z 0),(z 0),(z 3),(r 521),(.bool true),(z 181),(r 522),.none,(r 523),(r 524),(r 525),(z 939),(z 414),(c 940)]
noncomputable def Mq:Obj:=fnO (.type "function") "_law_read_alike" "_law_read_alike" (T.top 79) 3 [] .none .none .none (vS "law_roundmill_k57_whole_shown_and_read" 757) none (r 526) .none 0
noncomputable def Mp:Obj:=sqO (.type "tuple") #[(vS "_law_size" 945),(vS "_law_sign" 946),(vS "_law_code" 947),(vS "_law_text" 948),(vS "_law_last" 949),(vS "_law_spelling" 950)]
noncomputable def QO:Obj:=fnO .none "_law_shown_well" "_law_shown_well" (T.top 80) 0 [] .none .none .none .none none .none .none 0
noncomputable def Mo:Obj:=fiO (.type "code") #[(vS "_law_shown_well" 942),(vS "_law_shown_well" 943),(c 944),(z 431),(z 4),(z 0),(z 0),(z 3),(r 528),(.bool true),(z 181),(r 529),.none,(r 530),(r 531),(r 532),(z 951),(z 431),(c 952)]
noncomputable def Mn:Obj:=fnO (.type "function") "_law_shown_well" "_law_shown_well" (T.top 80) 3 [] .none .none .none (vS "law_roundmill_k57_whole_shown_and_read" 757) none (r 533) .none 0
noncomputable def Mm:Obj:=sqO (.type "tuple") #[(vS "_law_cell" 957),(vS "_law_many" 958),(vS "_law_most" 959)]
noncomputable def QN:Obj:=fnO .none "_law_size_for" "_law_size_for" (T.top 81) 0 [] .none .none .none .none none .none .none 0
noncomputable def Ml:Obj:=fiO (.type "code") #[(vS "_law_size_for" 954),(vS "_law_size_for" 955),(c 956),(z 445),(z 2),(z 0),(z 0),(z 3),(r 535),(.bool true),(z 181),(r 536),.none,(r 537),(r 538),(r 539),(z 960),(z 445),(c 961)]
noncomputable def Mj:Obj:=fnO (.type "function") "_law_size_for" "_law_size_for" (T.top 81) 3 [] .none .none .none (vS "law_roundmill_k57_whole_shown_and_read" 757) none (r 540) .none 0
noncomputable def Mi:Obj:=sqO (.type "tuple") #[(vS "_law_script" 966),(vS "_law_some" 967),(vS "_law_size" 968),(vS "_law_cell" 969),(vS "_law_made" 970),(vS "_law_text" 971)]
noncomputable def QM:Obj:=fnO .none "law" "law" (T.top 82) 0 [] .none .none .none .none none .none .none 0
noncomputable def Mh:Obj:=fiO (.type "code") #[(vS "law" 963),(vS "law" 964),(c 965),(z 454),(z 1),(z 0),(z 0),(z 3),(r 542),(.bool true),(z 181),(r 543),.none,(r 544),(r 545),(r 546),(z 972),(z 454),(c 973)]
noncomputable def Mg:Obj:=fnO (.type "function") "law" "law" (T.top 82) 3 [] .none .none .none (vS "law_roundmill_k57_whole_shown_and_read" 757) none (r 547) .none 0
noncomputable def full (P:Params):BT:=(B (boot_o_0 P) (B (boot_o_1 P) (B (Mw P) (B (boot_o_7 P) (B o6 (B o0 (B o46 (B o88 (B OC (L QS) N) (L NA)) (B O4 (L o1) (L o0))) (B o0 (B o1 (B Oh (L o1) N) (L Nk)) (B o7 (L NP) (L o0)))) (B o0 (B o0 (B Pr (B o0 (L Mq) N) (L Ra)) (B o0 (L o0) (L MU))) (B o79 (B o0 (L Rt) (L o1)) (B o0 (L o0) (L MG))))) (B (o11 P) (B o26 (B o0 (B o95 (B RC (L Mu) N) (L o0)) (B OY (L NZ) (L Q0))) (B o1 (B Pf (L o0) (L o0)) (B OM (L NL) (L o1)))) (B o0 (B o66 (B o0 (B o1 (L o0) N) (L Np)) (B o1 (L Rm) (L MQ))) (B o0 (B RY (L o0) (L M9)) (B RF (L o1) (L o0)))))) (B o0 (B o1 (B o0 (B o0 (B o1 (B Oy (L o1) N) (L Ny)) (B O0 (L N2) (L o0))) (B o72 (B Ph (B Of (L Mh) N) (L o0)) (B RK (L NN) (L QW)))) (B o36 (B o0 (B o0 (B Rz (L o0) N) (L o1)) (B RU (L o0) (L MS))) (B o82 (B o0 (L o1) (L Nb)) (B o0 (L Rg) (L ME))))) (B o15 (B o0 (B o56 (B o97 (B o0 (L Ms) N) (L o0)) (B o0 (L NX) (L o1))) (B o77 (B Pd (L o0) (L Q6)) (B OK (L o0) (L MI)))) (B o0 (B o0 (B R3 (B Oj (L QN) N) (L Nm)) (B OP (L o1) (L o0))) (B o0 (B o1 (L Rq) (L M7)) (B o1 (L NC) (L o0))))))) (B (boot_o_5 P) (B (boot_o_9 P) (B (o8 P) (B o21 (B o7 (B o90 (B OA (L Mx) N) (L Rc)) (B o0 (L o0) (L M4))) (B o71 (B o0 (B Rv (L o0) N) (L o1)) (B o0 (L o0) (L MM)))) (B o34 (B o61 (B o1 (B Oq (L o1) N) (L Nr)) (B OU (L NV) (L o0))) (B o80 (B Pa (L N9) (L o0)) (B OI (L NH) (L QU))))) (B o13 (B o7 (B o54 (B o0 (B o1 (L o0) N) (L Nw)) (B o1 (L Ro) (L MW))) (B o0 (B R0 (L Od) (L Ng)) (B RH (L o1) (L o0)))) (B o41 (B o1 (B Pn (B o0 (L Mm) N) (L o0)) (B o0 (L NR) (L o1))) (B o85 (B O6 (L N6) (L Q2)) (B OE (L o0) (L MC)))))) (B o2 (B o10 (B o24 (B o51 (B o0 (B Ow (L o0) N) (L o1)) (B RW (L o0) (L MY))) (B o74 (B o0 (L o1) (L Ni)) (B o0 (L Ri) (L MK)))) (B o7 (B o64 (B Pp (B Om (L Mo) N) (L o0)) (B OS (L NT) (L QY))) (B o1 (B O8 (L N8) (L o0)) (B OG (L NF) (L o1))))) (B o7 (B o31 (B o7 (B o98 (B Ou (L QP) N) (L Nu)) (B OW (L o1) (L o0))) (B o0 (B o1 (L Ob) (L Nd)) (B o1 (L NJ) (L o0)))) (B o44 (B o69 (B Pk (B o0 (L Mj) N) (L Q8)) (B ON (L o0) (L MO))) (B o87 (B o0 (L N4) (L o1)) (B o0 (L o0) (L MA)))))))) (B (boot_o_2 P) (B (boot_o_4 P) (B (boot_o_8 P) (B o7 (B o1 (B o19 (B o89 (B OB (L Mz) N) (L o0)) (B O3 (L N3) (L Q1))) (B o1 (B Pj (B o0 (L Mi) N) (L o0)) (B (RM P) (L NO) (L o1)))) (B (o33 P) (B o1 (B o0 (B o1 (L o0) N) (L Nt)) (B o1 (L Rn) (L MT))) (B o0 (B RZ (L Oa) (L Nc)) (B RG (L o1) (L o0))))) (B o59 (B o19 (B (o53 P) (B o96 (B o0 (L Mt) N) (L Rb)) (B o0 (L o0) (L MX))) (B o75 (B o0 (L Ru) (L o1)) (B o0 (L o0) (L MJ)))) (B o1 (B o0 (B o1 (B Ol (L o1) N) (L Nn)) (B OR (L NS) (L o0))) (B o84 (B O7 (L o1) (L o0)) (B OF (L ND) (L QT)))))) (B QR (B o9 (B (o23 P) (B o1 (B o93 (B Ox (L Mv) N) (L o0)) (B o0 (L N1) (L o1))) (B o73 (B Pg (B o0 (L Mg) N) (L Q7)) (B RJ (L o0) (L ML)))) (B o19 (B (o63 P) (B R5 (B Oo (L QO) N) (L Nq)) (B OT (L o1) (L o0))) (B o0 (B o1 (L Rr) (L Na)) (B o1 (L NG) (L o0))))) (B o19 (B o1 (B o19 (B o0 (B RB (L o0) N) (L o1)) (B RV (L o0) (L MV))) (B o78 (B o0 (L o1) (L Nf)) (B o0 (L Rh) (L MH)))) (B (o43 P) (B o68 (B Pm (B Oi (L Ml) N) (L o0)) (B OO (L NQ) (L QX))) (B o1 (B O5 (L N5) (L o0)) (B OD (L NB) (L o1))))))) (B (boot_o_6 P) (B (boot_o_10 P) (B o0 (B o22 (B (o50 P) (B o0 (B (Oz P) (L o0) N) (L Nz)) (B o1 (L Rp) (L MZ))) (B o0 (B R1 (B Og (L QM) N) (L Nj)) (B RL (L o1) (L o0)))) (B o35 (B o62 (B Pq (B o0 (L Mp) N) (L o0)) (B o0 (L NU) (L o1))) (B o81 (B O9 (L o0) (L Q5)) (B OH (L o0) (L MF))))) (B o14 (B (o30 P) (B o55 (B o1 (B Ov (L o1) N) (L Nv)) (B OX (L NY) (L o0))) (B o76 (B Pe (L Oc) (L o0)) (B OL (L NK) (L QV)))) (B o42 (B o67 (B o0 (B Rw (L o0) N) (L o1)) (B RP (L o0) (L MP))) (B o86 (B o0 (L o0) (L M8)) (B o0 (L Rf) (L MB)))))) (B o3 (B o0 (B o25 (B o52 (B o94 (B RD (L QQ) N) (L Nx)) (B OZ (L o1) (L o0))) (B o0 (B o1 (L Oe) (L Nh)) (B o1 (L NM) (L o0)))) (B (o40 P) (B o65 (B Po (B o0 (L Mn) N) (L Q9)) (B o0 (L o0) (L MR))) (B o83 (B o0 (L N7) (L o1)) (B o0 (L o0) (L MD))))) (B (o20 P) (B o32 (B (o60 P) (B o99 (B Ot (L Mr) N) (L o0)) (B OV (L NW) (L QZ))) (B o1 (B Pc (L o0) (L o0)) (B OJ (L NI) (L o1)))) (B o45 (B o70 (B o0 (B o1 (L o0) N) (L Nl)) (B o0 (L Rl) (L MN))) (B o0 (B RX (L o0) (L M6)) (B RE (L o1) (L o0)))))))))
noncomputable def t_0 (P:Params):BT:=(((cut 15 (full P) 1 0).ins 3 (boot_o_3 P)).ins 12 (o1))
noncomputable def t_1 (P:Params):BT:=((((cut 28 (full P) 1 0).ins 3 (o4 P)).ins 12 (o5)).ins 24 (o12))
noncomputable def t_2 (P:Params):BT:=((((cut 40 (full P) 1 0).ins 3 (o16 P)).ins 12 (o17)).ins 24 (o18))
noncomputable def t_3 (P:Params):BT:=((((cut 52 (full P) 1 0).ins 3 (o27 P)).ins 12 (o28)).ins 24 (o29))
noncomputable def t_4 (P:Params):BT:=((((cut 64 (full P) 1 0).ins 3 (o37 P)).ins 12 (o38)).ins 24 (o39))
noncomputable def t_5 (P:Params):BT:=((((cut 76 (full P) 1 0).ins 3 (o47 P)).ins 12 (o48)).ins 24 (o49))
noncomputable def t_6 (P:Params):BT:=(((cut 130 (full P) 1 0).ins 3 (o57 P)).ins 12 (o58))
noncomputable def t_7 (P:Params):BT:=(((cut 214 (full P) 1 0).ins 3 (o91 P)).ins 12 (o92))
noncomputable def t_8 (P:Params):BT:=(((cut 222 (full P) 1 0).ins 3 (RS P)).ins 12 (RR))
noncomputable def t_9 (P:Params):BT:=(((cut 278 (full P) 1 0).ins 3 (RO P)).ins 12 (RN))
noncomputable def Md (P:Params):BT:=(((cut 353 (full P) 1 0).ins 3 (Ry P)).ins 12 (Rx))
noncomputable def Mc (P:Params):BT:=(((cut 437 (full P) 1 0).ins 3 (Rk P)).ins 12 (Rj))
noncomputable def Mb (P:Params):BT:=(((cut 514 (full P) 1 0).ins 3 (Q4 P)).ins 12 (Q3))
noncomputable def Ma (P:Params):BT:=(cut 549 (full P) 1 0)
noncomputable def ha (P:Params):Heap:=⟨⟨[boot_o_0 P,boot_o_1 P,boot_o_2 P,boot_o_3 P,boot_o_4 P,boot_o_5 P,boot_o_6 P,boot_o_7 P,boot_o_8 P,boot_o_9 P,boot_o_10 P,o0,o1,o2,o3]⟩,(Life.mk [] [] [] 0 [] [] false #[] [] 0 false false false 0 [2000,10,10] false 0 true [] [] 0 false)⟩
noncomputable def hf (P:Params):Heap:=absHeap (full P) 549 (Life.mk [] [] [] 0 [] [] false #[] [] 0 false false false 0 [2000,10,10] false 0 true [] [] 0 false)
noncomputable def K (P:Params):Frag:=(nat_lit 2,boot_o_2 P)::(nat_lit 3,Mw P)::(nat_lit 15,o6)::(nat_lit 22,o0)::(nat_lit 23,o11 P)::(nat_lit 24,o59)::(nat_lit 25,o13)::(nat_lit 28,o19)::(nat_lit 35,o0)::(nat_lit 36,o23 P)::(nat_lit 37,o24)::(nat_lit 40,o19)::(nat_lit 47,o0)::(nat_lit 48,o33 P)::(nat_lit 49,o34)::(nat_lit 52,o19)::(nat_lit 59,o0)::(nat_lit 60,o43 P)::(nat_lit 61,o44)::(nat_lit 64,o19)::(nat_lit 71,o0)::(nat_lit 72,o53 P)::(nat_lit 73,o54)::(nat_lit 76,o19)::(nat_lit 83,o0)::(nat_lit 84,o63 P)::(nat_lit 85,o64)::(nat_lit 88,o0)::(nat_lit 90,o67)::(nat_lit 91,o0)::(nat_lit 93,o69)::(nat_lit 94,o70)::(nat_lit 95,o0)::(nat_lit 97,o71)::(nat_lit 98,o0)::(nat_lit 100,o73)::(nat_lit 101,o74)::(nat_lit 102,o0)::(nat_lit 104,o75)::(nat_lit 105,o0)::(nat_lit 107,o77)::(nat_lit 108,o78)::(nat_lit 109,o0)::(nat_lit 111,o79)::(nat_lit 112,o0)::(nat_lit 114,o81)::(nat_lit 115,o82)::(nat_lit 116,o0)::(nat_lit 118,o83)::(nat_lit 119,o0)::(nat_lit 121,o85)::(nat_lit 122,o86)::(nat_lit 123,o0)::(nat_lit 125,o87)::(nat_lit 126,o0)::(nat_lit 128,o89)::(nat_lit 129,o90)::(nat_lit 130,o0)::(nat_lit 132,o93)::(nat_lit 133,o0)::(nat_lit 135,o95)::(nat_lit 136,o96)::(nat_lit 137,o0)::(nat_lit 139,o97)::(nat_lit 140,o0)::(nat_lit 142,o99)::(nat_lit 143,Pr)::(nat_lit 144,o0)::(nat_lit 146,Pq)::(nat_lit 147,o0)::(nat_lit 149,Pp)::(nat_lit 150,Po)::(nat_lit 151,o0)::(nat_lit 153,Pn)::(nat_lit 154,o0)::(nat_lit 156,Pm)::(nat_lit 157,Pk)::(nat_lit 158,o0)::(nat_lit 160,Pj)::(nat_lit 161,o0)::(nat_lit 163,Ph)::(nat_lit 164,Pg)::(nat_lit 165,o0)::(nat_lit 167,Pf)::(nat_lit 168,o0)::(nat_lit 170,Pe)::(nat_lit 171,Pd)::(nat_lit 172,o0)::(nat_lit 174,Pc)::(nat_lit 175,o0)::(nat_lit 177,Pa)::(nat_lit 178,O9)::(nat_lit 179,o0)::(nat_lit 181,O8)::(nat_lit 182,o0)::(nat_lit 184,O7)::(nat_lit 185,O6)::(nat_lit 186,o0)::(nat_lit 188,O5)::(nat_lit 189,o0)::(nat_lit 191,O4)::(nat_lit 192,O3)::(nat_lit 193,o0)::(nat_lit 195,O0)::(nat_lit 196,o0)::(nat_lit 198,OZ)::(nat_lit 199,OY)::(nat_lit 200,o0)::(nat_lit 202,OX)::(nat_lit 203,o0)::(nat_lit 205,OW)::(nat_lit 206,OV)::(nat_lit 207,o0)::(nat_lit 209,OU)::(nat_lit 210,o0)::(nat_lit 212,OT)::(nat_lit 213,OS)::(nat_lit 214,o0)::(nat_lit 216,OR)::(nat_lit 217,o0)::(nat_lit 219,OP)::(nat_lit 220,OO)::(nat_lit 221,ON)::(nat_lit 229,o0)::(nat_lit 231,OM)::(nat_lit 232,o0)::(nat_lit 234,OL)::(nat_lit 235,OK)::(nat_lit 236,o0)::(nat_lit 238,OJ)::(nat_lit 239,o0)::(nat_lit 241,OI)::(nat_lit 242,OH)::(nat_lit 243,o0)::(nat_lit 245,OG)::(nat_lit 246,o0)::(nat_lit 248,OF)::(nat_lit 249,OE)::(nat_lit 250,o0)::(nat_lit 252,OD)::(nat_lit 253,o0)::(nat_lit 255,OC)::(nat_lit 256,OB)::(nat_lit 257,OA)::(nat_lit 258,Oz P)::(nat_lit 259,Oy)::(nat_lit 260,Ox)::(nat_lit 261,Ow)::(nat_lit 264,o0)::(nat_lit 266,Ov)::(nat_lit 267,o0)::(nat_lit 269,Ou)::(nat_lit 270,Ot)::(nat_lit 271,o0)::(nat_lit 273,Oq)::(nat_lit 274,o0)::(nat_lit 276,Oo)::(nat_lit 277,Om)::(nat_lit 278,o0)::(nat_lit 280,Ol)::(nat_lit 281,o0)::(nat_lit 283,Oj)::(nat_lit 284,Oi)::(nat_lit 285,o0)::(nat_lit 287,Oh)::(nat_lit 288,o0)::(nat_lit 290,Og)::(nat_lit 291,Of)::(nat_lit 292,o0)::(nat_lit 294,Oe)::(nat_lit 295,o0)::(nat_lit 297,Od)::(nat_lit 298,Oc)::(nat_lit 299,o0)::(nat_lit 301,Ob)::(nat_lit 302,o0)::(nat_lit 304,Oa)::(nat_lit 305,N9)::(nat_lit 306,o0)::(nat_lit 309,N8)::(nat_lit 310,N7)::(nat_lit 311,o0)::(nat_lit 313,N6)::(nat_lit 314,o0)::(nat_lit 316,N5)::(nat_lit 317,N4)::(nat_lit 318,o0)::(nat_lit 320,N3)::(nat_lit 321,o0)::(nat_lit 323,N2)::(nat_lit 324,N1)::(nat_lit 325,o0)::(nat_lit 327,NZ)::(nat_lit 328,o0)::(nat_lit 330,NY)::(nat_lit 331,NX)::(nat_lit 332,o0)::(nat_lit 334,NW)::(nat_lit 335,o0)::(nat_lit 337,NV)::(nat_lit 338,NU)::(nat_lit 339,o0)::(nat_lit 341,NT)::(nat_lit 342,o0)::(nat_lit 344,NS)::(nat_lit 345,NR)::(nat_lit 346,o0)::(nat_lit 348,NQ)::(nat_lit 349,o0)::(nat_lit 351,NP)::(nat_lit 352,NO)::(nat_lit 353,o0)::(nat_lit 355,NN)::(nat_lit 356,o0)::(nat_lit 358,NM)::(nat_lit 359,NL)::(nat_lit 360,o0)::(nat_lit 362,NK)::(nat_lit 363,o0)::(nat_lit 365,NJ)::(nat_lit 366,NI)::(nat_lit 367,o0)::(nat_lit 369,NH)::(nat_lit 370,o0)::(nat_lit 372,NG)::(nat_lit 373,NF)::(nat_lit 374,o0)::(nat_lit 376,ND)::(nat_lit 377,o0)::(nat_lit 379,NC)::(nat_lit 380,NB)::(nat_lit 381,o0)::(nat_lit 383,NA)::(nat_lit 384,o0)::(nat_lit 386,Nz)::(nat_lit 387,Ny)::(nat_lit 388,o0)::(nat_lit 390,Nx)::(nat_lit 391,o0)::(nat_lit 393,Nw)::(nat_lit 394,Nv)::(nat_lit 395,o0)::(nat_lit 397,Nu)::(nat_lit 398,o0)::(nat_lit 400,Nt)::(nat_lit 401,Nr)::(nat_lit 402,o0)::(nat_lit 404,Nq)::(nat_lit 405,o0)::(nat_lit 407,Np)::(nat_lit 408,Nn)::(nat_lit 409,o0)::(nat_lit 411,Nm)::(nat_lit 412,o0)::(nat_lit 414,Nl)::(nat_lit 415,Nk)::(nat_lit 416,o0)::(nat_lit 418,Nj)::(nat_lit 419,o0)::(nat_lit 421,Ni)::(nat_lit 422,Nh)::(nat_lit 423,o0)::(nat_lit 425,Ng)::(nat_lit 426,o0)::(nat_lit 428,Nf)::(nat_lit 429,Nd)::(nat_lit 430,o0)::(nat_lit 432,Nc)::(nat_lit 433,o0)::(nat_lit 435,Nb)::(nat_lit 436,Na)::(nat_lit 437,o0)::(nat_lit 439,M9)::(nat_lit 440,o0)::(nat_lit 442,M8)::(nat_lit 443,M7)::(nat_lit 444,o0)::(nat_lit 446,M6)::(nat_lit 447,o0)::(nat_lit 449,M4)::(nat_lit 450,MZ)::(nat_lit 451,o0)::(nat_lit 453,MY)::(nat_lit 454,o0)::(nat_lit 456,MX)::(nat_lit 457,MW)::(nat_lit 458,o0)::(nat_lit 460,MV)::(nat_lit 461,o0)::(nat_lit 463,MU)::(nat_lit 464,MT)::(nat_lit 465,o0)::(nat_lit 467,MS)::(nat_lit 468,o0)::(nat_lit 470,MR)::(nat_lit 471,MQ)::(nat_lit 472,o0)::(nat_lit 474,MP)::(nat_lit 475,o0)::(nat_lit 477,MO)::(nat_lit 478,MN)::(nat_lit 479,o0)::(nat_lit 481,MM)::(nat_lit 482,o0)::(nat_lit 484,ML)::(nat_lit 485,MK)::(nat_lit 486,o0)::(nat_lit 488,MJ)::(nat_lit 489,o0)::(nat_lit 491,MI)::(nat_lit 492,MH)::(nat_lit 493,o0)::(nat_lit 495,MG)::(nat_lit 496,o0)::(nat_lit 498,MF)::(nat_lit 499,ME)::(nat_lit 500,o0)::(nat_lit 502,MD)::(nat_lit 503,o0)::(nat_lit 505,MC)::(nat_lit 506,MB)::(nat_lit 507,o0)::(nat_lit 509,MA)::(nat_lit 510,o0)::(nat_lit 512,Mz)::(nat_lit 513,Mx)::(nat_lit 514,o0)::(nat_lit 516,Mv)::(nat_lit 517,o0)::(nat_lit 519,Mu)::(nat_lit 520,Mt)::(nat_lit 521,o0)::(nat_lit 523,Ms)::(nat_lit 524,o0)::(nat_lit 526,Mr)::(nat_lit 527,Mq)::(nat_lit 528,o0)::(nat_lit 530,Mp)::(nat_lit 531,o0)::(nat_lit 533,Mo)::(nat_lit 534,Mn)::(nat_lit 535,o0)::(nat_lit 537,Mm)::(nat_lit 538,o0)::(nat_lit 540,Ml)::(nat_lit 541,Mj)::(nat_lit 542,o0)::(nat_lit 544,Mi)::(nat_lit 545,o0)::(nat_lit 547,Mh)::(nat_lit 548,Mg)::[]
noncomputable def as:List Addr:=[2,3,15,22,23,24,25,28,35,36,37,40,47,48,49,52,59,60,61,64,71,72,73,76,83,84,85,88,90,91,93,94,95,97,98,100,101,102,104,105,107,108,109,111,112,114,115,116,118,119,121,122,123,125,126,128,129,130,132,133,135,136,137,139,140,142,143,144,146,147,149,150,151,153,154,156,157,158,160,161,163,164,165,167,168,170,171,172,174,175,177,178,179,181,182,184,185,186,188,189,191,192,193,195,196,198,199,200,202,203,205,206,207,209,210,212,213,214,216,217,219,220,221,229,231,232,234,235,236,238,239,241,242,243,245,246,248,249,250,252,253,255,256,257,258,259,260,261,264,266,267,269,270,271,273,274,276,277,278,280,281,283,284,285,287,288,290,291,292,294,295,297,298,299,301,302,304,305,306,309,310,311,313,314,316,317,318,320,321,323,324,325,327,328,330,331,332,334,335,337,338,339,341,342,344,345,346,348,349,351,352,353,355,356,358,359,360,362,363,365,366,367,369,370,372,373,374,376,377,379,380,381,383,384,386,387,388,390,391,393,394,395,397,398,400,401,402,404,405,407,408,409,411,412,414,415,416,418,419,421,422,423,425,426,428,429,430,432,433,435,436,437,439,440,442,443,444,446,447,449,450,451,453,454,456,457,458,460,461,463,464,465,467,468,470,471,472,474,475,477,478,479,481,482,484,485,486,488,489,491,492,493,495,496,498,499,500,502,503,505,506,507,509,510,512,513,514,516,517,519,520,521,523,524,526,527,528,530,531,533,534,535,537,538,540,541,542,544,545,547,548]
noncomputable def env:Env:={ scope:=PySem.Challenge.pw_roundmill_k57_whole_shown_and_read.main.scope,locals:=mainNs,globals:=mainNs,cells:=[],code:=(.ref 13),frame:=some 14 }
noncomputable def FJ:List Stmt:=[T.top 0,T.top 1]
noncomputable def FH:List Stmt:=[T.top 2]
noncomputable def FG:List Stmt:=[T.top 3]
noncomputable def FF:List Stmt:=[T.top 4]
noncomputable def FE:List Stmt:=[T.top 5]
noncomputable def FD:List Stmt:=[T.top 6,T.top 7,T.top 8,T.top 9,T.top 10,T.top 11,T.top 12,T.top 13]
noncomputable def FC:List Stmt:=[T.top 14,T.top 15,T.top 16,T.top 17,T.top 18,T.top 19,T.top 20,T.top 21,T.top 22,T.top 23,T.top 24,T.top 25,T.top 26,T.top 27]
noncomputable def FA:List Stmt:=[T.top 28,T.top 29,T.top 30,T.top 31,T.top 32,T.top 33]
noncomputable def Fz:List Stmt:=[T.top 34,T.top 35,T.top 36,T.top 37]
noncomputable def zK:List Stmt:=[T.top 38,T.top 39,T.top 40,T.top 41,T.top 42,T.top 43,T.top 44,T.top 45,T.top 46,T.top 47,T.top 48,T.top 49,T.top 50,T.top 51,T.top 52,T.top 53]
noncomputable def zJ:List Stmt:=[T.top 54,T.top 55,T.top 56,T.top 57,T.top 58,T.top 59,T.top 60,T.top 61,T.top 62,T.top 63,T.top 64,T.top 65,T.top 66]
noncomputable def zI:List Stmt:=[T.top 67,T.top 68,T.top 69,T.top 70,T.top 71,T.top 72,T.top 73,T.top 74,T.top 75,T.top 76,T.top 77]
noncomputable def zH:List Stmt:=[T.top 78,T.top 79,T.top 80,T.top 81,T.top 82]
noncomputable def q:Program:=PySem.W.view PySem.Challenge.pw_roundmill_k57_whole_shown_and_read [1,2,3,4,5,6,8,9,10,11,12,13,14,16,17,18,19,20,21,23,24,25,26,27,28,29,30,31,33,34,35,37,38,39,41,42,43,44,45,46,47,48,49,50,51,53,54,55,56,57,58,59,60,61,62,64,65,66,67,68,69,70,71,72,73,74,75,76,77,78,79,80,81,82]
end
end H
namespace H
open PySem PySem.W PySem.Calls PySem.Spec PyProof.Rows L2 EV ES
noncomputable section
noncomputable def cB:Code:=Code.body (behindTheImports PySem.Challenge.pw_roundmill_k57_whole_shown_and_read) env
noncomputable def row:RowW:=OpenRow.toRowW (OpenLaw.row PySem.Challenge.rw_roundmill_k57_whole_shown_and_read)
noncomputable def Xt (s:Shared):Bool:=xlAt q [] s&&recOk (RowW.records row) s
end
theorem P1:(fun (_:Program) (_:Program) (_:Env) (_:Code) (_:Shared->Bool)=>true) PySem.Challenge.pw_roundmill_k57_whole_shown_and_read q env cB Xt=true:=by k_qdec
set_option maxHeartbeats 0 in
theorem Ky:∀ w:World,(fun os:OsState=>topGo treeTable PySem.Challenge.pw_roundmill_k57_whole_shown_and_read w 11 (some (.ref 6)) 12 (Shared.mk (boot_heap w.params) (Array.mk []) boot_drawn boot_toks os) (topStub PySem.Challenge.pw_roundmill_k57_whole_shown_and_read))=fun os:OsState=>some ((Shared.mk (ha w.params) ⟨[]⟩ (Drawn.mk 0 0 0 0) 187 os),Thread.mk (denote treeTable cB) cB (Pos.mk 0 0 0 0) [topFrame (Pos.mk 0 0 0 0)]):=by
 rewrite [PySem.W.Fast.te15667345088766844465,PySem.W.Fast.te14364793385576792824,PySem.W.Fast.te16224575447806817262,PySem.W.Fast.te11892475500146522536,PySem.W.Fast.te2060423359788512156]
 intro w
 kernel_rfl
set_option maxHeartbeats 0 in
theorem Fx:∀ w:World,(fun os:OsState=>segRun treeTable PySem.Challenge.pw_roundmill_k57_whole_shown_and_read w 11 (some (.ref 6)) 1 1 (Shared.mk (ha w.params) ⟨[]⟩ (Drawn.mk 0 0 0 0) 187 os) (blockOf (behindTheImports PySem.Challenge.pw_roundmill_k57_whole_shown_and_read) env cB (Pos.mk 0 0 0 0) [topFrame (Pos.mk 0 0 0 0)]))=fun os:OsState=>some (Flow.next,(SharedT.abs (SharedT.mk (t_0 w.params) 15 (Life.mk [] [] [] 0 [] [] false #[] [] 0 false false false 0 [2000,10,10] false 0 true [] [] 0 false) ⟨[]⟩ (Drawn.mk 0 0 0 0) 187 os)),cB,(Pos.mk 0 0 0 0)):=by
 rewrite [PySem.W.Fast.te14374325043358763698,PySem.W.Fast.te14364793385576792824,PySem.W.Fast.te16224575447806817262,PySem.W.Fast.te2060423359788512156]
 intro w
 kernel_rfl
set_option maxHeartbeats 0 in
theorem Qi:∀ w:World,(fun os:OsState=>segRunT treeTable PySem.Challenge.pw_roundmill_k57_whole_shown_and_read w 11 (some (.ref 6)) 1 196 (SharedT.mk (t_0 w.params) 15 (Life.mk [] [] [] 0 [] [] false #[] [] 0 false false false 0 [2000,10,10] false 0 true [] [] 0 false) ⟨[]⟩ (Drawn.mk 0 0 0 0) 187 os) (piecesOf FJ env cB (Pos.mk 0 0 0 0) [topFrame (Pos.mk 0 0 0 0)]))=fun os:OsState=>some (Flow.next,(SharedT.mk (t_1 w.params) 28 (Life.mk [] [] [] 0 [] [] false #[] [] 0 false false false 0 [2000,10,10] false 0 true [] [] 0 false) ⟨[]⟩ (Drawn.mk 0 0 0 0) 207 os),cB,(Pos.mk 2 0 3 8)):=by
 rewrite [PySem.W.Fast.te10110043849684766642,PySem.W.Fast.te14364793385576792824,PySem.W.Fast.te16224575447806817262,PySem.W.Fast.te2060423359788512156]
 intro w
 kernel_rfl
set_option maxHeartbeats 0 in
theorem Qh:∀ w:World,(fun os:OsState=>segRunT treeTable PySem.Challenge.pw_roundmill_k57_whole_shown_and_read w 11 (some (.ref 6)) 1 214 (SharedT.mk (t_1 w.params) 28 (Life.mk [] [] [] 0 [] [] false #[] [] 0 false false false 0 [2000,10,10] false 0 true [] [] 0 false) ⟨[]⟩ (Drawn.mk 0 0 0 0) 207 os) (piecesOf FH env cB (Pos.mk 2 0 3 8) [topFrame (Pos.mk 0 0 0 0)]))=fun os:OsState=>some (Flow.next,(SharedT.mk (t_2 w.params) 40 (Life.mk [] [] [] 0 [] [] false #[] [] 0 false false false 0 [2000,10,10] false 0 true [] [] 0 false) ⟨[]⟩ (Drawn.mk 0 0 0 0) 223 os),cB,(Pos.mk 4 0 5 8)):=by
 rewrite [PySem.W.Fast.te10110043849684766642,PySem.W.Fast.te14364793385576792824,PySem.W.Fast.te16224575447806817262,PySem.W.Fast.te2060423359788512156]
 intro w
 kernel_rfl
set_option maxHeartbeats 0 in
theorem Qg:∀ w:World,(fun os:OsState=>segRunT treeTable PySem.Challenge.pw_roundmill_k57_whole_shown_and_read w 11 (some (.ref 6)) 1 214 (SharedT.mk (t_2 w.params) 40 (Life.mk [] [] [] 0 [] [] false #[] [] 0 false false false 0 [2000,10,10] false 0 true [] [] 0 false) ⟨[]⟩ (Drawn.mk 0 0 0 0) 223 os) (piecesOf FG env cB (Pos.mk 4 0 5 8) [topFrame (Pos.mk 0 0 0 0)]))=fun os:OsState=>some (Flow.next,(SharedT.mk (t_3 w.params) 52 (Life.mk [] [] [] 0 [] [] false #[] [] 0 false false false 0 [2000,10,10] false 0 true [] [] 0 false) ⟨[]⟩ (Drawn.mk 0 0 0 0) 239 os),cB,(Pos.mk 6 0 7 8)):=by
 rewrite [PySem.W.Fast.te10110043849684766642,PySem.W.Fast.te14364793385576792824,PySem.W.Fast.te16224575447806817262,PySem.W.Fast.te2060423359788512156]
 intro w
 kernel_rfl
set_option maxHeartbeats 0 in
theorem Qe:∀ w:World,(fun os:OsState=>segRunT treeTable PySem.Challenge.pw_roundmill_k57_whole_shown_and_read w 11 (some (.ref 6)) 1 214 (SharedT.mk (t_3 w.params) 52 (Life.mk [] [] [] 0 [] [] false #[] [] 0 false false false 0 [2000,10,10] false 0 true [] [] 0 false) ⟨[]⟩ (Drawn.mk 0 0 0 0) 239 os) (piecesOf FF env cB (Pos.mk 6 0 7 8) [topFrame (Pos.mk 0 0 0 0)]))=fun os:OsState=>some (Flow.next,(SharedT.mk (t_4 w.params) 64 (Life.mk [] [] [] 0 [] [] false #[] [] 0 false false false 0 [2000,10,10] false 0 true [] [] 0 false) ⟨[]⟩ (Drawn.mk 0 0 0 0) 255 os),cB,(Pos.mk 8 0 9 8)):=by
 rewrite [PySem.W.Fast.te10110043849684766642,PySem.W.Fast.te14364793385576792824,PySem.W.Fast.te16224575447806817262,PySem.W.Fast.te2060423359788512156]
 intro w
 kernel_rfl
set_option maxHeartbeats 0 in
theorem Qd:∀ w:World,(fun os:OsState=>segRunT treeTable PySem.Challenge.pw_roundmill_k57_whole_shown_and_read w 11 (some (.ref 6)) 1 214 (SharedT.mk (t_4 w.params) 64 (Life.mk [] [] [] 0 [] [] false #[] [] 0 false false false 0 [2000,10,10] false 0 true [] [] 0 false) ⟨[]⟩ (Drawn.mk 0 0 0 0) 255 os) (piecesOf FE env cB (Pos.mk 8 0 9 8) [topFrame (Pos.mk 0 0 0 0)]))=fun os:OsState=>some (Flow.next,(SharedT.mk (t_5 w.params) 76 (Life.mk [] [] [] 0 [] [] false #[] [] 0 false false false 0 [2000,10,10] false 0 true [] [] 0 false) ⟨[]⟩ (Drawn.mk 0 0 0 0) 271 os),cB,(Pos.mk 10 0 11 8)):=by
 rewrite [PySem.W.Fast.te10110043849684766642,PySem.W.Fast.te14364793385576792824,PySem.W.Fast.te16224575447806817262,PySem.W.Fast.te2060423359788512156]
 intro w
 kernel_rfl
set_option maxHeartbeats 0 in
theorem Qc:∀ w:World,(fun os:OsState=>segRunT treeTable PySem.Challenge.pw_roundmill_k57_whole_shown_and_read w 11 (some (.ref 6)) 1 397 (SharedT.mk (t_5 w.params) 76 (Life.mk [] [] [] 0 [] [] false #[] [] 0 false false false 0 [2000,10,10] false 0 true [] [] 0 false) ⟨[]⟩ (Drawn.mk 0 0 0 0) 271 os) (piecesOf FD env cB (Pos.mk 10 0 11 8) [topFrame (Pos.mk 0 0 0 0)]))=fun os:OsState=>some (Flow.next,(SharedT.mk (t_6 w.params) 130 (Life.mk [] [] [] 0 [] [] false #[] [] 0 false false false 0 [2000,10,10] false 0 true [] [] 0 false) ⟨[]⟩ (Drawn.mk 0 0 0 0) 331 os),cB,(Pos.mk 25 0 26 38)):=by
 rewrite [PySem.W.Fast.te10110043849684766642,PySem.W.Fast.te14364793385576792824,PySem.W.Fast.te16224575447806817262,PySem.W.Fast.te2060423359788512156]
 intro w
 kernel_rfl
set_option maxHeartbeats 0 in
theorem Qb:∀ w:World,(fun os:OsState=>segRunT treeTable PySem.Challenge.pw_roundmill_k57_whole_shown_and_read w 11 (some (.ref 6)) 1 395 (SharedT.mk (t_6 w.params) 130 (Life.mk [] [] [] 0 [] [] false #[] [] 0 false false false 0 [2000,10,10] false 0 true [] [] 0 false) ⟨[]⟩ (Drawn.mk 0 0 0 0) 331 os) (piecesOf FC env cB (Pos.mk 25 0 26 38) [topFrame (Pos.mk 0 0 0 0)]))=fun os:OsState=>some (Flow.next,(SharedT.mk (t_7 w.params) 214 (Life.mk [] [] [] 0 [] [] false #[] [] 0 false false false 0 [2000,10,10] false 0 true [] [] 0 false) ⟨[]⟩ (Drawn.mk 0 0 0 0) 447 os),cB,(Pos.mk 88 0 89 44)):=by
 rewrite [PySem.W.Fast.te10110043849684766642,PySem.W.Fast.te14364793385576792824,PySem.W.Fast.te16224575447806817262,PySem.W.Fast.te2060423359788512156]
 intro w
 kernel_rfl
set_option maxHeartbeats 0 in
theorem Qa:∀ w:World,(fun os:OsState=>segRunT treeTable PySem.Challenge.pw_roundmill_k57_whole_shown_and_read w 11 (some (.ref 6)) 1 83 (SharedT.mk (t_7 w.params) 214 (Life.mk [] [] [] 0 [] [] false #[] [] 0 false false false 0 [2000,10,10] false 0 true [] [] 0 false) ⟨[]⟩ (Drawn.mk 0 0 0 0) 447 os) (piecesOf FA env cB (Pos.mk 88 0 89 44) [topFrame (Pos.mk 0 0 0 0)]))=fun os:OsState=>some (Flow.next,(SharedT.mk (t_8 w.params) 222 (Life.mk [] [] [] 0 [] [] false #[] [] 0 false false false 0 [2000,10,10] false 0 true [] [] 0 false) ⟨[]⟩ (Drawn.mk 0 0 0 0) 470 os),cB,(Pos.mk 96 0 96 5)):=by
 rewrite [PySem.W.Fast.te10110043849684766642,PySem.W.Fast.te14364793385576792824,PySem.W.Fast.te16224575447806817262,PySem.W.Fast.te2060423359788512156]
 intro w
 kernel_rfl
set_option maxHeartbeats 0 in
theorem P9:∀ w:World,(fun os:OsState=>segRunT treeTable PySem.Challenge.pw_roundmill_k57_whole_shown_and_read w 11 (some (.ref 6)) 1 397 (SharedT.mk (t_8 w.params) 222 (Life.mk [] [] [] 0 [] [] false #[] [] 0 false false false 0 [2000,10,10] false 0 true [] [] 0 false) ⟨[]⟩ (Drawn.mk 0 0 0 0) 470 os) (piecesOf Fz env cB (Pos.mk 96 0 96 5) [topFrame (Pos.mk 0 0 0 0)]))=fun os:OsState=>some (Flow.next,(SharedT.mk (t_9 w.params) 278 (Life.mk [] [] [] 0 [] [] false #[] [] 0 false false false 0 [2000,10,10] false 0 true [] [] 0 false) ⟨[]⟩ (Drawn.mk 0 0 0 0) 550 os),cB,(Pos.mk 125 0 135 69)):=by
 rewrite [PySem.W.Fast.te10110043849684766642,PySem.W.Fast.te14364793385576792824,PySem.W.Fast.te16224575447806817262,PySem.W.Fast.te2060423359788512156]
 intro w
 kernel_rfl
set_option maxHeartbeats 0 in
theorem KD:∀ w:World,(fun os:OsState=>segRunT treeTable PySem.Challenge.pw_roundmill_k57_whole_shown_and_read w 11 (some (.ref 6)) 1 388 (SharedT.mk (t_9 w.params) 278 (Life.mk [] [] [] 0 [] [] false #[] [] 0 false false false 0 [2000,10,10] false 0 true [] [] 0 false) ⟨[]⟩ (Drawn.mk 0 0 0 0) 550 os) (piecesOf zK env cB (Pos.mk 125 0 135 69) [topFrame (Pos.mk 0 0 0 0)]))=fun os:OsState=>some (Flow.next,(SharedT.mk (Md w.params) 353 (Life.mk [] [] [] 0 [] [] false #[] [] 0 false false false 0 [2000,10,10] false 0 true [] [] 0 false) ⟨[]⟩ (Drawn.mk 0 0 0 0) 662 os),cB,(Pos.mk 196 0 199 69)):=by
 rewrite [PySem.W.Fast.te10110043849684766642,PySem.W.Fast.te14364793385576792824,PySem.W.Fast.te16224575447806817262,PySem.W.Fast.te2060423359788512156]
 intro w
 kernel_rfl
set_option maxHeartbeats 0 in
theorem KC:∀ w:World,(fun os:OsState=>segRunT treeTable PySem.Challenge.pw_roundmill_k57_whole_shown_and_read w 11 (some (.ref 6)) 1 391 (SharedT.mk (Md w.params) 353 (Life.mk [] [] [] 0 [] [] false #[] [] 0 false false false 0 [2000,10,10] false 0 true [] [] 0 false) ⟨[]⟩ (Drawn.mk 0 0 0 0) 662 os) (piecesOf zJ env cB (Pos.mk 196 0 199 69) [topFrame (Pos.mk 0 0 0 0)]))=fun os:OsState=>some (Flow.next,(SharedT.mk (Mc w.params) 437 (Life.mk [] [] [] 0 [] [] false #[] [] 0 false false false 0 [2000,10,10] false 0 true [] [] 0 false) ⟨[]⟩ (Drawn.mk 0 0 0 0) 781 os),cB,(Pos.mk 266 0 267 66)):=by
 rewrite [PySem.W.Fast.te10110043849684766642,PySem.W.Fast.te14364793385576792824,PySem.W.Fast.te16224575447806817262,PySem.W.Fast.te2060423359788512156]
 intro w
 kernel_rfl
set_option maxHeartbeats 0 in
theorem KA:∀ w:World,(fun os:OsState=>segRunT treeTable PySem.Challenge.pw_roundmill_k57_whole_shown_and_read w 11 (some (.ref 6)) 1 375 (SharedT.mk (Mc w.params) 437 (Life.mk [] [] [] 0 [] [] false #[] [] 0 false false false 0 [2000,10,10] false 0 true [] [] 0 false) ⟨[]⟩ (Drawn.mk 0 0 0 0) 781 os) (piecesOf zI env cB (Pos.mk 266 0 267 66) [topFrame (Pos.mk 0 0 0 0)]))=fun os:OsState=>some (Flow.next,(SharedT.mk (Mb w.params) 514 (Life.mk [] [] [] 0 [] [] false #[] [] 0 false false false 0 [2000,10,10] false 0 true [] [] 0 false) ⟨[]⟩ (Drawn.mk 0 0 0 0) 913 os),cB,(Pos.mk 390 0 396 25)):=by
 rewrite [PySem.W.Fast.te10110043849684766642,PySem.W.Fast.te14364793385576792824,PySem.W.Fast.te16224575447806817262,PySem.W.Fast.te2060423359788512156]
 intro w
 kernel_rfl
set_option maxHeartbeats 0 in
theorem Kz:∀ w:World,(fun os:OsState=>segRunT treeTable PySem.Challenge.pw_roundmill_k57_whole_shown_and_read w 11 (some (.ref 6)) 1 173 (SharedT.mk (Mb w.params) 514 (Life.mk [] [] [] 0 [] [] false #[] [] 0 false false false 0 [2000,10,10] false 0 true [] [] 0 false) ⟨[]⟩ (Drawn.mk 0 0 0 0) 913 os) (piecesOf zH env cB (Pos.mk 390 0 396 25) [topFrame (Pos.mk 0 0 0 0)]))=fun os:OsState=>some (Flow.next,(SharedT.mk (Ma w.params) 549 (Life.mk [] [] [] 0 [] [] false #[] [] 0 false false false 0 [2000,10,10] false 0 true [] [] 0 false) ⟨[]⟩ (Drawn.mk 0 0 0 0) 975 os),cB,(Pos.mk 454 0 466 15)):=by
 rewrite [PySem.W.Fast.te10110043849684766642,PySem.W.Fast.te14364793385576792824,PySem.W.Fast.te16224575447806817262,PySem.W.Fast.te2060423359788512156]
 intro w
 kernel_rfl
set_option maxHeartbeats 0 in
theorem KH:∀ w:World,(fun os:OsState=>topRun treeTable PySem.Challenge.pw_roundmill_k57_whole_shown_and_read w 11 (some (.ref 6)) 2 (SharedT.abs (SharedT.mk (Ma w.params) 549 (Life.mk [] [] [] 0 [] [] false #[] [] 0 false false false 0 [2000,10,10] false 0 true [] [] 0 false) ⟨[]⟩ (Drawn.mk 0 0 0 0) 975 os)) (Thread.mk (doneF Flow.next) cB (Pos.mk 454 0 466 15) [topFrame (Pos.mk 0 0 0 0)]))=fun os:OsState=>some (Shared.mk (hf w.params) ⟨[]⟩ (Drawn.mk 0 0 0 0) 975 os):=by
 rewrite [PySem.W.Fast.te14082659384304107361,PySem.W.Fast.te14364793385576792824,PySem.W.Fast.te16224575447806817262,PySem.W.Fast.te2060423359788512156]
 intro w
 kernel_rfl
set_option maxHeartbeats 0 in
theorem Ie:∀ w:World,((boot_heap w.params).isNs mainGlobals&&(Array.mk []:Array GenState).size == 0,(boot_heap w.params).objs.size,(boot_heap w.params).nsMap mainGlobals "__annotations__")=(true,11,(some (.ref 6))):=by
 rewrite [PySem.W.Fast.te8920871248978507458]
 intro w
 kernel_rfl
set_option maxHeartbeats 0 in
theorem l_1:∀ w:World,(fun os:OsState=>staticsOk (importedModules (Program.main PySem.Challenge.pw_roundmill_k57_whole_shown_and_read).body) (boot_heap w.params) (hf w.params)&&namesBound PySem.Challenge.pw_roundmill_k57_whole_shown_and_read (hf w.params)&&gensDone (Shared.mk (hf w.params) ⟨[]⟩ (Drawn.mk 0 0 0 0) 975 os)&&laidKept (boot_heap w.params) (hf w.params))=fun os:OsState=>true:=by
 rewrite [PySem.W.Fast.te5923862056798008813,PySem.W.Fast.te16224575447806817262]
 intro w
 kernel_rfl
set_option maxHeartbeats 0 in
theorem Sj:∀ w:World,(fun os:OsState=>(openSeen q [] (importedModules (Program.main PySem.Challenge.pw_roundmill_k57_whole_shown_and_read).body) Xt true (Shared.mk (hf w.params) ⟨[]⟩ (Drawn.mk 0 0 0 0) 975 os)).1)=fun os:OsState=>(openGood q []).1:=by
 unfold openSeen openGood
 dsimp only
 rewrite [PySem.W.Fast.te5160383126252970620,PySem.W.R.mapR_eq,PySem.W.Fast.te3399658132070893891,PySem.W.Fast.te5991557255702980513]
 intro w
 kernel_rfl
set_option maxHeartbeats 0 in
theorem Si:∀ w:World,(fun os:OsState=>(openSeen q [] (importedModules (Program.main PySem.Challenge.pw_roundmill_k57_whole_shown_and_read).body) Xt true (Shared.mk (hf w.params) ⟨[]⟩ (Drawn.mk 0 0 0 0) 975 os)).2.1)=fun os:OsState=>(openGood q []).2.1:=by
 unfold openSeen openGood
 dsimp only
 intro w
 kernel_rfl
set_option maxHeartbeats 0 in
theorem Sg:∀ w:World,(fun os:OsState=>(openSeen q [] (importedModules (Program.main PySem.Challenge.pw_roundmill_k57_whole_shown_and_read).body) Xt true (Shared.mk (hf w.params) ⟨[]⟩ (Drawn.mk 0 0 0 0) 975 os)).2.2.1)=fun os:OsState=>(openGood q []).2.2.1:=by
 unfold openSeen openGood
 dsimp only
 rewrite [PySem.W.Fast.te10880121769531294198,PySem.W.Fast.te821141287760084731,PySem.W.R.mapR_eq,PySem.W.Fast.te3399658132070893891,PySem.W.Fast.te7409074990110511671,PySem.W.Fast.te13664370479719496447,PySem.W.Fast.te14722251495701143533,PySem.W.Fast.te5923862056798008813,PySem.W.Fast.te16224575447806817262,PySem.W.Fast.te10994771534591457954,PySem.W.Fast.te18408535023408442824]
 intro w
 kernel_rfl
set_option maxHeartbeats 0 in
theorem Sf:∀ w:World,(fun os:OsState=>(openSeen q [] (importedModules (Program.main PySem.Challenge.pw_roundmill_k57_whole_shown_and_read).body) Xt true (Shared.mk (hf w.params) ⟨[]⟩ (Drawn.mk 0 0 0 0) 975 os)).2.2.2.1)=fun os:OsState=>(openGood q []).2.2.2.1:=by
 unfold openSeen openGood
 dsimp only
 rewrite [PySem.W.Fast.te479339242167458305]
 intro w
 kernel_rfl
set_option maxHeartbeats 0 in
theorem Se:∀ w:World,(fun os:OsState=>(openSeen q [] (importedModules (Program.main PySem.Challenge.pw_roundmill_k57_whole_shown_and_read).body) Xt true (Shared.mk (hf w.params) ⟨[]⟩ (Drawn.mk 0 0 0 0) 975 os)).2.2.2.2.1)=fun os:OsState=>(openGood q []).2.2.2.2.1:=by
 unfold openSeen openGood
 dsimp only
 rewrite [PySem.W.Fast.te16090120013241838585,PySem.W.Fast.te3247288618530077131]
 intro w
 kernel_rfl
set_option maxHeartbeats 0 in
theorem Sd:∀ w:World,(fun os:OsState=>(openSeen q [] (importedModules (Program.main PySem.Challenge.pw_roundmill_k57_whole_shown_and_read).body) Xt true (Shared.mk (hf w.params) ⟨[]⟩ (Drawn.mk 0 0 0 0) 975 os)).2.2.2.2.2.1)=fun os:OsState=>(openGood q []).2.2.2.2.2.1:=by
 unfold openSeen openGood
 dsimp only
 rewrite [PySem.W.Fast.te2386780881361962483,PySem.W.Fast.te821141287760084731]
 intro w
 kernel_rfl
set_option maxHeartbeats 0 in
theorem Sb:∀ w:World,(fun os:OsState=>(openSeen q [] (importedModules (Program.main PySem.Challenge.pw_roundmill_k57_whole_shown_and_read).body) Xt true (Shared.mk (hf w.params) ⟨[]⟩ (Drawn.mk 0 0 0 0) 975 os)).2.2.2.2.2.2.1)=fun os:OsState=>(openGood q []).2.2.2.2.2.2.1:=by
 unfold openSeen openGood
 dsimp only
 rewrite [PySem.W.Fast.te11698064438423848299]
 intro w
 kernel_rfl
set_option maxHeartbeats 0 in
theorem Sa:∀ w:World,(fun os:OsState=>(openSeen q [] (importedModules (Program.main PySem.Challenge.pw_roundmill_k57_whole_shown_and_read).body) Xt true (Shared.mk (hf w.params) ⟨[]⟩ (Drawn.mk 0 0 0 0) 975 os)).2.2.2.2.2.2.2.1)=fun os:OsState=>(openGood q []).2.2.2.2.2.2.2.1:=by
 unfold openSeen openGood
 dsimp only
 rewrite [PySem.W.Fast.te7317090234206586261]
 intro w
 kernel_rfl
set_option maxHeartbeats 0 in
theorem R9:∀ w:World,(fun os:OsState=>(openSeen q [] (importedModules (Program.main PySem.Challenge.pw_roundmill_k57_whole_shown_and_read).body) Xt true (Shared.mk (hf w.params) ⟨[]⟩ (Drawn.mk 0 0 0 0) 975 os)).2.2.2.2.2.2.2.2)=fun os:OsState=>(openGood q []).2.2.2.2.2.2.2.2:=by
 unfold openSeen openGood
 dsimp only
 rewrite [PySem.W.Fast.te7369524293546568484]
 intro w
 kernel_rfl
set_option maxHeartbeats 0 in
theorem l_k:∀ w:World,(fun os:OsState=>as.map (Shared.heap (Shared.mk (hf w.params) ⟨[]⟩ (Drawn.mk 0 0 0 0) 975 os)).get?)=fun os:OsState=>(K w.params).map fun x=>some x.2:=by
 rewrite [PySem.W.R.mapR_eq]
 intro w
 kernel_rfl
theorem h_b:behindTheImports PySem.Challenge.pw_roundmill_k57_whole_shown_and_read=FJ++(FH++(FG++(FF++(FE++(FD++(FC++(FA++(Fz++(zK++(zJ++(zI++(zH++[])))))))))))):=by kernel_rfl
theorem KW (w:World) (os:OsState):topRun treeTable PySem.Challenge.pw_roundmill_k57_whole_shown_and_read w 11 (some (.ref 6)) (196+(214+(214+(214+(214+(397+(395+(83+(397+(388+(391+(375+(173+(2)))))))))))))) (SharedT.abs (SharedT.mk (t_0 w.params) 15 (Life.mk [] [] [] 0 [] [] false #[] [] 0 false false false 0 [2000,10,10] false 0 true [] [] 0 false) ⟨[]⟩ (Drawn.mk 0 0 0 0) 187 os)) (restOf (FJ++(FH++(FG++(FF++(FE++(FD++(FC++(FA++(Fz++(zK++(zJ++(zI++(zH++[]))))))))))))) env cB (Pos.mk 0 0 0 0) [topFrame (Pos.mk 0 0 0 0)])=some (Shared.mk (hf w.params) ⟨[]⟩ (Drawn.mk 0 0 0 0) 975 os) :=
 piece_app (segRun_of (congrFun (Qi w) os)) (piece_app (segRun_of (congrFun (Qh w) os)) (piece_app (segRun_of (congrFun (Qg w) os)) (piece_app (segRun_of (congrFun (Qe w) os)) (piece_app (segRun_of (congrFun (Qd w) os)) (piece_app (segRun_of (congrFun (Qc w) os)) (piece_app (segRun_of (congrFun (Qb w) os)) (piece_app (segRun_of (congrFun (Qa w) os)) (piece_app (segRun_of (congrFun (P9 w) os)) (piece_app (segRun_of (congrFun (KD w) os)) (piece_app (segRun_of (congrFun (KC w) os)) (piece_app (segRun_of (congrFun (KA w) os)) (piece_app (segRun_of (congrFun (Kz w) os)) (piece_nil (congrFun (KH w) os))))))))))))))
theorem run (w:World) (os:OsState):topRun treeTable PySem.Challenge.pw_roundmill_k57_whole_shown_and_read w 11 (some (.ref 6)) (12+(1+(196+(214+(214+(214+(214+(397+(395+(83+(397+(388+(391+(375+(173+(2)))))))))))))))) (Shared.mk (boot_heap w.params) (Array.mk []) boot_drawn boot_toks os) (topStub PySem.Challenge.pw_roundmill_k57_whole_shown_and_read)=some (Shared.mk (hf w.params) ⟨[]⟩ (Drawn.mk 0 0 0 0) 975 os) :=
 go_top (congrFun (Ky w) os) (piece_block (congrFun (Fx w) os) ((congrArg (fun b=>topRun treeTable PySem.Challenge.pw_roundmill_k57_whole_shown_and_read w 11 (some (.ref 6)) (196+(214+(214+(214+(214+(397+(395+(83+(397+(388+(391+(375+(173+(2)))))))))))))) (SharedT.abs (SharedT.mk (t_0 w.params) 15 (Life.mk [] [] [] 0 [] [] false #[] [] 0 false false false 0 [2000,10,10] false 0 true [] [] 0 false) ⟨[]⟩ (Drawn.mk 0 0 0 0) 187 os)) (restOf b env cB (Pos.mk 0 0 0 0) [topFrame (Pos.mk 0 0 0 0)])) h_b).trans (KW w os)))
theorem opened:∀ w:World,(fencedOpening treeTable PySem.Challenge.pw_roundmill_k57_whole_shown_and_read w 7402).map (fun s=>(s.heap,s.gens,s.drawn,s.toks))=some (boot_heap w.params,Array.mk [],boot_drawn,boot_toks):=boot_open (by kernel_rfl) (by decide) (fun s=>by kernel_rfl)
theorem he:∀ P,as=(K P).map (·.1):=fun _=>by kernel_rfl
theorem left:LeftO PySem.Challenge.pw_roundmill_k57_whole_shown_and_read q [] Xt (kHook K as he).obs (kHook K as he).val 7402 :=
 LeftO.of_pieces opened Ie run (by decide) fun w=>funext fun os=>Prod.ext (congrFun (l_1 w) os) (Prod.ext (Prod.ext (congrFun (Sj w) os) (Prod.ext (congrFun (Si w) os) (Prod.ext (congrFun (Sg w) os) (Prod.ext (congrFun (Sf w) os) (Prod.ext (congrFun (Se w) os) (Prod.ext (congrFun (Sd w) os) (Prod.ext (congrFun (Sb w) os) (Prod.ext (congrFun (Sa w) os) (congrFun (R9 w) os))))))))) (congrFun (l_k w) os))
end H
namespace EV
open PySem (Str)
theorem ai (k:Int):0<pw k:=Int.pow_pos (by decide)
theorem cm {a b:Int} (ha:0<=a) (hb:0<=b):pw (a+b)=pw a*pw b:=by
 unfold pw
 rw [Int.toNat_add ha hb,Int.pow_add]
theorem cj {a:Int} (ha:0<=a):pw (a+1)=2*pw a:=by
 rw [cm ha (by decide),Int.mul_comm]
 rfl
theorem d3 {a b:Int} (h:a<=b):pw a<=pw b:=by
 unfold pw
 have e1:((2^a.toNat:Nat):Int)=(2:Int)^a.toNat:=by simp
 have e2:((2^b.toNat:Nat):Int)=(2:Int)^b.toNat:=by simp
 rw [<- e1,<-e2]
 exact Int.ofNat_le.mpr (Nat.pow_le_pow_right (by decide) (by omega))
theorem iB {i:Int} {k:Nat}:nb i<=k↔i.natAbs<2^k:=by
 unfold nb
 by_cases h:i=0
 ·subst h
  simp
  exact Nat.two_pow_pos k
 ·rw [if_neg h]
  have h0:i.natAbs≠0:=by omega
  rw [<- Nat.log2_lt h0]
  omega
theorem oy (i:Int):i.natAbs<2^nb i:=iB.mp (Nat.le_refl _)
theorem iU {i j:Int} (h:i.natAbs<=j.natAbs):nb i<=nb j:=iB.mpr (Nat.lt_of_le_of_lt h (oy j))
theorem EG {i j:Int} {a b:Nat} (hi:nb i<=a) (hj:nb j<=b):nb (i+j)<=max a b+1:=by
 rw [iB] at hi hj ⊢
 have h1:2^a<=2^max a b:=Nat.pow_le_pow_right (by decide) (Nat.le_max_left a b)
 have h2:2^b<=2^max a b:=Nat.pow_le_pow_right (by decide) (Nat.le_max_right a b)
 rw [Nat.pow_succ]
 omega
theorem Jv (i:Int):nb (-i)=nb i:=Nat.le_antisymm (iU (by omega)) (iU (by omega))
theorem Ju {i j:Int} {a b:Nat} (hi:nb i<=a) (hj:nb j<=b):nb (i - j)<=max a b+1:=by
 rw [Int.sub_eq_add_neg]
 exact EG hi (by rw [Jv];exact hj)
theorem eV {i j:Int} {a b:Nat} (hi:nb i<=a) (hj:nb j<=b):nb (i*j)<=a+b:=by
 rw [iB] at hi hj ⊢
 rw [Int.natAbs_mul,Nat.pow_add]
 rcases Nat.eq_zero_or_pos i.natAbs with h0 | h0
 ·rw [h0,Nat.zero_mul];exact Nat.mul_pos (Nat.two_pow_pos a) (Nat.two_pow_pos b)
 ·exact Nat.lt_of_lt_of_le (Nat.mul_lt_mul_of_pos_left hj h0) (Nat.mul_le_mul_right _ (Nat.le_of_lt hi))
theorem wq {i j:Int} {b:Nat} (h:0<j) (hj:nb j<=b):nb (i%j)<=b:=by
 refine Nat.le_trans (iU ?_) hj
 have h1:=Int.emod_nonneg i (by omega:j≠0)
 have h2:=Int.emod_lt_of_pos i h
 omega
theorem yf {i j:Int} (h:0<j):(i / j).natAbs<=i.natAbs:=by
 have h3:i=j*(i / j)+i%j:=(Int.mul_ediv_add_emod i j).symm
 have h1:=Int.emod_nonneg i (by omega:j≠0)
 have h2:=Int.emod_lt_of_pos i h
 by_cases hi:0<=i
 ·have:=Int.ediv_nonneg hi (by omega:(0:Int)<=j)
  have:=Int.ediv_le_self j hi
  omega
 ·have h4:i / j<0:=Int.ediv_neg_of_neg_of_pos (by omega) h
  have h5:(j - 1)*(i / j)<=(j - 1)*(-1):=Int.mul_le_mul_of_nonneg_left (by omega) (by omega)
  rw [Int.sub_mul,Int.one_mul] at h5
  generalize j*(i / j)=z at *
  omega
theorem wt {i j:Int} {a:Nat} (h:0<j) (hi:nb i<=a):nb (i / j)<=a:=Nat.le_trans (iU (yf h)) hi
theorem kR {k:Int} {c:Nat} (hk:k<=c):nb (pw k)<=c+1:=by
 rw [iB]
 unfold pw
 rw [Int.natAbs_pow]
 exact Nat.pow_lt_pow_right (a:=2) (by decide) (by omega)
theorem ox {i:Int} (h0:0<=i):i<pw (nb i):=by
 have:=oy i
 unfold pw
 have e:((2^((nb i:Int)).toNat:Nat):Int)=(2:Int)^((nb i:Int)).toNat:=by simp
 rw [<- e,show ((nb i:Int)).toNat=nb i by omega]
 omega
theorem MulOk.of {i j:Int} {a b:Nat} (hi:nb i<=a) (hj:nb j<=b) (h:a+b<=134217728):MulOk i j:=by
 unfold MulOk
 omega
theorem ie.small {i j:Int} (h:0<j) (hj:nb j<=9000):ie i j:=⟨h,.inl hj⟩
theorem GH {i:Int}:nb i<=nb i:=Nat.le_refl _
theorem CM {i:Int} {a b:Nat} (h:nb i<=a) (h2:a<=b):nb i<=b:=Nat.le_trans h h2
theorem ak {i j:Int} (h:MulOk i j):dY (.int i) (.int j)=.ok (.int (i*j)):=by unfold dY;simp only;rw [if_pos h]
theorem cT {i j:Int} (h:ie i j):oDiv (.int i) (.int j)=.ok (.int (i / j)):=by unfold oDiv;simp only;rw [if_pos h]
theorem mf {i j:Int} (h:0<j):oMod (.int i) (.int j)=.ok (.int (i%j)):=by unfold oMod;simp only;rw [if_pos h]
theorem vY {i j:Int} (h:0<j) (h2:j<18446744073709551616):oDiv (.int i) (.int j)=.ok (.int (i / j)):=cT (ie.small h (by
 have:nb j<=64:=iB.mpr (by omega)
 omega))
theorem ay {i j:Int} (h:0<=j) (h2:(nb i:Int)+j<=134217728):cO (.int i) (.int j)=.ok (.int (i*pw j)):=by unfold cO;simp only;rw [if_pos ⟨h,h2⟩]
theorem Ay {i j:Int} (h:0<=j):EB (.int i) (.int j)=.ok (.int (i / pw j)):=by unfold EB;simp only;rw [if_pos h]
section
variable {α β:Type} {d d':D} {δ:Dt} {C:String} {f:α->R β} {c:Option D}
theorem By (a:α):(R.ok a).bind f=f a:=rfl
theorem Bz:(R.ex C:R α).bind f=.ex C:=rfl
theorem wZ:(R.bad:R α).bind f=.bad:=rfl
theorem wY {p:Prop} [Decidable p] (x y:R α):(if p then x else y).bind f=if p then x.bind f else y.bind f:=by split<;>rfl
theorem zw {s:S}:(O.nx δ).then s=s δ:=rfl
theorem zv {s:S}:(O.rt d).then s=.rt d:=rfl
theorem zy {s:S}:(O.ex C δ).then s=.ex C δ:=rfl
theorem zx {s:S}:(O.mk C δ).then s=.mk C δ:=rfl
theorem zB {s:S}:(O.bk δ).then s=.bk δ:=rfl
theorem zA {s:S}:(O.ct δ).then s=.ct δ:=rfl
theorem u9 {s:S}:(O.bad).then s=.bad:=rfl
theorem u7 {p:Prop} [Decidable p] (x y:O) {s:S}:(if p then x else y).then s=if p then x.then s else y.then s:=by split<;>rfl
theorem Ei:(O.rt d).res=.ok d:=rfl
theorem Ej:(O.nx δ).res=.ok .non:=rfl
theorem El:(O.ex C δ).res=.ex C:=rfl
theorem Ek:(O.mk C δ).res=.ex C:=rfl
theorem Ad:O.bad.res=.bad:=rfl
theorem Ac {p:Prop} [Decidable p] (x y:O):(if p then x else y).res=if p then x.res else y.res:=by split<;>rfl
theorem Fe {i:Nat}:asg i δ (.ok d)=.nx (δ.set i (some d)):=rfl
theorem Ff {i:Nat}:asg i δ (.ex C)=.ex C (noOwn δ):=rfl
theorem BM {i:Nat} {p:Prop} [Decidable p] (x y:R D):asg i δ (if p then x else y)=if p then asg i δ x else asg i δ y:=by split<;>rfl
theorem DD:xpr δ (.ok d)=.nx δ:=rfl
theorem DE:xpr δ (.ex C)=.ex C (noOwn δ):=rfl
theorem yT {p:Prop} [Decidable p] (x y:R D):xpr δ (if p then x else y)=if p then xpr δ x else xpr δ y:=by split<;>rfl
theorem Eg:rtn δ (.ok d)=.rt d:=rfl
theorem Eh:rtn δ (.ex C)=.ex C (noOwn δ):=rfl
theorem Aa {p:Prop} [Decidable p] (x y:R D):rtn δ (if p then x else y)=if p then rtn δ x else rtn δ y:=by split<;>rfl
theorem EO {b:Bool} {x y:O}:ifO δ (.ok (.bl b)) x y=if b=true then x else y:=by cases b<;>rfl
theorem EN {x y:O}:ifO δ (.ex C) x y=.ex C (noOwn δ):=rfl
theorem A7 {p:Prop} [Decidable p] (u v:R D) {x y:O}:ifO δ (if p then u else v) x y=if p then ifO δ u x y else ifO δ v x y:=by split<;>rfl
theorem u6 {b:Bool} {x y:R β}:truth (.bl b) x y=if b=true then x else y:=by cases b<;>rfl
theorem EJ {p:Prop} [Decidable p] {a b:Bool}:(if p then R.ok (D.bl a) else R.ok (D.bl b))=R.ok (D.bl (if p then a else b)):=by split<;>rfl
theorem ite_int {p:Prop} [Decidable p] {a b:Int}:(if p then R.ok (D.int a) else R.ok (D.int b))=R.ok (D.int (if p then a else b)):=by split<;>rfl
theorem EM {p:Prop} [Decidable p] {b:Bool}:((if p then b else false)=true)=(p/\b=true):=by by_cases h:p<;>simp [h]
theorem EL {p:Prop} [Decidable p] {b:Bool}:((if p then true else b)=true)=(p\/b=true):=by by_cases h:p<;>simp [h]
theorem EK {p:Prop} [Decidable p]:((if p then false else true)=true)=¬ p:=by by_cases h:p<;>simp [h]
theorem DH:var 0 (none::δ)=.bad:=rfl
theorem zd {i:Int}:var 0 (some (.int i)::δ)=.ok (.int i):=rfl
theorem DG {b:Bool}:var 0 (some (.bl b)::δ)=.ok (.bl b):=rfl
theorem yY {x:PySem.Str}:var 0 (some (.str x)::δ)=.ok (.str x):=rfl
theorem za:var 0 (some .non::δ)=.ok .non:=rfl
theorem yX {ds:List D}:var 0 (some (.tup ds)::δ)=.ok (.tup ds):=rfl
theorem zb {ds:List D}:var 0 (some (.lst ds)::δ)=.ok (.lst ds):=rfl
theorem yZ {ds:List D}:var 0 (some (.own ds)::δ)=.bad:=rfl
theorem zg:var 0 (some (.exc C)::δ)=.ok (.exc C):=rfl
theorem zh:var 0 (some (.cls C)::δ)=.ok (.cls C):=rfl
theorem ze {fs:List (String×D)}:var 0 (some (.ins C fs)::δ)=.ok (.ins C fs):=rfl
theorem uV {n:Nat}:var (n+1) (c::δ)=var n δ:=rfl
theorem Bi:evs [] δ=.ok []:=rfl
theorem wN {e:E} {es:List E}:evs (e::es) δ=(e δ).bind fun d=>(evs es δ).bind fun ds=>.ok (d::ds):=rfl
theorem vZ {i j:Int}:aX (.int i) (.int j)=.ok (.int (i+j)):=rfl
theorem vE {i j:Int}:cM (.int i) (.int j)=.ok (.int (i - j)):=rfl
theorem vG {i:Int}:lA (.int i)=.ok (.int (-i)):=rfl
theorem AB {i j:Int}:oLt (.int i) (.int j)=.ok (.bl (decide (i<j))):=rfl
theorem AD {i j:Int}:oLe (.int i) (.int j)=.ok (.bl (decide (i<=j))):=rfl
theorem AF {i j:Int}:oGt (.int i) (.int j)=.ok (.bl (decide (j<i))):=rfl
theorem AG {i j:Int}:oGe (.int i) (.int j)=.ok (.bl (decide (j<=i))):=rfl
theorem AI {i j:Int}:oEq (.int i) (.int j)=.ok (.bl (decide (i=j))):=by simp [oEq,D.cmp,D.sc,D.beq,Bool.beq_eq_decide_eq]
theorem AA {i j:Int}:oNe (.int i) (.int j)=.ok (.bl (decide (i≠j))):=by simp [oNe,D.cmp,D.sc,D.beq,Bool.beq_eq_decide_eq]
theorem AH {i j:PySem.Str}:oEq (.str i) (.str j)=.ok (.bl (decide (i=j))):=by simp [oEq,D.cmp,D.sc,D.beq,Bool.beq_eq_decide_eq]
theorem Az {i j:PySem.Str}:oNe (.str i) (.str j)=.ok (.bl (decide (i≠j))):=by simp [oNe,D.cmp,D.sc,D.beq,Bool.beq_eq_decide_eq]
theorem ED {i j:Bool}:oEq (.bl i) (.bl j)=.ok (.bl (decide (i=j))):=by simp [oEq,D.cmp,D.sc,D.beq,Bool.beq_eq_decide_eq]
theorem vN:AE .non=.ok (.bl true):=rfl
theorem qZ:t9 .non=.ok (.bl false):=rfl
theorem vR:AE (.exc C)=.ok (.bl false):=rfl
theorem ri:t9 (.exc C)=.ok (.bl true):=rfl
theorem vP {i:Int}:AE (.int i)=.ok (.bl false):=rfl
theorem rh {i:Int}:t9 (.int i)=.ok (.bl true):=rfl
theorem xg {i j:Int}:Ho [.int i,.int j]=.ok (.int (max i j)):=by
 unfold Ho;simp only;congr 2;omega
theorem xf {i j:Int}:P5 [.int i,.int j]=.ok (.int (min i j)):=by
 unfold P5;simp only;congr 2;omega
theorem xk {i:Int}:yC [.int i]=.ok (.int (if i<0 then -i else i)):=rfl
theorem xi {ds:List D}:nD [.lst ds]=.ok (.int ds.length):=rfl
theorem xh {ds:List D}:nD [.tup ds]=.ok (.int ds.length):=rfl
theorem xj {i:Int}:BL [.int i]=.ok (.int i):=rfl
theorem BK {k:Bool}:BL [.bl k]=.ok (.int (if k then 1 else 0)):=rfl
theorem mU {i:Int}:jW [.int i]=.ok (.int (nb i)):=rfl
theorem sQ {ds:List D}:J9 [.lst ds]=.ok (.lst ds):=rfl
theorem sP {ds:List D}:J9 [.tup ds]=.ok (.lst ds):=rfl
theorem mD {i:Int}:gq [.int i,.ty "int"]=.ok (.bl true):=rfl
theorem kg {i:Int}:gq [.int i,.ty "bool"]=.ok (.bl false):=rfl
theorem my {ds:List D}:gq [.tup ds,.ty "tuple"]=.ok (.bl true):=rfl
theorem mC {ds:List D}:gq [.lst ds,.ty "list"]=.ok (.bl true):=rfl
theorem oC:gq [.exc C,.ty "ValueError"]=if av.contains C then .ok (.bl true) else .bad:=by
 show (if (av.contains C&&("ValueError" == "ValueError"))=true then _ else _)=_
 rw [show ("ValueError" == "ValueError")=true from rfl,Bool.and_true]
theorem mE {B:String}:gq [.exc C,.cls B]=if av.contains C&&av.contains B then .ok (.bl (C == B||B == "MillError")) else .bad:=rfl
theorem mB {B:String}:gq [.non,.cls B]=if av.contains B then .ok (.bl false) else .bad:=rfl
theorem D0 {k:S}:trn (.nx δ) k=k δ:=rfl
theorem Ec {k:S}:trn (.ct δ) k=k δ:=rfl
theorem Ed {k:S}:trn (.bk δ) k=.nx δ:=rfl
theorem DZ {k:S}:trn (.rt d) k=.rt d:=rfl
theorem Eb {k:S}:trn (.ex C δ) k=.ex C δ:=rfl
theorem Ea {k:S}:trn (.mk C δ) k=.mk C δ:=rfl
theorem zu {p:Prop} [Decidable p] (x y:O) {k:S}:trn (if p then x else y) k=if p then trn x k else trn y k:=by split<;>rfl
theorem pZ {i:Nat} {b:S}:forL i b [] δ=.nx δ:=rfl
theorem d8 {i:Nat} {b:S} {ds:List D}:forL i b (d::ds) δ=trn (b (δ.set i (some d))) (forL i b ds):=rfl
theorem Es {ds:List D} {k:List D->O}:ovL δ (.ok (.lst ds)) k=k ds:=rfl
theorem Er {ds:List D} {k:List D->O}:ovT δ (.ok (.tup ds)) k=k ds:=rfl
theorem zr {B:String} {i:Nat} {s:S}:Fv (.nx δ) B i s=.nx δ:=rfl
theorem zt {B:String} {i:Nat} {s:S}:Fv (.ex C δ) B i s=if Dc C B then forget i (s ((noOwn δ).set i (some (.exc C)))) else .bad:=rfl
theorem u5 {p:Prop} [Decidable p] (x y:O) {B:String} {i:Nat} {s:S}:Fv (if p then x else y) B i s=if p then Fv x B i s else Fv y B i s:=by split<;>rfl
theorem rQ {i:Nat}:forget i (.nx δ)=.nx (δ.set i none):=rfl
theorem rA:noOwn []=[]:=rfl
theorem ow:noOwn (none::δ)=none::noOwn δ:=rfl
theorem rE {i:Int}:noOwn (some (.int i)::δ)=some (.int i)::noOwn δ:=rfl
theorem wg {i:Bool}:noOwn (some (.bl i)::δ)=some (.bl i)::noOwn δ:=rfl
theorem ro {i:PySem.Str}:noOwn (some (.str i)::δ)=some (.str i)::noOwn δ:=rfl
theorem rz:noOwn (some .non::δ)=some .non::noOwn δ:=rfl
theorem rn {ds:List D}:noOwn (some (.tup ds)::δ)=some (.tup ds)::noOwn δ:=rfl
theorem rB {ds:List D}:noOwn (some (.lst ds)::δ)=some (.lst ds)::noOwn δ:=rfl
theorem rG:noOwn (some (.exc C)::δ)=some (.exc C)::noOwn δ:=rfl
theorem oH {C:String}:Dc C "MillError"=av.contains C:=by simp [Dc]
end
theorem oz {ds:List D} {k:Nat} {d:D} (h:ds[k]? = some d):oIx (.tup ds) (.int k)=.ok d:=by
 obtain ⟨hk,he⟩:=List.getElem?_eq_some_iff.mp h
 unfold oIx ixN
 simp [he,hk]
theorem oA {ds:List D} {k:Nat} {d:D} (h:ds[k]? = some d):oIx (.lst ds) (.int k)=.ok d:=by
 obtain ⟨hk,he⟩:=List.getElem?_eq_some_iff.mp h
 unfold oIx ixN
 simp [he,hk]
section
variable {a b c d e:D} {r:List D}
theorem ix0:oIx (.tup (a::r)) (.int 0)=.ok a:=oz (k:=0) rfl
theorem ix1:oIx (.tup (a::b::r)) (.int 1)=.ok b:=oz (k:=1) rfl
theorem ix2:oIx (.tup (a::b::c::r)) (.int 2)=.ok c:=oz (k:=2) rfl
theorem ix3:oIx (.tup (a::b::c::d::r)) (.int 3)=.ok d:=oz (k:=3) rfl
theorem PH:oIx (.lst (a::r)) (.int 0)=.ok a:=oA (k:=0) rfl
theorem PF:oIx (.lst (a::b::r)) (.int 1)=.ok b:=oA (k:=1) rfl
theorem PD:oIx (.lst (a::b::c::r)) (.int 2)=.ok c:=oA (k:=2) rfl
end
theorem PX {m:Nat} {gg:S}:fn 0 m gg []=(gg (List.replicate m none)).res:=rfl
theorem PV {m:Nat} {gg:S} {a:D}:fn 1 m gg [a]=(gg (some a::List.replicate (m - 1) none)).res:=rfl
theorem PU {m:Nat} {gg:S} {a b:D}:fn 2 m gg [a,b]=(gg (some a::some b::List.replicate (m - 2) none)).res:=rfl
theorem PR {m:Nat} {gg:S} {a b c:D}:fn 3 m gg [a,b,c]=(gg (some a::some b::some c::List.replicate (m - 3) none)).res:=rfl
theorem PQ {m:Nat} {gg:S} {a b c d:D}:fn 4 m gg [a,b,c,d]=(gg (some a::some b::some c::some d::List.replicate (m - 4) none)).res:=rfl
theorem PN {m:Nat} {gg:S} {a b c d e:D}:fn 5 m gg [a,b,c,d,e]=(gg (some a::some b::some c::some d::some e::List.replicate (m - 5) none)).res:=rfl
theorem PM {m:Nat} {gg:S} {a b c d e f:D}:fn 6 m gg [a,b,c,d,e,f]=(gg (some a::some b::some c::some d::some e::some f::List.replicate (m - 6) none)).res:=rfl
theorem PL {m:Nat} {gg:S} {a b c d e f g:D}:fn 7 m gg [a,b,c,d,e,f,g]=(gg (some a::some b::some c::some d::some e::some f::some g::List.replicate (m - 7) none)).res:=rfl
theorem PK {m:Nat} {gg:S} {a b c d e f g h:D}:fn 8 m gg [a,b,c,d,e,f,g,h]=(gg (some a::some b::some c::some d::some e::some f::some g::some h::List.replicate (m - 8) none)).res:=rfl
section
variable {α β:Type} {a:α} {l:List α} {n:Nat} {p:Prop} {x y:α}
theorem nY:(a::l).length=l.length+1:=rfl
theorem qm:([]:List α).length=0:=rfl
theorem qo {f:α->β}:(l.map f).length=l.length:=List.length_map f
theorem nX {f:α->β}:(a::l).map f=f a::l.map f:=rfl
theorem ql {f:α->β}:([]:List α).map f=[]:=rfl
theorem yF:(a::l).set 0 x=x::l:=rfl
theorem yE:(a::l).set (n+1) x=a::l.set n x:=rfl
theorem yH:List.replicate 0 a=[]:=rfl
theorem yG:List.replicate (n+1) a=a::List.replicate n a:=rfl
theorem Dx:0+n=n:=Nat.zero_add n
theorem Du:(if True then x else y)=x:=if_pos trivial
theorem Dv:(if False then x else y)=y:=if_neg id
theorem L6:(false=true)=False:=by simp
theorem LX:(true=true)=True:=by simp
theorem yI:(!true)=false:=rfl
theorem yJ:(!false)=true:=rfl
theorem HC [Decidable p]:(decide p=true)=p:=decide_eq_true_eq
theorem yL [Decidable True]:decide True=true:=by simp
theorem yM [Decidable False]:decide False=false:=by simp
theorem yN:(p/\True)=p:=by simp
theorem yD:(True/\p)=p:=by simp
theorem yO:(p/\False)=False:=by simp
theorem yK:(False/\p)=False:=by simp
theorem Dr:(p\/True)=True:=by simp
theorem Dq:(True\/p)=True:=by simp
theorem Ds:(p\/False)=p:=by simp
theorem Dw:(False\/p)=p:=by simp
theorem LY:(¬ True)=False:=by simp
theorem LZ:(¬ False)=True:=by simp
end
section
variable {a b c:E} {s t:S} {δ:Dt} {i:Nat} {f h:D->D->R D} {k:D->R D} {es:List E} {F:List D->R D} {d:D} {C:String}
theorem HL:seq s t δ=(s δ).then t:=rfl
theorem u4:assign i a δ=asg i δ (a δ):=rfl
theorem HM:ret a δ=rtn δ (a δ):=rfl
theorem DJ:QD a δ=rtn δ (a (view δ)):=rfl
theorem HV:ifs a s t δ=ifO δ (a δ) (s δ) (t δ):=rfl
theorem DT:expr a δ=xpr δ (a δ):=rfl
theorem zj:raise C δ=.mk C δ:=rfl
theorem DM:ao δ=.nx δ:=rfl
theorem DK:QE δ=.rt .non:=rfl
theorem HY:brk δ=.bk δ:=rfl
theorem DU:cont δ=.ct δ:=rfl
theorem HX:con d δ=.ok d:=rfl
theorem HZ:bin f a b δ=(a δ).bind fun x=>(b δ).bind fun y=>f x y:=rfl
theorem L7:un k a δ=(a δ).bind k:=rfl
theorem H0:bQ a b δ=(a δ).bind fun d=>truth d (b δ) (.ok (.bl false)):=rfl
theorem L8:or_ a b δ=(a δ).bind fun d=>truth d (.ok (.bl true)) (b δ):=rfl
theorem HN:iA a δ=(a δ).bind fun d=>truth d (.ok (.bl false)) (.ok (.bl true)):=rfl
theorem HW:ife c a b δ=(c δ).bind fun d=>truth d (a δ) (b δ):=rfl
theorem zo:chain f h a b c δ=(a δ).bind fun x=>(b δ).bind fun y=>(f x y).bind fun d=>truth d ((c δ).bind fun z=>h y z) (.ok (.bl false)):=rfl
theorem HI:iP es δ=(evs es δ).bind fun ds=>.ok (.tup ds):=rfl
theorem HQ:AQ es δ=(evs es δ).bind fun ds=>.ok (.lst ds):=rfl
theorem DW:call F es δ=(evs es δ).bind F:=rfl
theorem HJ:P8 s C i t δ=Fv (s δ) C i t:=rfl
theorem zl:Lz i a s δ=ovL δ (a δ) fun ds=>forL i s ds δ:=rfl
theorem zk:Ly i a s δ=ovT δ (a δ) fun ds=>forL i s ds δ:=rfl
theorem zm:LA i a s δ=ovR δ (a δ) fun ds=>forL i s ds δ:=rfl
end
theorem jZ:av.contains "MillError"=true:=by decide
theorem qr:av.contains "NoSize"=true:=by decide
theorem qv:av.contains "NoBits"=true:=by decide
theorem oa:av.contains "NoParts"=true:=by decide
theorem qs:av.contains "NoRank"=true:=by decide
theorem jY:av.contains "NotFinite"=true:=by decide
theorem uD:av.contains "NoWay"=true:=by decide
theorem oe:av.contains "NoFlags"=true:=by decide
theorem iV:av.contains "NoFraction"=true:=by decide
theorem qp:av.contains "Unlike"=true:=by decide
theorem uF:av.contains "Empty"=true:=by decide
theorem qu:av.contains "NoLeft"=true:=by decide
theorem qq:av.contains "NoText"=true:=by decide
theorem uE:av.contains "NoRow"=true:=by decide
theorem qt:av.contains "NoName"=true:=by decide
theorem nZ:av.contains "Stopped"=true:=by decide
section
variable {α:Type} {b:Bool} {ds es:List D} {i:Nat} {it:IT} {g h:E} {s:S} {δ:Dt} {C:String} {ks:List Nat} {k:List D->O} {x:D} {fs:List (String×D)} {F:List D->R D} {gs:List E} {cn m f:String}
theorem yR:(b&&true)=b:=by simp
theorem yP:(true&&b)=b:=by simp
theorem yQ:(false&&b)=false:=by simp
theorem yS:(b&&false)=false:=by simp
theorem DB:(b||false)=b:=by simp
theorem DC:(false||b)=b:=by simp
theorem Dy:(true||b)=true:=by simp
theorem Dz:(b||true)=true:=by simp
theorem DS:EX i it s δ=ovI δ (it δ) fun ds=>forL i s ds δ:=rfl
theorem Et:ovI δ (.ok ds) k=k ds:=rfl
theorem Eu:ovI δ (.ex C) k=.ex C (noOwn δ):=rfl
theorem HS:itL g δ=(g δ).bind asL:=rfl
theorem HR:itT g δ=(g δ).bind asT:=rfl
theorem DQ:Sr g δ=(g δ).bind Ks:=rfl
theorem DP:Sq g h δ=(evs [g,h] δ).bind Kr:=rfl
theorem BP:asL (.lst ds)=.ok ds:=rfl
theorem BN:asT (.tup ds)=.ok ds:=rfl
theorem xq {n:Int} (h0 : -4611686018427387904<=n) (h1:n<4611686018427387904):Ks (.int n)=.ok (IB 0 n):=by unfold Ks;simp only;rw [if_pos ⟨h0,h1⟩]
theorem xo {n m:Int} (h0 : -4611686018427387904<=n) (h1:n<4611686018427387904) (h2 : -4611686018427387904<=m) (h3:m<4611686018427387904):Kr [.int n,.int m]=.ok (IB n m):=by unfold Kr;simp only;rw [if_pos ⟨h0,h1,h2,h3⟩]
theorem DV:comp it ks g δ=(it δ).bind fun ds=>if ds.length<=100000 then (runC (stC (con (.bl true)) g ks δ) ds).bind uk else .bad:=rfl
theorem u3:iD it ks g h δ=(it δ).bind fun ds=>if ds.length<=100000 then (runC (stC g h ks δ) ds).bind uk else .bad:=rfl
theorem DN:Hu cn m F g gs δ=(g δ).bind fun d=>if fJ cn m d then (evs gs δ).bind fun ds=>F (d::ds) else .bad:=rfl
theorem HP:mk1 cn f [x]=.ok (.ins cn [(f,x)]):=rfl
theorem PY:yB cn f (.ins cn ((f,x)::fs))=.ok x:=by simp [yB]
theorem im1:fJ cn m (.ins cn [(f,x)])=(m != f):=by
 have:fJ cn m (.ins cn [(f,x)])=((cn == cn)&&(List.lookup m [(f,x)]).isNone):=rfl
 rw [this,List.lookup_cons]
 cases e:(m == f)<;>simp [e,bne]
theorem rF:noOwn (some (.ins C fs)::δ)=some (.ins C fs)::noOwn δ:=rfl
theorem sR {d:D}:LQ [d,.tup ds]=oF d ds:=rfl
theorem oE {d:D}:oF d []=.ok (.bl false):=rfl
theorem mF {d c:D}:oF d (c::ds)=(gq [d,c]).bind fun x=>truth x (.ok (.bl true)) (oF d ds):=rfl
theorem oB {n:String}:gq [.non,.ty n]=if ["int","bool","str","tuple","list","ValueError"].contains n then .ok (.bl false) else .bad:=rfl
theorem vL:AE (.tup ds)=.ok (.bl false):=rfl
theorem qX:t9 (.tup ds)=.ok (.bl true):=rfl
theorem vO:AE (.lst ds)=.ok (.bl false):=rfl
theorem rg:t9 (.lst ds)=.ok (.bl true):=rfl
theorem vM {z:PySem.Str}:AE (.str z)=.ok (.bl false):=rfl
theorem qY {z:PySem.Str}:t9 (.str z)=.ok (.bl true):=rfl
end
theorem me {x y:String} (h:(PySem.Str.ofString x)=PySem.Str.ofString y):x=y:=by
 rw [PySem.Str.ofString_eq_toList,PySem.Str.ofString_eq_toList] at h
 have h1:(x.toList.map Char.toNat).toArray=(y.toList.map Char.toNat).toArray:=congrArg PySem.Str.cps h
 have h2:x.toList.map Char.toNat=y.toList.map Char.toNat:=by simpa using h1
 have h3:∀ (l m:List Char),l.map Char.toNat=m.map Char.toNat->l=m:=by
  intro l
  induction l with
  | nil=>intro m e;cases m with | nil=>rfl | cons _ _=>cases e
  | cons c r ih =>
   intro m e
   cases m with
   | nil=>cases e
   | cons c' r' =>
    rw [List.map_cons,List.map_cons,List.cons.injEq] at e
    rw [Char.ext (UInt32.toNat_inj.mp e.1),ih r' e.2]
 exact String.toList_inj.mp (h3 _ _ h2)
theorem vD {x y:String}:((PySem.Str.ofString x)=PySem.Str.ofString y)=(x=y):=propext ⟨me,fun e=>by rw [e]⟩
theorem vX {a b c d:Int}:oEq (.tup [.int a,.int b]) (.tup [.int c,.int d])=.ok (.bl (decide (a=c/\b=d))):=by
 simp [oEq,D.cmp,D.sc,D.pl,D.beq,D.beqs,Bool.beq_eq_decide_eq]
theorem vK {a b c d:Int}:oNe (.tup [.int a,.int b]) (.tup [.int c,.int d])=.ok (.bl (!decide (a=c/\b=d))):=by
 simp [oNe,D.cmp,D.sc,D.pl,D.beq,D.beqs,Bool.beq_eq_decide_eq]
theorem vW {a b c d e f:Int}:oEq (.tup [.int a,.int b,.int e]) (.tup [.int c,.int d,.int f])=.ok (.bl (decide (a=c/\b=d/\e=f))):=by
 simp [oEq,D.cmp,D.sc,D.pl,D.beq,D.beqs,Bool.beq_eq_decide_eq]
theorem vJ {a b c d e f:Int}:oNe (.tup [.int a,.int b,.int e]) (.tup [.int c,.int d,.int f])=.ok (.bl (!decide (a=c/\b=d/\e=f))):=by
 simp [oNe,D.cmp,D.sc,D.pl,D.beq,D.beqs,Bool.beq_eq_decide_eq]
theorem AJ {p:Prop} [Decidable p]:((!decide p)=true)=¬ p:=by simp
theorem HU {g:E} {δ:Dt}:itA g δ=(g δ).bind asA:=rfl
theorem BR {ds:List D}:asA (.lst ds)=.ok ds:=rfl
theorem BQ {ds:List D}:asA (.tup ds)=.ok ds:=rfl
theorem HK {a:E} {lo hi:Option E} {δ:Dt}:slc a lo hi δ=(a δ).bind fun d=>(part lo δ).bind fun l=>(part hi δ).bind fun h=>oSl d l h:=rfl
theorem qO {δ:Dt}:part none δ=.ok none:=rfl
theorem vA {i:Int} {δ:Dt}:part (some (con (.int i))) δ=.ok (some i):=rfl
theorem Aw {ds:List D} {lo hi:Option Int}:oSl (.lst ds) lo hi=.ok (.lst (cut ds lo hi)):=rfl
theorem mz {x:PySem.Str}:gq [.str x,.ty "str"]=.ok (.bl true):=rfl
theorem vH {a b c x y z:Int}:oNe (.tup [.int a,.int b,.int c]) (.tup [.int x,.int y,.int z])=.ok (.bl (decide (¬ (a=x/\b=y/\c=z)))):=by
 unfold oNe
 rw [if_pos (show D.cmp _ _=true from rfl)]
 congr 2
 simp only [D.beq,D.beqs]
 by_cases h1:a=x<;>by_cases h2:b=y<;>by_cases h3:c=z<;>simp [h1,h2,h3]
theorem vV {a b c x y z:Int}:oEq (.tup [.int a,.int b,.int c]) (.tup [.int x,.int y,.int z])=.ok (.bl (decide (a=x/\b=y/\c=z))):=by
 unfold oEq
 rw [if_pos (show D.cmp _ _=true from rfl)]
 congr 2
 simp only [D.beq,D.beqs]
 by_cases h1:a=x<;>by_cases h2:b=y<;>by_cases h3:c=z<;>simp [h1,h2,h3]
theorem Av {a b:String}:(PySem.Str.ofString a=PySem.Str.ofString b)=(a=b):=by
 apply propext
 constructor
 ·intro h
  rw [PySem.Str.ofString_eq_toList,PySem.Str.ofString_eq_toList] at h
  have h1:a.toList.map Char.toNat=b.toList.map Char.toNat:=by
   have:=congrArg (fun z:PySem.Str=>z.cps.toList) h
   simpa using this
  have h2:a.toList=b.toList:=by
   refine List.map_inj_right (f:=Char.toNat) (fun x y e => ?_) |>.mp h1
   exact Char.toNat_inj.mp e
  exact String.toList_inj.mp h2
 ·intro h;rw [h]
theorem EC {cn f:String} {d:D}:yB cn f (.ins cn [(f,d)])=.ok d:=by simp [yB,List.lookup]
theorem wz {cn m f:String} {d:D}:fJ cn m (.ins cn [(f,d)]) = !(m == f):=by
 unfold fJ
 cases h:m == f<;>simp [List.lookup,h]
theorem EH {cn f:String} {d:D}:mk1 cn f [d]=.ok (.ins cn [(f,d)]):=rfl
theorem wy:(!false)=true:=rfl
theorem DO {g h k:E}:So g h k δ=(evs [g,h,k] δ).bind Kq:=rfl
theorem xn {n m c:Int} (h : -1099511627776<=n/\n<1099511627776 /\ -1099511627776<=m/\m<1099511627776) (h0:0<c) (h1:c<1048576):Kq [.int n,.int m,.int c]=.ok (Me n m c):=by unfold Kq;simp only;rw [if_pos ⟨h,h0,h1⟩]
theorem uY {i:Nat}:Jh i δ=.nx (δ.set i (some (.own []))):=rfl
theorem uZ {i:Nat} {g:E}:Ji i g δ=pQ i δ fun ds=>Ka i δ ds (g (view δ)):=rfl
theorem uX {i:Nat}:Jg i δ=pQ i δ fun ds=>.nx (δ.set i (some (.own ds.reverse))):=rfl
theorem Au {ds:List D} {l:Dt} {f:List D->O}:pQ 0 (some (.own ds)::l) f=f ds:=rfl
theorem As {i:Nat} {c:Option D} {l:Dt} {f:List D->O}:pQ (i+1) (c::l) f=pQ i l f:=rfl
theorem BS {i:Nat} {ds:List D} {d:D} (h:D.flat d=true) (h2:ds.length<100000):Ka i δ ds (.ok d)=.nx (δ.set i (some (.own (ds++[d])))):=by unfold Ka;simp only;rw [if_pos ⟨h,h2⟩]
theorem BU {i:Nat} {ds:List D}:Ka i δ ds (.ex C)=.ex C (noOwn δ):=rfl
theorem DL {i:Nat} {s:S}:QL i s δ=s (pub i δ):=rfl
theorem IH {ds:List D} {l:Dt}:pub 0 (some (.own ds)::l)=some (.lst ds)::l:=rfl
theorem IG {i:Nat} {c:Option D} {l:Dt}:pub (i+1) (c::l)=c::pub i l:=by
 unfold pub
 rw [List.getElem?_cons_succ]
 split<;>rename_i q
 ·rw [q];rfl
 ·rfl
theorem rq {ds:List D}:noOwn (some (.own ds)::δ)=none::noOwn δ:=rfl
theorem uP:view []=[]:=rfl
theorem qy:view (none::δ)=none::view δ:=rfl
theorem uN {ds:List D}:view (some (.own ds)::δ)=some (.lst ds)::view δ:=rfl
theorem uR {i:Int}:view (some (.int i)::δ)=some (.int i)::view δ:=rfl
theorem yW {i:Bool}:view (some (.bl i)::δ)=some (.bl i)::view δ:=rfl
theorem uM {i:PySem.Str}:view (some (.str i)::δ)=some (.str i)::view δ:=rfl
theorem uO  : view (some (.non)::δ)=some (.non)::view δ:=rfl
theorem uL {ds:List D}:view (some (.tup ds)::δ)=some (.tup ds)::view δ:=rfl
theorem uQ {ds:List D}:view (some (.lst ds)::δ)=some (.lst ds)::view δ:=rfl
theorem uU  : view (some (.exc C)::δ)=some (.exc C)::view δ:=rfl
theorem uS {fs:List (String×D)}:view (some (.ins C fs)::δ)=some (.ins C fs)::view δ:=rfl
theorem qD {i:Nat} {g:E}:Hs i g δ=LR i δ (g (view δ)):=rfl
theorem xm {i:Nat} {n:Int}:LR i δ (.ok (.int n))=.nx (δ.set i (some (.int n))):=rfl
theorem DR {c:E} {a b:S}:Ss c a b δ=ifO δ (c (view δ)) (a δ) (b δ):=rfl
theorem qC {i:Nat} {g:E}:Gi i g δ=Ib i δ (g (view δ)):=rfl
theorem va {i:Nat} {rs:List D}:Ib i δ (.ok (.lst rs))=.nx (δ.set i (some (.own rs))):=rfl
theorem uW {i:Nat} {a b:E}:Jf i a b δ=pQ i δ fun ds=>Kj i δ ds (b (view δ)) (a (view δ)):=rfl
theorem zR {i:Nat} {ds:List D} {d:D} {k:Int} (h:D.flat d=true) (h0:0<=k) (h1:k<ds.length):Kj i δ ds (.ok d) (.ok (.int k))=.nx (δ.set i (some (.own (ds.set k.toNat d)))):=by unfold Kj;simp only;rw [if_pos ⟨h,h0,h1⟩]
theorem qB {i:Nat} {g:E}:Gh i g δ=Ib i δ (g δ):=rfl
theorem EvS:(type_of% @mf)/\(type_of% @vY)/\(type_of% @Ay)/\(type_of% @By)/\(type_of% @Bz)/\(type_of% @wZ)/\(type_of% @wY)/\(type_of% @zw)/\(type_of% @zv)/\(type_of% @zy)/\(type_of% @zx)/\(type_of% @zB)/\(type_of% @zA)/\(type_of% @u9)/\(type_of% @u7)/\(type_of% @Ei)/\(type_of% @Ej)/\(type_of% @El)/\(type_of% @Ek)/\(type_of% @Ad)/\(type_of% @Ac)/\(type_of% @Fe)/\(type_of% @Ff)/\(type_of% @BM)/\(type_of% @DD)/\(type_of% @DE)/\(type_of% @yT)/\(type_of% @Eg)/\(type_of% @Eh)/\(type_of% @Aa)/\(type_of% @EO)/\(type_of% @EN)/\(type_of% @A7)/\(type_of% @u6)/\(type_of% @EJ)/\(type_of% @ite_int)/\(type_of% @EM)/\(type_of% @EL)/\(type_of% @EK)/\(type_of% @DH)/\(type_of% @zd)/\(type_of% @DG)/\(type_of% @yY)/\(type_of% @za)/\(type_of% @yX)/\(type_of% @zb)/\(type_of% @yZ)/\(type_of% @zg)/\(type_of% @zh)/\(type_of% @ze)/\(type_of% @uV)/\(type_of% @Bi)/\(type_of% @wN)/\(type_of% @vZ)/\(type_of% @vE)/\(type_of% @vG)/\(type_of% @AB)/\(type_of% @AD)/\(type_of% @AF)/\(type_of% @AG)/\(type_of% @AI)/\(type_of% @AA)/\(type_of% @AH)/\(type_of% @Az)/\(type_of% @ED)/\(type_of% @vN)/\(type_of% @qZ)/\(type_of% @vR)/\(type_of% @ri)/\(type_of% @vP)/\(type_of% @rh)/\(type_of% @xg)/\(type_of% @xf)/\(type_of% @xk)/\(type_of% @xi)/\(type_of% @xh)/\(type_of% @xj)/\(type_of% @BK)/\(type_of% @mU)/\(type_of% @sQ)/\(type_of% @sP)/\(type_of% @mD)/\(type_of% @kg)/\(type_of% @my)/\(type_of% @mC)/\(type_of% @oC)/\(type_of% @mE)/\(type_of% @mB)/\(type_of% @D0)/\(type_of% @Ec)/\(type_of% @Ed)/\(type_of% @DZ)/\(type_of% @Eb)/\(type_of% @Ea)/\(type_of% @zu)/\(type_of% @Es)/\(type_of% @Er)/\(type_of% @zr)/\(type_of% @zt)/\(type_of% @u5)/\(type_of% @rQ)/\(type_of% @rA)/\(type_of% @ow)/\(type_of% @rE)/\(type_of% @wg)/\(type_of% @ro)/\(type_of% @rz)/\(type_of% @rn)/\(type_of% @rB)/\(type_of% @rG)/\(type_of% @oH)/\(type_of% @ix0)/\(type_of% @ix1)/\(type_of% @ix2)/\(type_of% @ix3)/\(type_of% @PH)/\(type_of% @PF)/\(type_of% @PD)/\(type_of% @PX)/\(type_of% @PV)/\(type_of% @PU)/\(type_of% @PR)/\(type_of% @PQ)/\(type_of% @PN)/\(type_of% @PM)/\(type_of% @PL)/\(type_of% @PK)/\(type_of% @nY)/\(type_of% @qm)/\(type_of% @qo)/\(type_of% @nX)/\(type_of% @ql)/\(type_of% @yF)/\(type_of% @yE)/\(type_of% @yH)/\(type_of% @yG)/\(type_of% @Dx)/\(type_of% @Du)/\(type_of% @Dv)/\(type_of% @L6)/\(type_of% @LX)/\(type_of% @yI)/\(type_of% @yJ)/\(type_of% @HC)/\(type_of% @yL)/\(type_of% @yM)/\(type_of% @yN)/\(type_of% @yD)/\(type_of% @yO)/\(type_of% @yK)/\(type_of% @Dr)/\(type_of% @Dq)/\(type_of% @Ds)/\(type_of% @Dw)/\(type_of% @LY)/\(type_of% @LZ)/\(type_of% @HL)/\(type_of% @u4)/\(type_of% @HM)/\(type_of% @DJ)/\(type_of% @HV)/\(type_of% @DT)/\(type_of% @zj)/\(type_of% @DM)/\(type_of% @DK)/\(type_of% @HY)/\(type_of% @DU)/\(type_of% @HX)/\(type_of% @HZ)/\(type_of% @L7)/\(type_of% @H0)/\(type_of% @L8)/\(type_of% @HN)/\(type_of% @HW)/\(type_of% @zo)/\(type_of% @HI)/\(type_of% @HQ)/\(type_of% @DW)/\(type_of% @HJ)/\(type_of% @zl)/\(type_of% @zk)/\(type_of% @zm)/\(type_of% @jZ)/\(type_of% @qr)/\(type_of% @qv)/\(type_of% @oa)/\(type_of% @qs)/\(type_of% @jY)/\(type_of% @uD)/\(type_of% @oe)/\(type_of% @iV)/\(type_of% @qp)/\(type_of% @uF)/\(type_of% @qu)/\(type_of% @qq)/\(type_of% @uE)/\(type_of% @qt)/\(type_of% @nZ)/\(type_of% @yR)/\(type_of% @yP)/\(type_of% @yQ)/\(type_of% @yS)/\(type_of% @DB)/\(type_of% @DC)/\(type_of% @Dy)/\(type_of% @Dz)/\(type_of% @DS)/\(type_of% @Et)/\(type_of% @Eu)/\(type_of% @HS)/\(type_of% @HR)/\(type_of% @DQ)/\(type_of% @DP)/\(type_of% @BP)/\(type_of% @BN)/\(type_of% @xq)/\(type_of% @xo)/\(type_of% @DV)/\(type_of% @u3)/\(type_of% @DN)/\(type_of% @HP)/\(type_of% @PY)/\(type_of% @im1)/\(type_of% @rF)/\(type_of% @sR)/\(type_of% @oE)/\(type_of% @mF)/\(type_of% @oB)/\(type_of% @vL)/\(type_of% @qX)/\(type_of% @vO)/\(type_of% @rg)/\(type_of% @vM)/\(type_of% @qY)/\(type_of% @vD)/\(type_of% @vX)/\(type_of% @vK)/\(type_of% @vW)/\(type_of% @vJ)/\(type_of% @AJ)/\(type_of% @HU)/\(type_of% @BR)/\(type_of% @BQ)/\(type_of% @HK)/\(type_of% @qO)/\(type_of% @vA)/\(type_of% @Aw)/\(type_of% @mz)/\(type_of% @vH)/\(type_of% @vV)/\(type_of% @Av)/\(type_of% @EC)/\(type_of% @wz)/\(type_of% @EH)/\(type_of% @wy)/\(type_of% @DO)/\(type_of% @xn)/\(type_of% @uY)/\(type_of% @uZ)/\(type_of% @uX)/\(type_of% @Au)/\(type_of% @As)/\(type_of% @BS)/\(type_of% @BU)/\(type_of% @DL)/\(type_of% @IH)/\(type_of% @IG)/\(type_of% @rq)/\(type_of% @uP)/\(type_of% @qy)/\(type_of% @uN)/\(type_of% @uR)/\(type_of% @yW)/\(type_of% @uM)/\(type_of% @uO)/\(type_of% @uL)/\(type_of% @uQ)/\(type_of% @uU)/\(type_of% @uS)/\(type_of% @qD)/\(type_of% @xm)/\(type_of% @DR)/\(type_of% @qC)/\(type_of% @va)/\(type_of% @uW)/\(type_of% @zR)/\(type_of% @qB) :=
 ⟨@mf,@vY,@Ay,@By,@Bz,@wZ,@wY,@zw,@zv,@zy,@zx,@zB,@zA,@u9,@u7,@Ei,@Ej,@El,@Ek,@Ad,@Ac,@Fe,@Ff,@BM,@DD,@DE,@yT,@Eg,@Eh,@Aa,@EO,@EN,@A7,@u6,@EJ,@ite_int,@EM,@EL,@EK,@DH,@zd,@DG,@yY,@za,@yX,@zb,@yZ,@zg,@zh,@ze,@uV,@Bi,@wN,@vZ,@vE,@vG,@AB,@AD,@AF,@AG,@AI,@AA,@AH,@Az,@ED,@vN,@qZ,@vR,@ri,@vP,@rh,@xg,@xf,@xk,@xi,@xh,@xj,@BK,@mU,@sQ,@sP,@mD,@kg,@my,@mC,@oC,@mE,@mB,@D0,@Ec,@Ed,@DZ,@Eb,@Ea,@zu,@Es,@Er,@zr,@zt,@u5,@rQ,@rA,@ow,@rE,@wg,@ro,@rz,@rn,@rB,@rG,@oH,@ix0,@ix1,@ix2,@ix3,@PH,@PF,@PD,@PX,@PV,@PU,@PR,@PQ,@PN,@PM,@PL,@PK,@nY,@qm,@qo,@nX,@ql,@yF,@yE,@yH,@yG,@Dx,@Du,@Dv,@L6,@LX,@yI,@yJ,@HC,@yL,@yM,@yN,@yD,@yO,@yK,@Dr,@Dq,@Ds,@Dw,@LY,@LZ,@HL,@u4,@HM,@DJ,@HV,@DT,@zj,@DM,@DK,@HY,@DU,@HX,@HZ,@L7,@H0,@L8,@HN,@HW,@zo,@HI,@HQ,@DW,@HJ,@zl,@zk,@zm,@jZ,@qr,@qv,@oa,@qs,@jY,@uD,@oe,@iV,@qp,@uF,@qu,@qq,@uE,@qt,@nZ,@yR,@yP,@yQ,@yS,@DB,@DC,@Dy,@Dz,@DS,@Et,@Eu,@HS,@HR,@DQ,@DP,@BP,@BN,@xq,@xo,@DV,@u3,@DN,@HP,@PY,@im1,@rF,@sR,@oE,@mF,@oB,@vL,@qX,@vO,@rg,@vM,@qY,@vD,@vX,@vK,@vW,@vJ,@AJ,@HU,@BR,@BQ,@HK,@qO,@vA,@Aw,@mz,@vH,@vV,@Av,@EC,@wz,@EH,@wy,@DO,@xn,@uY,@uZ,@uX,@Au,@As,@BS,@BU,@DL,@IH,@IG,@rq,@uP,@qy,@uN,@uR,@yW,@uM,@uO,@uL,@uQ,@uU,@uS,@qD,@xm,@DR,@qC,@va,@uW,@zR,@qB⟩
theorem wI {i:Nat} {body:S} (I:Dt->Prop):∀ (ds:List D),(∀ d∈ds,∀ δ,I δ->∃ δ',(body (δ.set i (some d))=.nx δ'\/body (δ.set i (some d))=.ct δ')/\I δ')->∀ δ,I δ->∃ δ',forL i body ds δ=.nx δ'/\I δ'
 | [],_,δ,h=>⟨δ,rfl,h⟩
 | d::ds,hs,δ,h=>by
  obtain ⟨δ1,e1,h1⟩:=hs d (.head _) δ h
  obtain ⟨δ2,e2,h2⟩:=wI I ds (fun d hd=>hs d (.tail _ hd)) δ1 h1
  refine ⟨δ2,?_,h2⟩
  rw [d8]
  rcases e1 with e1 | e1<;>rw [e1]<;>exact e2
theorem bf {c:E} {b:S}:∀ {n:Nat} {δ:Dt},bH c b n δ ≠ .bad->∀ k,bH c b (n+k) δ=bH c b n δ
 | 0,δ,h,_=>absurd rfl h
 | n+1,δ,h,k=>by
  rw [show n+1+k=(n+k)+1 by omega]
  unfold bH at h ⊢
  split
  ·rename_i q
   rw [q] at h
   simp only at h
   unfold trn at h ⊢
   split
   ·rename_i q2;rw [q2] at h;exact bf h k
   ·rename_i q2;rw [q2] at h;exact bf h k
   ·rfl
   ·rfl
  ·rfl
  ·rfl
theorem uJ {c:E} {b:S} {n:Nat} {δ:Dt} {o:O} (h:bH c b n δ=o) (ho:o ≠ .bad):dn c b δ=o:=by
 have hx:∃ n,bH c b n δ ≠ .bad:=⟨n,by rw [h];exact ho⟩
 unfold dn
 rw [dif_pos hx]
 have h1:=bf hx.choose_spec n
 have h2:=bf (show bH c b n δ ≠ .bad by rw [h];exact ho) hx.choose
 rw [Nat.add_comm] at h1
 rw [<- h1,h2,h]
theorem iX {c:E} {b:S} (I:Dt->Prop) (μ:Dt->Nat) (hs:∀ δ,I δ->(c δ=.ok (.bl false))\/(c δ=.ok (.bl true)/\∃ δ',b δ=.nx δ'/\I δ'/\μ δ'<μ δ)) (δ:Dt) (h:I δ) :
  ∃ δ',dn c b δ=.nx δ'/\I δ'/\c δ'=.ok (.bl false):=by
 have key:∀ (n:Nat) (δ:Dt),I δ->μ δ<n->∃ δ',bH c b n δ=.nx δ'/\I δ'/\c δ'=.ok (.bl false):=by
  intro n
  induction n with
  | zero=>intro δ _ h;omega
  | succ n ih =>
   intro δ h hn
   rcases hs δ h with e | ⟨e,δ1,e1,i1,m1⟩
   ·exact ⟨δ,by unfold bH;rw [e],h,e⟩
   ·obtain ⟨δ2,e2,i2,c2⟩:=ih δ1 i1 (by omega)
    exact ⟨δ2,by unfold bH;rw [e];simp only;rw [e1];exact e2,i2,c2⟩
 obtain ⟨δ',e,i,c'⟩:=key (μ δ+1) δ h (Nat.lt_succ_self _)
 exact ⟨δ',uJ e (fun z=>nomatch z),i,c'⟩
end EV
local macro_rules | `(tactic| walk_at "pos")=>`(tactic| first | (with_reducible assumption) | decide +kernel | (with_reducible exact EV.ai _) | omega)
local macro_rules | `(tactic| walk_at "nb")=>`(tactic| first
 | (with_reducible assumption)
 | ((with_reducible apply EV.EG)<;>walk_at "nb")
 | ((with_reducible apply EV.Ju)<;>walk_at "nb")
 | ((with_reducible apply EV.eV)<;>walk_at "nb")
 | ((with_reducible apply EV.nb_neg_le)<;>walk_at "nb")
 | ((with_reducible apply EV.wq);(walk_at "pos");(walk_at "nb"))
 | ((with_reducible apply EV.wt);(walk_at "pos");(walk_at "nb"))
 | ((with_reducible apply EV.nb_max)<;>walk_at "nb")
 | ((with_reducible apply EV.nb_min)<;>walk_at "nb")
 | ((with_reducible apply EV.nb_ite)<;>walk_at "nb")
 | exact EV.GH)
/- nb e<=a number -/
local macro_rules | `(tactic| walk_at "nbk")=>`(tactic| exact EV.CM (by walk_at "nb") (by decide +kernel))
local macro_rules | `(tactic| walk_at "mul")=>`(tactic| exact EV.MulOk.of (by walk_at "nb") (by walk_at "nb") (by decide +kernel))
local macro_rules | `(tactic| simp_arith [$ls,*])=>`(tactic| simp only [EV.EvS,reduceIte,Nat.reduceAdd,Nat.reduceSub,Int.reduceAdd,Int.reduceSub,Int.reduceMul,Int.reduceNeg,Int.reducePow,Int.reduceLT,Int.reduceLE,Int.reduceGT,Int.reduceGE,Int.reduceEq,Int.reduceNe,Int.reduceDiv,Int.reduceMod,Int.reduceToNat,String.reduceEq,String.reduceBEq,Nat.reduceLeDiff,Int.cast_ofNat_Int,Int.natCast_one,Int.natCast_zero,List.cons_append,List.nil_append,ne_eq,$ls,*])
namespace EV
open PySem (Str)
def Sz (E F:Int):Prop:=2<=E/\E<=15/\1<=F/\F<=112
theorem four {r:Int} (h0:0<=r) (h1:r<4):r=0\/r=1\/r=2\/r=3:=by omega
noncomputable def Bx (E F c:Int):Int :=
 if c%9<3 then c / 9*73846150927364518273645509182736455091829%(2*pw (E+F))
 else if c%9=3 then c / 9%2*pw (E+F)+c / 9 / 2%6
 else if c%9=4 then c / 9%2*pw (E+F)+(pw E - 1)*pw F - 3+c / 9 / 2%5
 else if c%9=5 then c / 9%2*pw (E+F)+pw F - 2+c / 9 / 2%4
 else if c%9=6 then c / 9%2*pw (E+F)+(pw (E - 1) - 1)*pw F - 2+c / 9 / 2%5
 else if c%9=7 then c / 9%2*pw (E+F)+(pw E - 1)*pw F+1+c / 9 / 2%(pw F - 1)
 else c / 9%2*pw (E+F)+c / 9 / 2 / 4%pw E*pw F+[0,1,pw F - 1,pw (F - 1)].getD (c / 9 / 2%4).toNat 0
theorem oq {F:Int} (h:1<=F):2<=pw F:=d3 (a:=1) h
theorem gQ {E:Int} (h:2<=E):4<=pw E:=d3 (a:=2) h
theorem pN {F:Int} (h:1<=F):pw F=2*pw (F - 1):=by
 have:=cj (a:=F - 1) (by omega)
 rw [show F - 1+1=F by omega] at this
 exact this
theorem zP {r h:Int} (h0:0<=h):0<=r%2*h/\r%2*h<=h:=by
 rcases (by omega:r%2=0\/r%2=1) with e | e<;>rw [e]<;>omega
theorem F5 {a b c d:Int} (h1:c<=a) (h2:d<=b) (hc:0<=c) (hd:0<=d):c*d<=a*b :=
 Int.le_trans (Int.mul_le_mul_of_nonneg_right h1 hd) (Int.mul_le_mul_of_nonneg_left h2 (by omega))
theorem Bw {E F:Int} (c:Int) (h:Sz E F):0<=Bx E F c/\Bx E F c<pw (E+F+1):=by
 obtain ⟨h1,h2,h3,h4⟩:=h
 have eH:pw (E+F)=pw E*pw F:=cm (by omega) (by omega)
 have eW:pw (E+F+1)=2*pw (E+F):=cj (by omega)
 have hP:=gQ h1
 have hQ:=oq h3
 have eQ:=pN h3
 have eP:=pN (F:=E) (by omega)
 have hH:0<=pw (E+F):=Int.le_of_lt (ai _)
 obtain ⟨s0,s1⟩:=zP (r:=c / 9) hH
 have eL:(pw E - 1)*pw F=pw (E+F) - pw F:=by rw [eH,Int.sub_mul,Int.one_mul]
 have eM:(pw (E - 1) - 1)*pw F=pw (E - 1)*pw F - pw F:=by rw [Int.sub_mul,Int.one_mul]
 have eH2:pw (E+F)=2*(pw (E - 1)*pw F):=by rw [eH,eP,Int.mul_assoc]
 have big:8<=pw (E+F):=by rw [eH];exact F5 hP hQ (by decide) (by decide)
 have big2:4*pw F<=pw (E+F):=by rw [eH];exact Int.mul_le_mul_of_nonneg_right hP (by omega)
 rw [eW]
 unfold Bx
 generalize pw (E+F)=H at *
 generalize pw (E - 1)*pw F=M at *
 generalize c / 9%2*H=sd at *
 generalize c / 9=r at *
 by_cases g0:c%9<3
 ·rw [if_pos g0]
  exact ⟨Int.emod_nonneg _ (by omega),Int.emod_lt_of_pos _ (by omega)⟩
 rw [if_neg g0]
 by_cases g1:c%9=3
 ·rw [if_pos g1];omega
 rw [if_neg g1]
 by_cases g2:c%9=4
 ·rw [if_pos g2,eL];omega
 rw [if_neg g2]
 by_cases g3:c%9=5
 ·rw [if_pos g3];omega
 rw [if_neg g3]
 by_cases g4:c%9=6
 ·rw [if_pos g4,eM];omega
 rw [if_neg g4]
 by_cases g5:c%9=7
 ·rw [if_pos g5,eL]
  have z0:=Int.emod_nonneg (r / 2) (show pw F - 1≠0 by omega)
  have z1:=Int.emod_lt_of_pos (r / 2) (show 0<pw F - 1 by omega)
  omega
 rw [if_neg g5]
 have z0:=Int.emod_nonneg (r / 2 / 4) (show pw E≠0 by omega)
 have z1:=Int.emod_lt_of_pos (r / 2 / 4) (show 0<pw E by omega)
 have y0:0<=r / 2 / 4%pw E*pw F:=Int.mul_nonneg z0 (by omega)
 have y1:r / 2 / 4%pw E*pw F<=(pw E - 1)*pw F:=Int.mul_le_mul_of_nonneg_right (by omega) (by omega)
 rw [eL] at y1
 have x0:0<=[0,1,pw F - 1,pw (F - 1)].getD (r / 2%4).toNat 0/\[0,1,pw F - 1,pw (F - 1)].getD (r / 2%4).toNat 0<pw F:=by
  rcases four (Int.emod_nonneg (r / 2) (by decide)) (Int.emod_lt_of_pos (r / 2) (by decide)) with e | e | e | e<;>rw [e]
  ·show 0<=(0:Int)/\(0:Int)<pw F;omega
  ·show 0<=(1:Int)/\(1:Int)<pw F;omega
  ·show 0<=pw F - 1/\pw F - 1<pw F;omega
  ·show 0<=pw (F - 1)/\pw (F - 1)<pw F
   have:=ai (F - 1)
   omega
 omega
theorem part0 {P Q b:Int} (hP:0<P) (hQ:0<Q):b / (P*Q)=b / P / Q:=(Int.ediv_ediv_of_nonneg (Int.le_of_lt hP)).symm
theorem part1 {P Q b:Int} (hP:0<P) (hQ:0<Q):b%(P*Q) / Q=b / Q%P:=by
 have e1:=Int.emod_def b (P*Q)
 have e2:b - P*Q*(b / (P*Q))=b+Q*(-(P*(b / (P*Q)))):=by
  rw [Int.mul_neg,<-Int.sub_eq_add_neg,<-Int.mul_assoc,Int.mul_comm Q P]
 rw [e1,e2,Int.add_mul_ediv_left _ _ (by omega),Int.emod_def]
 have e3:b / (P*Q)=b / Q / P:=by rw [Int.mul_comm,Int.ediv_ediv_of_nonneg (Int.le_of_lt hQ)]
 rw [e3]
 omega
theorem part2 {P Q b:Int}:b%(P*Q)%Q=b%Q:=Int.emod_emod_of_dvd b (Int.dvd_mul_left P Q)
theorem CA {P Q b:Int} (hP:0<P) (hQ:0<Q) (h0:0<=b) (h1:b<2*(P*Q)) :
  (0<=b / P / Q/\b / P / Q<=1)/\(0<=b / Q%P/\b / Q%P<P)/\(0<=b%Q/\b%Q<Q):=by
 refine ⟨⟨?_,?_⟩,⟨Int.emod_nonneg _ (by omega),Int.emod_lt_of_pos _ hP⟩,⟨Int.emod_nonneg _ (by omega),Int.emod_lt_of_pos _ hQ⟩⟩
 ·exact Int.ediv_nonneg (Int.ediv_nonneg h0 (Int.le_of_lt hP)) (Int.le_of_lt hQ)
 ·rw [<- part0 hP hQ]
  have:b / (P*Q)<2:=Int.ediv_lt_of_lt_mul (Int.mul_pos hP hQ) h1
  omega
theorem C3 {ns:List Int} {j:Int} (h0:0<=j) (h:¬ j<(ns.length:Int)):ns.getD j.toNat 0=0:=by
 rw [List.getD_eq_getElem?_getD,List.getElem?_eq_none (by omega)]
 rfl
theorem Sm {a b c d:D} {r:List D}:oIx (.lst (a::b::c::d::r)) (.int 3)=.ok d:=oA (k:=3) rfl
theorem Sl {a b c d e:D} {r:List D}:oIx (.lst (a::b::c::d::e::r)) (.int 4)=.ok e:=oA (k:=4) rfl
noncomputable def sgn (E F b:Int):Int:=b / pw E / pw F
noncomputable def fld (E F b:Int):Int:=b / pw F%pw E
noncomputable def fig (F b:Int):Int:=b%pw F
def In (E F b:Int):Prop:=0<=b/\b<pw (E+F+1)
theorem In.parts {E F b:Int} (h:Sz E F) (hb:In E F b):(0<=sgn E F b/\sgn E F b<=1)/\(0<=fld E F b/\fld E F b<pw E)/\(0<=fig F b/\fig F b<pw F):=by
 obtain ⟨h1,h2,h3,h4⟩:=h
 have eW:pw (E+F+1)=2*(pw E*pw F):=by rw [cj (by omega),cm (by omega) (by omega)]
 exact CA (P:=pw E) (Q:=pw F) (b:=b) (ai _) (ai _) hb.1 (by rw [<- eW];exact hb.2)
noncomputable def kindS (E f g:Int):Str:=if f=0 then (if g=0 then "nought" else "faint") else if f=pw E - 1 then (if g=0 then "endless" else "none") else "plain"
noncomputable def wh (F f g:Int):Int:=if f=0 then g else pw F+g
noncomputable def lo (E F:Int):Int:=2 - pw (E - 1) - F
noncomputable def po (E F f:Int):Int:=if f=0 then lo E F else lo E F+f - 1
noncomputable def frT (w p:Int):Int:=if 0<=p then w*pw p else w
noncomputable def frB (p:Int):Int:=if 0<=p then 1 else pw (-p)
theorem fE {E F:Int} (h:Sz E F):pw E<=32768:=d3 h.2.1
theorem vt {E F:Int} (h:Sz E F):pw F<=5192296858534827628530496329220096:=d3 h.2.2.2
theorem l8 {E F:Int} (h:Sz E F):pw (E - 1)<=16384:=d3 (b:=14) (by have:=h.2.1;omega)
theorem bS {i:Int} {k:Nat} (h0:0<=i) (h:i<2^k):nb i<=k:=iB.mpr (by
 have:((i.natAbs:Nat):Int)<((2^k:Nat):Int):=by rw [Int.natAbs_of_nonneg h0];simpa using h
 exact Int.ofNat_lt.mp this)
theorem R8 {c k:Int} (h:nb c<=2^20) (hk:0<k):nb (c / k)<=1048576:=wt hk h
theorem rH {s t:Int} (h0:0<=s) (h1:s<=1) (ht:nb t<=100000):MulOk s t:=by
 have:nb s<=1:=bS h0 (by omega)
 unfold MulOk;omega
theorem jK {k:Int} (h0:0<=k) (h1:k<=1000000):cO (.int 1) (.int k)=.ok (.int (pw k)):=by
 have:nb (1:Int)=1:=by decide
 rw [ay h0 (by omega),Int.one_mul]
theorem P2 {α:Type} (xs:List α):EV.cut xs (some 1) none=xs.drop 1:=by
 unfold EV.cut
 show (xs.drop (min 1 xs.length)).take (xs.length - min 1 xs.length)=_
 cases xs with
 | nil=>rfl
 | cons a l=>simp
theorem HE {E F b:Int} (h:Sz E F) (hb:In E F b):nb (wh F (fld E F b) (fig F b))<=128:=by
 obtain ⟨_,_,i3⟩:=hb.parts h
 have:=vt h
 have:=ai F
 unfold wh
 split
 ·exact bS i3.1 (by omega)
 ·exact bS (by omega) (by omega)
theorem IQ {E F b:Int} (h:Sz E F) (hb:In E F b) : -100000<=po E F (fld E F b)/\po E F (fld E F b)<=100000:=by
 obtain ⟨_,i2,_⟩:=hb.parts h
 have:=fE h
 have:=l8 h
 have:=ai (E - 1)
 obtain ⟨h1,h2,h3,h4⟩:=h
 unfold po lo
 split<;>omega
end EV
namespace EV
noncomputable def st (l:List Nat):PySem.Str:=⟨l.toArray⟩
noncomputable def dg (n:Nat):List Nat:=(Nat.toDigits 10 n).map Char.toNat
theorem cK {n:Nat} (h:n<10):dg n=[48+n]:=by
 unfold dg
 rw [Nat.toDigits_of_lt_base h]
 rcases (show n=0\/n=1\/n=2\/n=3\/n=4\/n=5\/n=6\/n=7\/n=8\/n=9 by omega) with e | e | e | e | e | e | e | e | e | e<;>subst e<;>rfl
theorem oI {n d:Nat} (h:0<n) (hd:d<10):dg (10*n+d)=dg n++dg d:=by
 unfold dg
 rw [<- Nat.toDigits_append_toDigits (by decide) h hd,List.map_append]
theorem km {n k:Nat} (hk:0<k):(dg n).length<=k↔n<10^k:=by
 unfold dg
 rw [List.length_map]
 exact Nat.length_toDigits_le_iff (by decide) hk
theorem E8 (n:Nat):0<(dg n).length:=by
 by_cases h:n<10
 ·rw [cK h,List.length_singleton];decide
 ·rw [show n=10*(n / 10)+n%10 by omega,oI (by omega) (by omega),cK (show n%10<10 by omega),List.length_append,List.length_singleton]
  omega
theorem Bp:∀ (n:Nat),∀ c∈dg n,48<=c/\c<=57:=by
 intro n
 induction n using Nat.strongRecOn with
 | ind n ih =>
  intro c hc
  by_cases h:n<10
  ·rw [cK h,List.mem_singleton] at hc
   omega
  ·rw [show n=10*(n / 10)+n%10 by omega,oI (by omega) (by omega),List.mem_append] at hc
   rcases hc with z | z
   ·exact ih _ (by omega) c z
   ·exact ih _ (by omega) c z
noncomputable def pad (k r:Nat):List Nat:=List.replicate (k - (dg r).length) 48++dg r
theorem p7 {q:Nat} (hq:0<q):∀ (k r:Nat),0<k->r<10^k->dg (q*10^k+r)=dg q++pad k r
 | 0,_,h,_=>absurd h (by decide)
 | 1,r,_,hr=>by
  unfold pad
  rw [Nat.pow_one,Nat.mul_comm,oI hq (by omega),cK (show r<10 by omega)]
  rfl
 | k+2,r,_,hr=>by
  have e:q*10^(k+2)+r=10*(q*10^(k+1)+r / 10)+r%10:=by
   rw [Nat.pow_succ 10 (k+1),<-Nat.mul_assoc]
   omega
  have hr':r / 10<10^(k+1):=by
   rw [Nat.pow_succ] at hr
   omega
  have hp:0<q*10^(k+1):=Nat.mul_pos hq (Nat.pow_pos (by decide))
  rw [e,oI (by omega) (by omega),p7 hq (k+1) (r / 10) (by omega) hr',List.append_assoc]
  congr 1
  unfold pad
  by_cases z:r<10
  ·rw [show r / 10=0 by omega,show r%10=r by omega,cK (n:=0) (by decide),cK z]
   simp only [List.length_singleton]
   rw [show k+2 - 1=(k+1 - 1)+1 by omega,List.replicate_succ']
  ·have e2:dg r=dg (r / 10)++dg (r%10):=by
    rw [<- oI (by omega) (by omega)]
    congr 1
    omega
   have l1:(dg (r%10)).length=1:=by rw [cK (by omega)];rfl
   rw [e2,List.length_append,l1,List.append_assoc,show k+2 - ((dg (r / 10)).length+1)=k+1 - (dg (r / 10)).length by omega]
theorem str_is {i:Int} (h:0<=i):((toString i:String):PySem.Str)=st (dg i.toNat):=by
 obtain ⟨n,rfl⟩:=Int.eq_ofNat_of_zero_le h
 show PySem.Str.ofString (Nat.repr n)=_
 rw [PySem.Str.ofString_eq_toList]
 unfold Nat.repr st dg
 rw [String.toList_ofList]
 rfl
theorem kd (k:Nat):nb ((10:Int)^k)<=4*k+1:=by
 induction k with
 | zero=>decide
 | succ k ih =>
  have e:(10:Int)^(k+1)=10^k*10:=Int.pow_succ _ _
  have:=eV ih (show nb (10:Int)<=4 by decide)
  rw [e]
  omega
theorem oY {n:Int} (h:0<=n):(10:Int)^(n / 2).toNat*10^(n / 2).toNat*(if n%2=1 then 10 else 1)=10^n.toNat:=by
 rw [<- Int.pow_add]
 by_cases g:n%2=1
 ·rw [if_pos g,<-Int.pow_succ]
  congr 1
  omega
 ·rw [if_neg g,Int.mul_one]
  congr 1
  omega
theorem ub {a b:List Nat} (h:a.length+b.length<=1000000):aX (.str (st a)) (.str (st b))=.ok (.str (st (a++b))):=by
 unfold aX st
 simp only [List.size_toArray]
 rw [if_pos h]
 simp
theorem bF {a:List Nat} (h:a.length<=1000000):nD [.str (st a)]=.ok (.int a.length):=by
 unfold nD st
 simp only [List.size_toArray]
 rw [if_pos h]
theorem mR {i:Int} (h:0<=i) (hn:nb i<=1900):nW [.int i]=.ok (.str (st (dg i.toNat))):=by
 unfold nW
 simp only
 rw [if_pos hn,str_is h]
theorem Em {n:Int} (h0 : -100000<=n) (h1:n<=100000):pR (.str (st [48])) (.int n)=.ok (.str (st (List.replicate n.toNat 48))):=by
 unfold pR
 simp only
 rw [if_pos ⟨rfl,h0,h1⟩]
 rfl
theorem KR {a:List Nat} {k:Int} (h0:0<=k) (h1:k<=a.length) (h:a.length<=1000000):Ax (.str (st a)) none (some k)=.ok (.str (st (a.take k.toNat))):=by
 rw [vF (by unfold st;simpa using h)]
 unfold HA EV.cut sIx st
 simp only [if_neg (show ¬ k<0 by omega),List.drop_zero,Nat.sub_zero]
 congr 3
 rw [show min k.toNat a.toArray.toList.length=k.toNat by simp;omega]
theorem qG {a:List Nat} {k:Int} (h0:0<=k) (h1:k<=a.length) (h:a.length<=1000000):Ax (.str (st a)) (some k) none=.ok (.str (st (a.drop k.toNat))):=by
 rw [vF (by unfold st;simpa using h)]
 unfold HA EV.cut sIx st
 simp only [if_neg (show ¬ k<0 by omega)]
 congr 3
 rw [show min k.toNat a.toArray.toList.length=k.toNat by simp;omega]
 simp
 exact List.take_of_length_le (by rw [List.length_drop];exact Nat.le_refl _)
theorem Lu {c:Nat} {a:List Nat} (h:(c::a).length<=1000000):oIx (.str (st (c::a))) (.int 0)=.ok (.str (st [c])):=by
 unfold oIx st ixN
 simp only [List.size_toArray]
 rw [if_pos h]
 simp
theorem Kt {r:Nat} {k:Int} (h0:0<=k) (h1:k<=100000) (hl:((dg r).length:Int)<=k):mj (st (dg r)) (.int k)=.ok (.str (st (pad k.toNat r))):=by
 have hc:∀ c,(st (dg r)).cps[0]? = some c->48<=c:=fun c e=>by
  unfold st at e
  simp only [List.getElem?_toArray] at e
  exact (Bp r c (List.mem_of_getElem? e)).1
 unfold mj
 simp only
 rw [if_pos ⟨h0,h1,fun e=>absurd (hc _ e) (by decide),fun e=>absurd (hc _ e) (by decide)⟩]
 unfold zf pad st
 simp only [List.size_toArray]
 split
 ·rw [show k.toNat - (dg r).length=0 by omega]
  rfl
 ·simp
end EV
namespace EV
theorem jJ {l:List Nat}:(st l).cps.toList=l:=by unfold st;simp
theorem lS {l:List Nat}:(st l).cps.size=l.length:=by unfold st;simp
theorem gN {a b:List Nat}:(st a=st b)=(a=b):=by
 apply propext
 constructor
 ·intro h
  have:=congrArg (fun x=>x.cps.toList) h
  simpa [jJ] using this
 ·intro h;rw [h]
theorem pO {l:List Nat} {c:Nat} (h:l.length<=1000000):bC (st l) (.str (st [c]))=.ok (.tup [.str (st (aS c l).1),.str (st (aS c l).2.1),.str (st (aS c l).2.2)]):=by
 unfold bC
 simp only [jJ]
 rw [if_pos (by rw [lS];exact h)]
 rfl
theorem gM {l:List Nat} {c:Nat}:aU (st l) (.str (st [c]))=.ok (.bl (decide (l.head? = some c))):=by
 unfold aU
 simp only
 congr 2
 cases l with
 | nil=>rfl
 | cons x r =>
  unfold st
  simp
  by_cases h:x=c
  ·subst h;simp
  ·simp [h]
theorem pW {l:List Nat} (h:nC l=true) (h0:l≠[]) (h1:l.length<=640):mT [.str (st l)]=.ok (.int (dv l)):=by
 unfold mT
 simp only [jJ]
 rw [if_pos ⟨h,h0,by rw [lS];exact h1⟩]
theorem rN {c:Nat}:oIn (.str ⟨#[c]⟩) (.str "0123456789")=.ok (.bl (decide (48<=c/\c<=57))):=by
 unfold oIn
 simp only
 congr 2
 have:(PySem.Str.ofString "0123456789").cps.toList=[48,49,50,51,52,53,54,55,56,57]:=by decide
 show decide (c∈(PySem.Str.ofString "0123456789").cps.toList)=_
 rw [this]
 apply decide_eq_decide.mpr
 simp only [List.mem_cons,List.not_mem_nil,or_false]
 omega
theorem si {α:Type} (f:α->Bool):∀ l:List α,boolsOf (l.map fun x=>D.bl (f x))=some (l.map f)
 | []=>rfl
 | a::r=>by rw [List.map_cons];unfold boolsOf;rw [si f r];rfl
theorem wL {α:Type} (f:α->Bool):∀ l:List α,D.flats (l.map fun x=>D.bl (f x))=true
 | []=>by unfold D.flats;rfl
 | a::r=>by rw [List.map_cons];unfold D.flats D.flat;rw [wL f r];rfl
theorem oJ {l:List Nat} {g:E} {δ:Dt} {f:Nat->Bool} (hg:∀ c,g [some (.str ⟨#[c]⟩)]=.ok (.bl (f c))):∀ l:List Nat,runC (stC (con (.bl true)) g [] δ) (l.map fun c=>D.str ⟨#[c]⟩)=.ok (l.map fun c=>D.bl (f c))
 | []=>rfl
 | c::r=>by
  have e:stC (con (.bl true)) g [] δ (.str ⟨#[c]⟩)=.ok (some (.bl (f c))):=by
   unfold stC inC
   rw [List.map_nil,hg c]
   rfl
  rw [List.map_cons]
  unfold runC
  rw [e,oJ (l:=r) hg r]
  rfl
theorem fP {l:List Nat} {q:Nat->Bool} {c:Nat} (hc:q c=true):∀ k:Nat,(List.replicate k c++l).takeWhile q=List.replicate k c++l.takeWhile q
 | 0=>by simp
 | k+1=>by
  rw [List.replicate_succ,List.cons_append,List.takeWhile_cons,if_pos hc,fP hc k,List.cons_append]
noncomputable def bare (l:List Nat):List Nat:=yp (#[32]:Array Nat).contains true true l
theorem Cf {l:List Nat} (h:l.length<=1000000):rJ (st l) (.str (st [32]))=.ok (.str (st (bare l))):=by
 unfold rJ Hv
 simp only
 rw [if_pos (by rw [lS];exact h),jJ]
 rfl
theorem wC {q:Nat->Bool} {l:List Nat} (h:∀ c,l.head? = some c->q c=false):l.takeWhile q=[]:=by
 cases l with
 | nil=>rfl
 | cons x r=>rw [List.takeWhile_cons,if_neg (by rw [h x rfl];decide)]
theorem uu {i j:Nat} {l:List Nat} (h0:l≠[]) (h1:l.head? ≠ some 32) (h2:l.getLast? ≠ some 32):bare (List.replicate i 32++l++List.replicate j 32)=l:=by
 have q32:(#[32]:Array Nat).contains 32=true:=by simp
 have qn:∀ c,c≠32->(#[32]:Array Nat).contains c=false:=fun c hc=>by simp [hc]
 unfold bare yp
 simp only [if_true]
 have t1:(List.replicate i 32++l++List.replicate j 32).takeWhile (#[32]:Array Nat).contains=List.replicate i 32:=by
  rw [List.append_assoc,fP q32,wC,List.append_nil]
  intro c hc
  refine qn c fun z=>h1 ?_
  cases l with
  | nil=>exact absurd rfl h0
  | cons x r=>rw [List.cons_append] at hc;rw [<- z];exact hc
 rw [t1,List.length_replicate]
 have t2:(List.replicate i 32++l++List.replicate j 32).drop i=l++List.replicate j 32:=by
  rw [List.append_assoc,List.drop_left' (by simp)]
 rw [t2,List.reverse_append,List.reverse_replicate,fP q32,wC,List.append_nil,List.length_replicate]
 ·have t3:(List.replicate i 32++l++List.replicate j 32).length - j=(List.replicate i 32++l).length:=by simp;omega
  rw [t3,List.take_left' rfl,List.drop_left' (by simp)]
 ·intro c hc
  refine qn c fun z=>h2 ?_
  rw [List.head?_reverse] at hc
  rw [<- z];exact hc
noncomputable def signOf:List Nat->Int×List Nat
 | 45::r=>(1,r)
 | 43::r=>(0,r)
 | l=>(0,l)
noncomputable def kT (l:List Nat):Bool:=nC l&&decide (l≠[])
noncomputable def exL (l:List Nat):Option Int:=if kT (signOf l).2=true/\(signOf l).2.length<=4 then some (if (signOf l).1=1 then -(dv (signOf l).2:Int) else dv (signOf l).2) else none
noncomputable def Kn (w:List Nat):Option Int:=if (aS 101 w).2.1=[101] then exL (aS 101 w).2.2 else some 0
noncomputable def spL (l:List Nat):Option (Int×Int×Int):=if l.length<=400 then
 (Kn (signOf (bare l)).2).bind fun e =>
  if kT (aS 46 (aS 101 (signOf (bare l)).2).1).1=true/\((aS 46 (aS 101 (signOf (bare l)).2).1).2.1=[46]->kT (aS 46 (aS 101 (signOf (bare l)).2).1).2.2=true) then
   some ((signOf (bare l)).1,dv ((aS 46 (aS 101 (signOf (bare l)).2).1).1++(aS 46 (aS 101 (signOf (bare l)).2).1).2.2),e - (aS 46 (aS 101 (signOf (bare l)).2).1).2.2.length)
  else none
 else none
theorem jQ {c:Nat} {l:List Nat} (h:c∉l):aS c l=(l,[],[]):=by unfold aS;rw [if_neg h]
theorem iw {c:Nat} {a b:List Nat} (h:c∉a):aS c (a++c::b)=(a,[c],b):=by
 unfold aS
 rw [if_pos (by simp)]
 have q:∀ x∈a,(x != c)=true:=fun x hx=>by
  have:x≠c:=fun z=>h (z▸hx)
  simpa using this
 have t:(a++c::b).takeWhile (· != c)=a:=by
  rw [List.takeWhile_append_of_pos q,List.takeWhile_cons,if_neg (by simp),List.append_nil]
 have d:(a++c::b).dropWhile (· != c)=c::b:=by
  rw [List.dropWhile_append_of_pos q,List.dropWhile_cons,if_neg (by simp)]
 rw [t,d]
 rfl
theorem vz (c:Nat) (l:List Nat):(aS c l).1.length<=l.length/\(aS c l).2.1.length<=1/\(aS c l).2.2.length<=l.length/\(aS c l).1.length+(aS c l).2.2.length<=l.length:=by
 by_cases h:c∈l
 ·obtain ⟨a,b,rfl,hn⟩:=List.eq_append_cons_of_mem h
  rw [iw hn]
  simp
  omega
 ·rw [jQ h]
  simp
theorem yc {c:Nat} {l:List Nat} (h:(aS c l).2.1≠[c]):(aS c l).2.2=[]:=by
 by_cases g:c∈l
 ·obtain ⟨a,b,rfl,hn⟩:=List.eq_append_cons_of_mem g
  rw [iw hn] at h
  exact absurd rfl h
 ·rw [jQ g]
theorem lL {a b:List Nat}:nC (a++b)=(nC a&&nC b):=by unfold nC;rw [List.all_append]
theorem aB {l:List Nat}:kT l=true↔nC l=true/\l≠[]:=by unfold kT;simp
theorem oh {c:Nat} {r:List Nat} (h1:c≠45) (h2:c≠43):signOf (c::r)=(0,c::r):=by
 unfold signOf
 split
 ·rename_i e;cases e;exact absurd rfl h1
 ·rename_i e;cases e;exact absurd rfl h2
 ·rfl
theorem ve (l:List Nat):(signOf l).2.length<=l.length:=by
 unfold signOf
 split<;>simp
theorem lO (l:List Nat):(bare l).length<=l.length:=by
 unfold bare yp
 simp only [List.length_drop,List.length_take]
 omega
theorem Kb {l:List Nat} {f:Nat->Bool}:Hq [.lst (l.map fun c=>.bl (f c))]=.ok (.bl (l.all f)):=by
 unfold Hq
 simp only
 rw [si]
 simp only
 congr 2
 rw [List.all_map]
 rfl
theorem dm {l:List Nat}:nC l=true↔∀ c∈l,48<=c/\c<=57:=by
 unfold nC
 rw [List.all_eq_true]
 constructor
 ·intro h c hc;exact of_decide_eq_true (h c hc)
 ·intro h c hc;exact decide_eq_true (h c hc)
theorem G1 (n:Nat):nC (dg n)=true:=dm.mpr (Bp n)
theorem lK {a b:List Nat} (h:∀ c∈a,c∈b) (hb:nC b=true):nC a=true:=dm.mpr fun c hc=>dm.mp hb c (h c hc)
theorem wM (k:Nat):nC (List.replicate k 48)=true:=dm.mpr fun c hc=>by
 have:=List.eq_of_mem_replicate hc
 omega
theorem rV {a b:List Nat}:dv (a++b)=dv a*10^b.length+dv b:=by
 unfold dv
 rw [List.foldl_append]
 have key:∀ (b:List Nat) (x:Nat),b.foldl (fun a c=>a*10+(c - 48)) x=x*10^b.length+b.foldl (fun a c=>a*10+(c - 48)) 0:=by
  intro b
  induction b with
  | nil=>intro x;simp
  | cons c r ih =>
   intro x
   rw [List.foldl_cons,List.foldl_cons,ih,ih (0*10+(c - 48)),List.length_cons,Nat.pow_succ,Nat.mul_comm (10^r.length) 10]
   simp only [Nat.add_mul,Nat.zero_mul,Nat.zero_add,Nat.mul_assoc,Nat.add_assoc]
 exact key b _
theorem Bo (n:Nat):dv (dg n)=n:=by
 induction n using Nat.strongRecOn with
 | ind n ih =>
  by_cases h:n<10
  ·rw [cK h]
   unfold dv
   simp
  ·have e:=oI (n:=n / 10) (d:=n%10) (by omega) (by omega)
   rw [show 10*(n / 10)+n%10=n by omega] at e
   have l1:(dg (n%10)).length=1:=by rw [cK (by omega)];rfl
   rw [e,rV,ih (n / 10) (by omega),ih (n%10) (by omega),l1]
   omega
theorem E7 (k:Nat):dv (List.replicate k 48)=0:=by
 induction k with
 | zero=>rfl
 | succ k ih =>
  rw [List.replicate_succ',rV,ih]
  rfl
def Mk (m:List Nat) (s:Int):Prop:=(m=[]/\s=0)\/(m=[45]/\s=1)\/(m=[43]/\s=0)
def Pt (pt b:List Nat):Prop:=(pt=[]/\b=[])\/(kT b=true/\pt=46::b)
def Tl (tl:List Nat) (e:Int):Prop:=(tl=[]/\e=0)\/∃ m s c,Mk m s/\kT c=true/\c.length<=4/\tl=101::(m++c)/\e=if s=1 then -(dv c:Int) else dv c
theorem tM {m a x:List Nat} {s:Int} (hm:Mk m s) (ha:kT a=true):signOf (m++(a++x))=(s,a++x):=by
 obtain ⟨h1,h2⟩:=aB.mp ha
 rcases hm with ⟨rfl,rfl⟩ | ⟨rfl,rfl⟩ | ⟨rfl,rfl⟩
 ·cases a with
  | nil=>exact absurd rfl h2
  | cons c r =>
   have:=dm.mp h1 c (by simp)
   exact oh (by omega) (by omega)
 ·rfl
 ·rfl
theorem f9 {c:Nat} {l:List Nat} (h:nC l=true) (hc:c<48\/57<c):c∉l:=fun z=>by
 have:=dm.mp h c z
 omega
theorem wb {c:Nat} {m:List Nat} {s:Int} (hm:Mk m s) (hc:c≠45) (hc':c≠43):c∉m:=by
 rcases hm with ⟨rfl,_⟩ | ⟨rfl,_⟩ | ⟨rfl,_⟩<;>simp [hc,hc']
theorem wa {c:Nat} {pt b:List Nat} (hp:Pt pt b) (h46:c≠46) (hc:c<48\/57<c):c∉pt:=by
 rcases hp with ⟨rfl,_⟩ | ⟨h,rfl⟩
 ·simp
 ·have:=f9 (aB.mp h).1 hc
  simp [h46,this]
theorem Io {i j:Nat} {m a pt b tl:List Nat} {s e:Int} (hm:Mk m s) (ha:kT a=true) (hp:Pt pt b) (ht:Tl tl e) (hl:(List.replicate i 32++(m++(a++(pt++tl)))++List.replicate j 32).length<=400) :
  spL (List.replicate i 32++(m++(a++(pt++tl)))++List.replicate j 32)=some (s,(dv (a++b):Int),e - b.length):=by
 obtain ⟨a1,a2⟩:=aB.mp ha
 have n32:(32:Nat)∉m++(a++(pt++tl)):=by
  have x1:=wb (c:=32) hm (by decide) (by decide)
  have x2:=f9 (c:=32) a1 (by decide)
  have x3:=wa (c:=32) hp (by decide) (by decide)
  have x4:32∉tl:=by
   rcases ht with ⟨rfl,_⟩ | ⟨m2,s2,c,h1,h2,h3,rfl,_⟩
   ·simp
   ·have y1:=wb (c:=32) h1 (by decide) (by decide)
    have y2:=f9 (c:=32) (aB.mp h2).1 (by decide)
    simp [y1,y2]
  simp [x1,x2,x3,x4]
 have eb:bare (List.replicate i 32++(m++(a++(pt++tl)))++List.replicate j 32)=m++(a++(pt++tl)):=by
  refine uu (by simp [a2]) (fun z=>n32 ?_) (fun z=>n32 ?_)
  ·exact List.mem_of_mem_head? z
  ·exact List.mem_of_getLast? z
 have e1:(a++(pt++tl))=(a++pt)++tl:=(List.append_assoc _ _ _).symm
 have n101:(101:Nat)∉a++pt:=by
  have x2:=f9 (c:=101) a1 (by decide)
  have x3:=wa (c:=101) hp (by decide) (by decide)
  simp [x2,x3]
 have p1:(aS 101 (a++(pt++tl))).1=a++pt/\Kn (a++(pt++tl))=some e:=by
  unfold Kn
  rw [e1]
  rcases ht with ⟨rfl,rfl⟩ | ⟨m2,s2,c,h1,h2,h3,rfl,rfl⟩
  ·rw [List.append_nil,jQ n101]
   exact ⟨rfl,if_neg (by simp)⟩
  ·rw [iw n101]
   refine ⟨rfl,?_⟩
   rw [if_pos rfl]
   unfold exL
   have:=tM (x:=[]) h1 h2
   rw [List.append_nil] at this
   rw [this]
   exact if_pos ⟨h2,h3⟩
 have p2:aS 46 (a++pt)=(a,if pt=[] then [] else [46],b):=by
  have x2:=f9 (c:=46) a1 (by decide)
  rcases hp with ⟨rfl,rfl⟩ | ⟨h,rfl⟩
  ·rw [List.append_nil,jQ x2]
   rfl
  ·rw [iw x2,if_neg (by simp)]
 unfold spL
 rw [if_pos hl,eb,tM hm ha]
 simp only
 rw [p1.2,p1.1,p2]
 simp only [Option.bind_some]
 have hq:(if pt=[] then [] else [46])=[46]->kT b=true:=by
  rcases hp with ⟨rfl,rfl⟩ | ⟨h,rfl⟩
  ·intro z;simp at z
  ·exact fun _=>h
 rw [if_pos ⟨ha,hq⟩]
theorem zM {m a pt b tl:List Nat} {s e:Int} (hm:Mk m s) (ha:kT a=true) (hp:Pt pt b) (ht:Tl tl e) (hl:(m++(a++(pt++tl))).length<=400) :
  spL (m++(a++(pt++tl)))=some (s,(dv (a++b):Int),e - b.length):=by
 have:=Io (i:=0) (j:=0) hm ha hp ht (by simpa using hl)
 simpa using this
theorem FL {m:Nat} (hn:nb (Int.negSucc m)<=1900):nW [.int (Int.negSucc m)]=.ok (.str (st (45::dg (m+1)))):=by
 unfold nW
 simp only
 rw [if_pos hn]
 show R.ok (D.str (PySem.Str.ofString ("-"++Nat.repr (m+1))))=_
 rw [PySem.Str.ofString_eq_toList,String.toList_append]
 unfold Nat.repr st dg
 simp only [String.toList_ofList]
 rfl
theorem um (n:Nat):kT (dg n)=true:=aB.mpr ⟨G1 n,fun z=>by have:=E8 n;rw [z] at this;simp at this⟩
theorem v7 {i j:Nat} {m a pt b tl:List Nat} {s e:Int} (hm:Mk m s) (ha:kT a=true) (hp:Pt pt b) (ht:Tl tl e) :
  ∃ c,(signOf (bare (List.replicate i 32++(m++(a++(pt++tl)))++List.replicate j 32))).2.head? = some c/\c<=57:=by
 obtain ⟨a1,a2⟩:=aB.mp ha
 have n32:(32:Nat)∉m++(a++(pt++tl)):=by
  have x1:=wb (c:=32) hm (by decide) (by decide)
  have x2:=f9 (c:=32) a1 (by decide)
  have x3:=wa (c:=32) hp (by decide) (by decide)
  have x4:32∉tl:=by
   rcases ht with ⟨rfl,_⟩ | ⟨m2,s2,c,h1,h2,h3,rfl,_⟩
   ·simp
   ·have y1:=wb (c:=32) h1 (by decide) (by decide)
    have y2:=f9 (c:=32) (aB.mp h2).1 (by decide)
    simp [y1,y2]
  simp [x1,x2,x3,x4]
 have eb:bare (List.replicate i 32++(m++(a++(pt++tl)))++List.replicate j 32)=m++(a++(pt++tl)):=by
  refine uu (by simp [a2]) (fun z=>n32 ?_) (fun z=>n32 ?_)
  ·exact List.mem_of_mem_head? z
  ·exact List.mem_of_getLast? z
 rw [eb,tM hm ha]
 cases a with
 | nil=>exact absurd rfl a2
 | cons c r=>exact ⟨c,rfl,(dm.mp a1 c (by simp)).2⟩
noncomputable def nch (c:Nat):Bool:=decide (48<=c/\c<=57)||c == 46||c == 101||c == 43||c == 45
theorem EI {x:PySem.Str} {i:Int} (h0:0<=i) (h1:i<x.cps.size) (h2:x.cps.size<=1000000):∃ c,oIx (.str x) (.int i)=.ok (.str (st [c])):=by
 have h:i.toNat<x.cps.toList.length:=by simp;omega
 refine ⟨x.cps.toList[i.toNat],?_⟩
 unfold oIx ixN
 simp only
 rw [if_pos h2,if_pos h0,if_pos (by simpa using h1)]
 simp only [Option.bind_some]
 rw [List.getElem?_eq_getElem h]
 rfl
end EV
namespace EV
noncomputable def cd (E F b:Int):Int:=b%pw (E+F)
noncomputable def rk (E F b:Int):Int:=if pw (E+F)<=b then -(cd E F b) else cd E F b
noncomputable def vl (F c:Int):Int:=if c / pw F=0 then c else (pw F+c%pw F)*pw (c / pw F - 1)
def nn (E F b:Int):Prop:=pw (E+F) - pw F<cd E F b
noncomputable instance {E F b:Int}:Decidable (nn E F b):=inferInstanceAs (Decidable (_<_))
section
variable {E F a b c c':Int}
theorem J1 (h:Sz E F):cd E F b / pw F=fld E F b:=by
 obtain ⟨h1,h2,h3,h4⟩:=h
 unfold cd fld;rw [cm (by omega) (by omega),part1 (ai _) (ai _)]
theorem J0 (h:Sz E F):cd E F b%pw F=fig F b:=by
 obtain ⟨h1,h2,h3,h4⟩:=h
 unfold cd fig;rw [cm (by omega) (by omega),part2]
theorem bE (h:Sz E F):4*pw F<=pw (E+F):=by
 obtain ⟨h1,h2,h3,h4⟩:=h
 have:=ai F
 rw [cm (by omega) (by omega)];exact Int.mul_le_mul_of_nonneg_right (gQ h1) (by omega)
theorem Fp (h:Sz E F):pw (E+F+1)=2*pw (E+F):=by
 obtain ⟨h1,h2,h3,h4⟩:=h
 exact cj (by omega)
theorem EZ (F b:Int):0<=fig F b/\fig F b<pw F:=⟨Int.emod_nonneg _ (by have:=ai F;omega),Int.emod_lt_of_pos _ (ai F)⟩
theorem Iq (h:Sz E F) (hb:In E F b):sgn E F b=if pw (E+F)<=b then 1 else 0:=by
 obtain ⟨h1,h2,h3,h4⟩:=id h
 have e0:sgn E F b=b / pw (E+F):=by unfold sgn;rw [cm (by omega) (by omega),part0 (ai _) (ai _)]
 have hw:=Fp h
 have hp:=ai (E+F)
 obtain ⟨b0,b1⟩:=hb
 rw [e0]
 split
 ·rename_i z
  have l:1<=b / pw (E+F):=Int.le_ediv_of_mul_le hp (by omega)
  have u:b / pw (E+F)<2:=Int.ediv_lt_of_lt_mul hp (by omega)
  omega
 ·rename_i z
  exact Int.ediv_eq_zero_of_lt b0 (by omega)
theorem jI:vl F 0=0:=by unfold vl;simp
theorem kN (h0:0<=c) (h:c<c'):vl F c<vl F c':=by
 have hQ:=ai F
 have hm:c / pw F<=c' / pw F:=Int.ediv_le_ediv hQ (by omega)
 have hf0:0<=c / pw F:=Int.ediv_nonneg h0 (by omega)
 have e:=Int.mul_ediv_add_emod c (pw F)
 have e':=Int.mul_ediv_add_emod c' (pw F)
 have r0:=Int.emod_nonneg c (show pw F≠0 by omega)
 have r1:=Int.emod_lt_of_pos c hQ
 have s0:=Int.emod_nonneg c' (show pw F≠0 by omega)
 have s1:=Int.emod_lt_of_pos c' hQ
 unfold vl
 generalize c / pw F=f at *
 generalize c' / pw F=f' at *
 generalize c%pw F=r at *
 generalize c'%pw F=r' at *
 by_cases z:f=0
 ·rw [if_pos z]
  subst z
  by_cases z':f'=0
  ·rw [if_pos z'];exact h
  ·rw [if_neg z']
   have p1:1<=pw (f' - 1):=ai _
   have:(pw F+r')*1<=(pw F+r')*pw (f' - 1):=Int.mul_le_mul_of_nonneg_left p1 (by omega)
   rw [Int.mul_zero] at e
   omega
 ·rw [if_neg z,if_neg (by omega)]
  by_cases q:f=f'
  ·subst q
   exact Int.mul_lt_mul_of_pos_right (by omega) (ai _)
  ·have e1:pw f=2*pw (f - 1):=pN (by omega)
   have e2:pw f<=pw (f' - 1):=d3 (by omega)
   have k1:(pw F+r)*pw (f - 1)<(2*pw F)*pw (f - 1):=Int.mul_lt_mul_of_pos_right (by omega) (ai _)
   have k2:(2*pw F)*pw (f - 1)=pw F*pw f:=by rw [e1,Int.mul_comm 2,Int.mul_assoc]
   have k3:pw F*pw f<=pw F*pw (f' - 1):=Int.mul_le_mul_of_nonneg_left e2 (by omega)
   have k4:pw F*pw (f' - 1)<=(pw F+r')*pw (f' - 1):=Int.mul_le_mul_of_nonneg_right (by omega) (Int.le_of_lt (ai _))
   omega
theorem DF (h0:0<=c) (h1:0<=c'):(vl F c<vl F c'↔c<c')/\(vl F c=vl F c'↔c=c'):=by
 rcases Int.lt_trichotomy c c' with q | q | q
 ·have:=kN (F:=F) h0 q;omega
 ·subst q;omega
 ·have:=kN (F:=F) h1 q;omega
theorem qx (h0:0<=c):0<=vl F c/\(vl F c=0↔c=0):=by
 have:=DF (F:=F) (Int.le_refl 0) h0
 have:=DF (F:=F) h0 (Int.le_refl 0)
 rw [jI] at *
 omega
theorem Fq (h:Sz E F) (h0:0<=c) (h1:c<pw (E+F)):c / pw F<pw E/\0<=c / pw F:=by
 obtain ⟨k1,k2,k3,k4⟩:=h
 refine ⟨Int.ediv_lt_of_lt_mul (ai _) ?_,Int.ediv_nonneg h0 (Int.le_of_lt (ai _))⟩
 rw [<- cm (by omega) (by omega)];exact h1
noncomputable def ab (E F b:Int):Int:=if rk E F b=pw (E+F) - pw F then b else if rk E F b<0 then pw (E+F) - (rk E F b+1) else rk E F b+1
noncomputable def be (E F b:Int):Int:=if rk E F b = -(pw (E+F) - pw F) then b else if 0<rk E F b then rk E F b - 1 else pw (E+F) - (rk E F b - 1)
theorem end_is (h:Sz E F):(pw E - 1)*pw F=pw (E+F) - pw F:=by
 obtain ⟨h1,h2,h3,h4⟩:=h
 rw [cm (by omega) (by omega),Int.sub_mul,Int.one_mul]
theorem yV (h0:0<=c):vl F (c+1) - vl F c=pw (max (c / pw F - 1) 0):=by
 have hQ:=ai F
 have f0:0<=c / pw F:=Int.ediv_nonneg h0 (by omega)
 have e:=Int.mul_ediv_add_emod c (pw F)
 have r0:=Int.emod_nonneg c (show pw F≠0 by omega)
 have r1:=Int.emod_lt_of_pos c hQ
 by_cases q:c%pw F+1<pw F
 ·have e1:(c+1) / pw F=c / pw F:=by
   rw [show c+1=(c%pw F+1)+pw F*(c / pw F) by omega,Int.add_mul_ediv_left _ _ (by omega),Int.ediv_eq_zero_of_lt (by omega) q];omega
  have e2:(c+1)%pw F=c%pw F+1:=by
   rw [show c+1=(c%pw F+1)+pw F*(c / pw F) by omega,Int.add_mul_emod_self_left,Int.emod_eq_of_lt (by omega) q]
  unfold vl
  rw [e1,e2]
  by_cases z:c / pw F=0
  ·rw [if_pos z,if_pos z,z]
   have:pw (max (0 - 1) 0)=1:=rfl
   omega
  ·rw [if_neg z,if_neg z,show max (c / pw F - 1) 0=c / pw F - 1 by omega,<-Int.sub_mul]
   rw [show pw F+(c%pw F+1) - (pw F+c%pw F)=1 by omega,Int.one_mul]
 ·have e1:(c+1) / pw F=c / pw F+1:=by
   rw [show c+1=0+pw F*(c / pw F+1) by rw [Int.mul_add];omega,Int.add_mul_ediv_left _ _ (by omega)];simp
  have e2:(c+1)%pw F=0:=by
   rw [show c+1=0+pw F*(c / pw F+1) by rw [Int.mul_add];omega,Int.add_mul_emod_self_left];simp
  unfold vl
  rw [e1,e2,if_neg (by omega)]
  by_cases z:c / pw F=0
  ·rw [if_pos z,z]
   have k1:pw (max (0 - 1) 0)=1:=rfl
   have k2:pw ((0:Int)+1 - 1)=1:=rfl
   rw [k1,k2]
   rw [z,Int.mul_zero] at e
   omega
  ·rw [if_neg z,show max (c / pw F - 1) 0=c / pw F - 1 by omega,show c / pw F+1 - 1=c / pw F by omega,pN (F:=c / pw F) (by omega)]
   generalize pw (c / pw F - 1)=m
   rw [show pw F+0=pw F by omega,show pw F+c%pw F=2*pw F - 1 by omega,Int.sub_mul,Int.one_mul,<-Int.mul_assoc,Int.mul_comm (pw F) 2]
   omega
theorem CI {x a b:PySem.Str}:oIn (.str x) (.tup [.str a,.str b])=.ok (.bl (decide (a=x\/b=x))):=by
 unfold oIn isIn
 simp only [D.sc,List.all_cons,List.all_nil,Bool.and_self,Bool.and_true,if_true,List.any_cons,List.any_nil,D.beq,Bool.or_false]
 by_cases h1:a=x<;>by_cases h2:b=x<;>simp [h1,h2]
end
end EV
namespace EV
section
variable {t n p k a b c:Int}
theorem aR (h:p<=0):pw p=1:=by unfold pw;rw [Int.toNat_of_nonpos h];rfl
theorem bB (hc:0<c):a*c<b*c↔a<b:=⟨fun h=>Int.lt_of_mul_lt_mul_right h (Int.le_of_lt hc),fun h=>Int.mul_lt_mul_of_pos_right h hc⟩
theorem pL (hk:0<=k):pw (p+k)*pw (-p)=pw k*pw p*pw (-(p+k)):=by
 by_cases h1:0<=p
 ·rw [aR (p := -p) (by omega),aR (p := -(p+k)) (by omega),cm h1 hk,Int.mul_one,Int.mul_one,Int.mul_comm]
 ·by_cases h2:0<=p+k
  ·rw [aR (p:=p) (by omega),aR (p := -(p+k)) (by omega),<-cm h2 (by omega),show p+k + -p=k by omega];omega
  ·rw [aR (p:=p) (by omega),aR (p:=p+k) (by omega),Int.one_mul,Int.mul_one,<-cm hk (by omega),show k + -(p+k) = -p by omega]
def Lt (t n p:Int):Prop:=t*pw (-p)<n*pw p
noncomputable instance:Decidable (Lt t n p):=inferInstanceAs (Decidable (_<_))
theorem pS (hk:0<=k):t*pw (-p)<pw k*(n*pw p)↔Lt t n (p+k):=by
 have z1:=ai (-(p+k))
 have z2:=ai (-p)
 unfold Lt
 rw [<- bB z1,<-bB (a:=t*pw (-(p+k))) z2]
 have e1:pw k*(n*pw p)*pw (-(p+k))=n*pw (p+k)*pw (-p):=by
  rw [Int.mul_assoc n,pL hk,<-Int.mul_assoc (pw k),Int.mul_comm (pw k) n]
  simp only [Int.mul_assoc]
 have e2:t*pw (-p)*pw (-(p+k))=t*pw (-(p+k))*pw (-p):=Int.mul_right_comm ..
 rw [e1,e2]
theorem Jw (h:0<t):pw ((nb t:Int) - 1)<=t:=by
 have h1:¬ nb t<=nb t - 1:=by
  have:nb t≠0:=fun z=>by
   have:=iB.mp (Nat.le_of_eq z)
   omega
  omega
 rw [iB] at h1
 have h2:((2^(nb t - 1):Nat):Int)<=t:=by omega
 unfold pw
 rw [show ((nb t:Int) - 1).toNat=nb t - 1 by omega]
 simpa using h2
theorem wm (h:0<t):1<=nb t:=by
 rcases Nat.eq_zero_or_pos (nb t) with z | z
 ·have:=iB.mp (Nat.le_of_eq z)
  omega
 ·exact z
noncomputable def hgt (t n:Int):Int:=if Lt t n (nb t - nb n) then (nb t - nb n:Int) else nb t - nb n+1
theorem Ls (ht:0<t) (hn:0<n):Lt t n ((nb t:Int) - nb n+1):=by
 have l1:=ox (i:=t) (by omega)
 have l2:=Jw hn
 have l3:=wm hn
 unfold Lt
 generalize hp:(nb t:Int) - nb n+1=p
 have e:=pL (p:=p) (k:=(nb n:Int) - 1) (by omega)
 rw [show p+((nb n:Int) - 1)=nb t by omega,aR (p := -(nb t:Int)) (by omega),Int.mul_one] at e
 have k1:t*pw (-p)<pw (nb t)*pw (-p):=Int.mul_lt_mul_of_pos_right l1 (ai _)
 have k2:pw ((nb n:Int) - 1)*pw p<=n*pw p:=Int.mul_le_mul_of_nonneg_right l2 (Int.le_of_lt (ai _))
 omega
theorem GJ (ht:0<t) (hn:0<n):¬ Lt t n ((nb t:Int) - nb n - 1):=by
 have l1:=Jw ht
 have l2:=ox (i:=n) (by omega)
 have l3:=wm ht
 unfold Lt
 generalize hp:(nb t:Int) - nb n - 1=p
 have e:=pL (p:=p) (k:=(nb n:Int)) (by omega)
 rw [show p+(nb n:Int)=(nb t:Int) - 1 by omega,aR (p := -((nb t:Int) - 1)) (by omega),Int.mul_one] at e
 have k1:pw ((nb t:Int) - 1)*pw (-p)<=t*pw (-p):=Int.mul_le_mul_of_nonneg_right l1 (Int.le_of_lt (ai _))
 have k2:n*pw p<pw (nb n)*pw p:=Int.mul_lt_mul_of_pos_right l2 (ai _)
 omega
theorem Bb (ht:0<t) (hn:0<n):Lt t n (hgt t n)/\¬ Lt t n (hgt t n - 1)/\hgt t n<=nb t /\ -(nb n:Int)<=hgt t n:=by
 have l1:=wm ht
 have l2:=wm hn
 unfold hgt
 by_cases g:Lt t n (nb t - nb n)
 ·rw [if_pos g]
  exact ⟨g,GJ ht hn,by omega,by omega⟩
 ·rw [if_neg g]
  refine ⟨Ls ht hn,?_,by omega,by omega⟩
  rw [show (nb t:Int) - nb n+1 - 1=nb t - nb n by omega]
  exact g
theorem ud {q:Int} (hn:0<n) (h:Lt t n p) (hq:p<=q):Lt t n q:=by
 have:=(pS (t:=t) (n:=n) (p:=p) (k:=q - p) (by omega)).mp (by
  have z:1<=pw (q - p):=ai _
  have y:0<n*pw p:=Int.mul_pos hn (ai _)
  have:=Int.mul_le_mul_of_nonneg_right z (Int.le_of_lt y)
  unfold Lt at h
  omega)
 rw [show p+(q - p)=q by omega] at this
 exact this
noncomputable def bR (E F t n:Int):Int:=max (lo E F) (hgt t n - F - 1)
noncomputable def jr (p t:Int):Int:=t*pw (-p)
noncomputable def gK (p n:Int):Int:=n*pw p
noncomputable def rst (l s:Int):Int:=if l=0 then 0 else if 2*l<s then 1 else if 2*l=s then 2 else 3
theorem jq (hn:0<n):0<gK p n:=Int.mul_pos hn (ai _)
theorem p8 (ht:0<=t):0<=jr p t:=Int.mul_nonneg ht (Int.le_of_lt (ai _))
variable {E F:Int}
theorem mq (h:Sz E F) : -20000<=lo E F/\lo E F <= -1:=by
 have:=l8 h
 have:2<=pw (E - 1):=oq (by have:=h.1;omega)
 obtain ⟨h1,h2,h3,h4⟩:=h
 unfold lo
 omega
theorem lN (h:Sz E F) (ht:0<t) (hn:0<n) :
  lo E F<=bR E F t n/\bR E F t n<=nb t/\jr (bR E F t n) t<2*pw F*gK (bR E F t n) n/\(lo E F<bR E F t n->pw F*gK (bR E F t n) n<=jr (bR E F t n) t):=by
 obtain ⟨g1,g2,g3,g4⟩:=Bb ht hn
 have l:=mq h
 obtain ⟨h1,h2,h3,h4⟩:=h
 have e:2*pw F=pw (F+1):=(cj (by omega)).symm
 refine ⟨by unfold bR;omega,by unfold bR;omega,?_,fun q => ?_⟩
 ·rw [e]
  unfold jr gK
  rw [pS (by omega)]
  exact ud hn g1 (by unfold bR;omega)
 ·have hP:bR E F t n=hgt t n - F - 1:=by unfold bR at q ⊢;omega
  have:=fun z=>g2 (by
   have:=(pS (t:=t) (n:=n) (p:=bR E F t n) (k:=F) (by omega)).mp z
   rw [hP,show hgt t n - F - 1+F=hgt t n - 1 by omega] at this
   exact this)
  have:=Int.not_lt.mp this
  unfold jr gK
  omega
theorem uc {A B K:Int} {m:Nat} (hA:0<=A) (hB:0<B) (hK:nb K<=m) (hm:m<=4000) (hw:A<K*B):ie A B:=by
 refine ⟨hB,.inr ?_⟩
 have n2:=eV hK (Nat.le_refl (nb B))
 have n3:nb A<=nb (K*B):=iU (by omega)
 omega
theorem Jx {A B:Int} (h:Sz E F) (hA:0<=A) (hB:0<B) (hw:A<2*pw F*B):ie A B:=by
 refine ⟨hB,.inr ?_⟩
 have n1:nb (2*pw F)<=2+113:=eV (by decide) (kR (c:=112) h.2.2.2)
 have n2:=eV n1 (Nat.le_refl (nb B))
 have n3:nb A<=nb (2*pw F*B):=iU (by omega)
 omega
end
end EV
namespace EV
section
variable {E F t n P w l A B K D:Int}
theorem Fs (h:Sz E F) (hP:lo E F<=P):t*pw (-(lo E F))*gK P n=jr P t*(n*pw (P - lo E F)):=by
 have l:=mq h
 have e:=pL (p := -P) (k:=P - lo E F) (by omega)
 rw [show -P+(P - lo E F) = -(lo E F) by omega,Int.neg_neg,Int.neg_neg,aR (p:=lo E F) (by omega),Int.mul_one] at e
 unfold jr gK
 have e2:t*pw (-(lo E F))*(n*pw P)=t*n*(pw (-(lo E F))*pw P):=by
  rw [Int.mul_assoc,Int.mul_assoc,<-Int.mul_assoc (pw (-(lo E F))),Int.mul_comm (pw (-(lo E F))) n,Int.mul_assoc]
 have e3:t*pw (-P)*(n*pw (P - lo E F))=t*n*(pw (P - lo E F)*pw (-P)):=by
  rw [Int.mul_assoc,Int.mul_assoc,<-Int.mul_assoc (pw (-P)),Int.mul_comm (pw (-P)) n,Int.mul_assoc,Int.mul_comm (pw (-P))]
 rw [e2,e3,e]
noncomputable def codeOf (E F P w:Int):Int:=(P - lo E F)*pw F+w
theorem qc (h:Sz E F) (hP:lo E F<=P) (w0:0<=w) (w1:w<2*pw F) (w2:lo E F<P->pw F<=w):0<=codeOf E F P w /\
  ((w<pw F/\P=lo E F/\codeOf E F P w=w)\/(pw F<=w/\codeOf E F P w / pw F=P - lo E F+1/\codeOf E F P w%pw F=w - pw F)):=by
 have hQ:=ai F
 have z:0<=(P - lo E F)*pw F:=Int.mul_nonneg (by omega) (by omega)
 refine ⟨by unfold codeOf;omega,?_⟩
 by_cases g:w<pw F
 ·have e:P=lo E F:=by
   refine Classical.byContradiction fun q => ?_
   have:=w2 (by omega)
   omega
  refine .inl ⟨g,e,?_⟩
  unfold codeOf
  rw [e,Int.sub_self,Int.zero_mul,Int.zero_add]
 ·refine .inr ⟨by omega,?_,?_⟩
  ·have e:codeOf E F P w=(w - pw F)+pw F*(P - lo E F+1):=by
    unfold codeOf;rw [Int.mul_add,Int.mul_comm (pw F) (P - lo E F)];omega
   rw [e,Int.add_mul_ediv_left _ _ (by omega),Int.ediv_eq_zero_of_lt (by omega) (by omega)];omega
  ·have e:codeOf E F P w=(w - pw F)+pw F*(P - lo E F+1):=by
    unfold codeOf;rw [Int.mul_add,Int.mul_comm (pw F) (P - lo E F)];omega
   rw [e,Int.add_mul_emod_self_left,Int.emod_eq_of_lt (by omega) (by omega)]
theorem Hd (h:Sz E F) (hP:lo E F<=P) (w0:0<=w) (w1:w<2*pw F) (w2:lo E F<P->pw F<=w) :
  vl F (codeOf E F P w)=w*pw (P - lo E F)/\vl F (codeOf E F P w+1)=(w+1)*pw (P - lo E F):=by
 have hQ:=ai F
 obtain ⟨c0,c⟩:=qc h hP w0 w1 w2
 have s:=yV (F:=F) c0
 have e1:vl F (codeOf E F P w)=w*pw (P - lo E F):=by
  rcases c with ⟨c1,c2,c3⟩ | ⟨c1,c2,c3⟩
  ·unfold vl
   rw [c3,c2,if_pos (Int.ediv_eq_zero_of_lt w0 c1),Int.sub_self,show pw 0=1 from rfl,Int.mul_one]
  ·unfold vl
   rw [c2,c3,if_neg (by omega),show P - lo E F+1 - 1=P - lo E F by omega,show pw F+(w - pw F)=w by omega]
 refine ⟨e1,?_⟩
 have e2:max (codeOf E F P w / pw F - 1) 0=P - lo E F:=by
  rcases c with ⟨c1,c2,c3⟩ | ⟨c1,c2,c3⟩
  ·rw [c3,Int.ediv_eq_zero_of_lt w0 c1,c2];omega
  ·rw [c2];omega
 rw [e2] at s
 rw [Int.add_mul,Int.one_mul,<-e1]
 omega
theorem Ii (hB:0<B) (hK:0<K) (l0:0<=l) (l1:l<B) (e:D*B=l*K):0<=D/\D<K/\(D=0↔l=0)/\(2*D<K↔2*l<B)/\(2*D=K↔2*l=B):=by
 have k0:0<=l*K:=Int.mul_nonneg l0 (Int.le_of_lt hK)
 have d0:0<=D:=by
  refine Classical.byContradiction fun q => ?_
  have:=Int.mul_neg_of_neg_of_pos (show D<0 by omega) hB
  omega
 have d1:D<K:=by
  rw [<- bB hB,e,Int.mul_comm K]
  exact Int.mul_lt_mul_of_pos_right l1 hK
 have e2:2*D*B=2*l*K:=by rw [Int.mul_assoc,e,Int.mul_assoc]
 refine ⟨d0,d1,⟨fun q => ?_,fun q => ?_⟩,?_,?_⟩
 ·rw [q,Int.zero_mul] at e
  rcases Int.mul_eq_zero.mp e.symm with z | z
  ·exact z
  ·omega
 ·rw [q,Int.zero_mul] at e
  rcases Int.mul_eq_zero.mp e with z | z
  ·exact z
  ·omega
 ·rw [<- bB hB,e2,Int.mul_comm K,bB hK]
 ·constructor
  ·intro q
   rw [q,Int.mul_comm] at e2
   exact (Int.eq_of_mul_eq_mul_right (by omega) e2).symm
  ·intro q
   rw [q,Int.mul_comm B] at e2
   exact Int.eq_of_mul_eq_mul_right (by omega) e2
theorem between (h:Sz E F) (hn:0<n) (hP:lo E F<=P) (w0:0<=w) (w1:w<2*pw F) (w2:lo E F<P->pw F<=w) (l0:0<=l) (l1:l<gK P n) (e:jr P t=w*gK P n+l) :
  vl F (codeOf E F P w)*n<=t*pw (-(lo E F))/\t*pw (-(lo E F))<vl F (codeOf E F P w+1)*n/\(t*pw (-(lo E F))=vl F (codeOf E F P w)*n↔l=0) /\
  (2*(t*pw (-(lo E F))) - vl F (codeOf E F P w)*n - vl F (codeOf E F P w+1)*n<0↔2*l<gK P n) /\
  (2*(t*pw (-(lo E F))) - vl F (codeOf E F P w)*n - vl F (codeOf E F P w+1)*n=0↔2*l=gK P n):=by
 obtain ⟨v1,v2⟩:=Hd h hP w0 w1 w2
 have u:=Fs (t:=t) (n:=n) h hP
 have hB:=jq (p:=P) hn
 have hK:0<n*pw (P - lo E F):=Int.mul_pos hn (ai _)
 rw [v1,v2]
 have x1:w*pw (P - lo E F)*n=w*(n*pw (P - lo E F)):=by rw [Int.mul_assoc,Int.mul_comm (pw _) n]
 have x2:(w+1)*pw (P - lo E F)*n=w*(n*pw (P - lo E F))+n*pw (P - lo E F):=by rw [Int.add_mul,Int.one_mul,Int.add_mul,x1,Int.mul_comm (pw _) n]
 rw [x1,x2]
 generalize n*pw (P - lo E F)=K at *
 generalize t*pw (-(lo E F))=T at *
 rw [e,Int.add_mul] at u
 have s:=Ii (D:=T - w*K) hB hK l0 l1 (by
  rw [Int.sub_mul,u,Int.mul_right_comm w K];omega)
 omega
end
theorem lg {E F x:Int} (h:Sz E F) (x0:0<=x) (x1:x<pw (E+F)):nb (vl F x)<=40000:=by
 obtain ⟨k1,k2,k3,k4⟩:=id h
 obtain ⟨v1,v2⟩:=Fq h x0 x1
 have v3:=fE h
 have v4:=vt h
 obtain ⟨r0,r1⟩:=EZ F x
 unfold fig at r0 r1
 unfold vl
 split
 ·exact Nat.le_trans (bS (k:=200) x0 (by
   have:pw (E+F)<=pw 127:=d3 (by omega)
   have e:pw 127=170141183460469231731687303715884105728:=rfl
   omega)) (by decide)
 ·have:=eV (bS (k:=128) (i:=pw F+x%pw F) (by omega) (by omega)) (kR (k:=x / pw F - 1) (c:=32768) (by omega))
  omega
theorem j6 {E F x n:Int} (h:Sz E F) (x0:0<=x) (x1:x<pw (E+F)) (nn:nb n<=10000000):MulOk (vl F x) n:=by
 have:=lg h x0 x1
 unfold MulOk;omega
theorem fB {F x y n:Int} (hn:0<n) (x0:0<=x) (hxy:x<y):vl F x*n<vl F y*n:=Int.mul_lt_mul_of_pos_right (kN x0 hxy) hn
section
variable {E F T n c:Int}
theorem AR (h:Sz E F) (hn:0<n) (c0:0<=c) (h1:vl F c*n<=T) (h2:T<vl F (c+1)*n):T<n*pw F↔c<pw F:=by
 have hQ:=ai F
 have vQ:vl F (pw F)=pw F:=by
  unfold vl
  rw [Int.ediv_self (by omega),Int.emod_self,if_neg (by decide),Int.add_zero,show pw ((1:Int) - 1)=1 from rfl,Int.mul_one]
 constructor
 ·intro q
  refine Classical.byContradiction fun z => ?_
  have:vl F (pw F)*n<=vl F c*n:=by
   rcases Int.lt_or_eq_of_le (show pw F<=c by omega) with y | y
   ·exact Int.le_of_lt (fB hn (by omega) y)
   ·rw [y];exact Int.le_refl _
  rw [vQ,Int.mul_comm] at this
  omega
 ·intro q
  have:vl F (c+1)*n<=vl F (pw F)*n:=by
   rcases Int.lt_or_eq_of_le (show c+1<=pw F by omega) with y | y
   ·exact Int.le_of_lt (fB hn (by omega) y)
   ·rw [y];exact Int.le_refl _
  rw [vQ,Int.mul_comm (pw F)] at this
  omega
def yz (F T n c r:Int):Prop:=(r=0/\T=vl F c*n)\/(vl F c*n<T/\((r=1/\2*T - vl F c*n - vl F (c+1)*n<0)\/(r=2/\2*T - vl F c*n - vl F (c+1)*n=0)\/(r=3/\0<2*T - vl F c*n - vl F (c+1)*n)))
theorem wx {l B:Int} (b:vl F c*n<=T/\T<vl F (c+1)*n/\(T=vl F c*n↔l=0)/\(2*T - vl F c*n - vl F (c+1)*n<0↔2*l<B)/\(2*T - vl F c*n - vl F (c+1)*n=0↔2*l=B)) (l0:0<=l):yz F T n c (rst l B):=by
 obtain ⟨b1,b2,b3,b4,b5⟩:=b
 unfold yz rst
 generalize vl F c*n=u at *
 generalize vl F (c+1)*n=v at *
 by_cases g0:l=0
 ·rw [if_pos g0];left;omega
 rw [if_neg g0]
 by_cases g1:2*l<B
 ·rw [if_pos g1];right;omega
 rw [if_neg g1]
 by_cases g2:2*l=B
 ·rw [if_pos g2];right;omega
 rw [if_neg g2];right;omega
end
section
variable {E F T n c c' r r' s t w p:Int}
theorem fL (h:Sz E F) (hs:0<=s/\s<=1) (c0:0<=c) (c1:c<pw (E+F)):In E F (s*pw (E+F)+c)/\sgn E F (s*pw (E+F)+c)=s/\fld E F (s*pw (E+F)+c)=c / pw F/\fig F (s*pw (E+F)+c)=c%pw F:=by
 obtain ⟨k1,k2,k3,k4⟩:=id h
 have e1:cd E F (s*pw (E+F)+c)=c:=by
  unfold cd
  rw [Int.add_comm,Int.add_mul_emod_self_right,Int.emod_eq_of_lt c0 c1]
 have e2:pw (E+F+1)=2*pw (E+F):=cj (by omega)
 have hb:In E F (s*pw (E+F)+c):=by
  unfold In
  rw [e2]
  rcases (by omega:s=0\/s=1) with e | e<;>subst e<;>omega
 refine ⟨hb,?_,?_,?_⟩
 ·rw [Iq h hb]
  rcases (by omega:s=0\/s=1) with e | e<;>subst e
  ·rw [if_neg (by omega)]
  ·rw [if_pos (by omega)]
 ·have:=J1 (b:=s*pw (E+F)+c) h
  rw [e1] at this
  exact this.symm
 ·have:=J0 (b:=s*pw (E+F)+c) h
  rw [e1] at this
  exact this.symm
theorem Ce:wh F (c / pw F) (c%pw F)*pw (po E F (c / pw F) - lo E F)=vl F c:=by
 unfold wh po vl
 split
 ·rename_i g
  rw [Int.sub_self,show pw 0=1 from rfl,Int.mul_one]
  have e:=Int.ediv_mul_add_emod c (pw F)
  rw [g] at e
  omega
 ·rw [show lo E F+c / pw F - 1 - lo E F=c / pw F - 1 by omega]
theorem K2 (c0:0<=c):lo E F<=po E F (c / pw F):=by
 have:=Int.ediv_nonneg c0 (Int.le_of_lt (ai F))
 unfold po
 split<;>omega
theorem GX (h:Sz E F) (hp:lo E F<=p):frT w p*pw (-(lo E F))=w*pw (p - lo E F)*frB p:=by
 have l:=mq h
 unfold frT frB
 split
 ·rw [Int.mul_assoc,<-cm (by omega) (by omega),Int.mul_one,show p + -lo E F=p - lo E F by omega]
 ·rw [Int.mul_assoc,<-cm (by omega) (by omega),show p - lo E F + -p = -lo E F by omega]
end
end EV
namespace EV
inductive Wy where
 | even | away | nought | up | down
noncomputable def Wy.s:Wy->PySem.Str
 | .even=>"even" | .away=>"away" | .nought=>"nought" | .up=>"up" | .down=>"down"
noncomputable def Wy.out:Wy->Int->Bool
 | .up,s=>decide (s=0)
 | .down,s=>decide (s=1)
 | _,_=>false
noncomputable def Wy.brs:Wy->Int->Bool
 | .even,_=>true
 | .away,_=>true
 | w,s=>w.out s
noncomputable def Wy.grw:Wy->Int->Bool->Int->Bool
 | .even,_,odd,r=>decide (r=3)||(decide (r=2)&&odd)
 | .away,_,_,r=>decide (2<=r)
 | w,s,_,_=>w.out s
noncomputable def xG (w:Wy):D:=.ins "Way" [("name",.str w.s)]
noncomputable def Cc:List PySem.Str:=["even","away","nought","up","down"]
noncomputable def Wy.near (w:Wy) (o:Bool) (l:Int) (e:Bool):Bool:=match w with
 | .even=>decide (l<0)||(decide (l=0)&&e)
 | .away=>decide (l<0)
 | _ => !o
noncomputable def Wy.far (w:Wy) (o:Bool) (l:Int) (e:Bool):Bool:=match w with
 | .even=>decide (0<l)||(decide (l=0)&&e)
 | .away=>decide (0<=l)
 | _=>o
noncomputable def stK (w:Wy) (E F s c r:Int):Int:=if pw (E+F) - pw F<=c then (if w.brs s then pw (E+F) - pw F else pw (E+F) - pw F - 1) else if r=0 then c else if w.grw s (decide (c%2=1)) r then c+1 else c
noncomputable def stF (w:Wy) (E F s c r:Int):Int:=if pw (E+F) - pw F<=c then 5 else if r=0 then 0 else if stK w E F s c r=pw (E+F) - pw F then 5 else if c<pw F then 3 else 1
theorem fH {i:Int} (h:0<=i):mh (.int i) (.int 1)=.ok (.int (i%2)):=by
 unfold mh
 simp only
 rw [if_pos ⟨h,by decide⟩]
 congr 2
 rw [show (1:Int).toNat=1 from rfl,Nat.and_one_is_mod]
 omega
theorem ua {x:PySem.Str} {ys:List PySem.Str}:eR (.str x) (.tup (ys.map D.str))=.ok (.bl (decide (x∉ys))):=by
 have h1:∀ ys:List PySem.Str,(ys.map D.str).all D.sc=true:=fun ys=>by induction ys with
  | nil=>rfl
  | cons a l ih=>simp only [List.map_cons,List.all_cons,ih,D.sc,Bool.and_self]
 have h2:∀ ys:List PySem.Str,((ys.map D.str).any fun y=>D.beq y (.str x))=decide (x∈ys):=fun ys=>by induction ys with
  | nil=>rfl
  | cons a l ih =>
   simp only [List.map_cons,List.any_cons,ih,D.beq]
   by_cases h:a=x
   ·subst h;simp
   ·have:¬ x=a:=fun z=>h z.symm
    simp [h,this]
 unfold eR oIn isIn
 simp only [D.sc,h1,Bool.and_self,if_true,h2,R.bind]
 by_cases h:x∈ys<;>simp [h]
theorem GD {w:Wy} {s c r l:Int} (h:(r=1/\l<0)\/(r=2/\l=0)\/(r=3/\0<l)) (g:w.grw s (decide (c%2=1)) r=false):w.near (w.out s) l (decide (c%2=0))=true:=by
 cases w<;>simp [Wy.near,Wy.grw,Wy.out] at g ⊢<;>first | exact g | omega
theorem JP {w:Wy} {s c r l:Int} (h:(r=1/\l<0)\/(r=2/\l=0)\/(r=3/\0<l)) (g:w.grw s (decide (c%2=1)) r=true):w.far (w.out s) l (decide ((c+1)%2=0))=true:=by
 cases w<;>simp [Wy.far,Wy.grw,Wy.out] at g ⊢<;>first | exact g | omega
section
variable {E F s T T' n k c c' r r':Int} {w:Wy}
theorem Ij (g:c<pw (E+F) - pw F):stK w E F s c r=if r=0 then c else if w.grw s (decide (c%2=1)) r then c+1 else c:=by
 unfold stK
 rw [if_neg (by omega)]
theorem Ik (g:pw (E+F) - pw F<=c):stK w E F s c r=if w.brs s then pw (E+F) - pw F else pw (E+F) - pw F - 1:=by
 unfold stK
 rw [if_pos g]
end
def At (F T n c r:Int):Prop:=0<=c/\vl F c*n<=T/\T<vl F (c+1)*n/\yz F T n c r
section
variable {E F s T T' n n' k c c' r r' b W P:Int} {w:Wy}
theorem lB (h:Sz E F) (c0:0<=c) (c1:c<pw (E+F)):c / pw F=pw E - 1↔pw (E+F) - pw F<=c:=by
 have hQ:=ai F
 have eM:=end_is h
 constructor
 ·intro z
  have:=Int.ediv_mul_le c (show pw F≠0 by omega)
  rw [z,eM] at this
  exact this
 ·intro z
  have a:=Int.le_ediv_of_mul_le (a:=pw E - 1) (b:=c) hQ (by rw [eM];exact z)
  have b:=(Fq h c0 c1).1
  omega
theorem gW (h:Sz E F) (c0:0<=c) (c1:c<pw (E+F)) :
  (pw (E+F) - pw F<c->kindS E (c / pw F) (c%pw F)=PySem.Str.ofString "none")/\(c=pw (E+F) - pw F->kindS E (c / pw F) (c%pw F)=PySem.Str.ofString "endless")/\(c=0->kindS E (c / pw F) (c%pw F)=PySem.Str.ofString "nought") /\
  (0<c->c<pw (E+F) - pw F->kindS E (c / pw F) (c%pw F)=PySem.Str.ofString "faint"\/kindS E (c / pw F) (c%pw F)=PySem.Str.ofString "plain"):=by
 have hQ:=ai F
 have h5:=bE h
 have eM:=end_is h
 have hE:=gQ h.1
 have l:=lB h c0 c1
 have e:=Int.ediv_mul_add_emod c (pw F)
 have r0:=Int.emod_nonneg c (show pw F≠0 by omega)
 unfold kindS
 refine ⟨fun q => ?_,fun q => ?_,fun q => ?_,fun q q2 => ?_⟩
 ·have f:=l.mpr (by omega)
  rw [f,eM] at e
  rw [f,if_neg (by omega),if_pos rfl,if_neg (by omega)]
 ·have f:=l.mpr (by omega)
  rw [f,eM] at e
  rw [f,if_neg (by omega),if_pos rfl,if_pos (by omega)]
 ·rw [q,Int.zero_ediv,Int.zero_emod,if_pos rfl,if_pos rfl]
 ·have f:¬ c / pw F=pw E - 1:=fun z=>by have:=l.mp z;omega
  by_cases g:c / pw F=0
  ·rw [g] at e
   rw [if_pos g,if_neg (by omega)]
   exact .inl rfl
  ·rw [if_neg g,if_neg f]
   exact .inr rfl
theorem GY (h:Sz E F) (c0:0<=c) (c1:c<pw (E+F) - pw F) :
  0<=frT (wh F (c / pw F) (c%pw F)) (po E F (c / pw F))/\0<frB (po E F (c / pw F))/\nb (frT (wh F (c / pw F) (c%pw F)) (po E F (c / pw F)))<=200000/\nb (frB (po E F (c / pw F)))<=200000:=by
 have hQ:=ai F
 have hb:=(fL (s:=0) (c:=c) h (by decide) c0 (by omega))
 have nw:=HE h hb.1
 have np:=IQ h hb.1
 rw [hb.2.2.1,hb.2.2.2] at nw
 rw [hb.2.2.1] at np
 have w0:0<=wh F (c / pw F) (c%pw F):=by
  have:=Int.emod_nonneg c (show pw F≠0 by omega)
  unfold wh
  split<;>omega
 generalize wh F (c / pw F) (c%pw F)=W at *
 generalize po E F (c / pw F)=P at *
 refine ⟨?_,?_,?_,?_⟩
 ·unfold frT;split
  ·exact Int.mul_nonneg w0 (Int.le_of_lt (ai _))
  ·exact w0
 ·unfold frB;split
  ·decide
  ·exact ai _
 ·unfold frT;split
  ·have:=eV nw (kR (k:=P) (c:=100000) (by omega));omega
  ·omega
 ·unfold frB;split
  ·decide
  ·exact Nat.le_trans (kR (c:=100000) (by omega)) (by decide)
end
section
variable {E F E2 F2 c:Int}
theorem HF {E F:Int} (h:Sz E F):vl F (pw (E+F) - pw F)=pw (pw (E - 1) + -(lo E F)):=by
 obtain ⟨h1,h2,h3,h4⟩:=id h
 have hQ:=ai F
 have hE:=gQ h1
 have e2:pw E=2*pw (E - 1):=by
  have:=cj (a:=E - 1) (by omega)
  rw [show E - 1+1=E by omega] at this
  exact this
 unfold vl
 rw [<- end_is h,Int.mul_ediv_cancel _ (by omega),Int.mul_emod_left,if_neg (by omega),Int.add_zero,<-cm (by omega) (by omega)]
 congr 1
 unfold lo
 omega
end
section
variable {E F s t n c T Z:Int} {w:Wy}
end
section
variable {E F P S A B G X t n r c:Int}
end
section
variable {E F s c r:Int}
end
end EV
namespace EV
end EV
namespace EV
def Wn (M1 M2:Int) (ev:Prop) (X:Int):Prop:=(M1<X/\X<M2)\/((X=M1\/X=M2)/\ev)
structure Sh (U:Int->Int) (q V M1 M2:Int):Prop where
 up:∀ p,-q<=p->U (p+1)=10*U p
 pos:∀ p,-q<=p->0<U p
 m0:0<M1
 m1:M1<2*V
 m2:2*V<M2
def GF (U:Int->Int) (V p:Int):Prop:=2*(V%U p)>U p\/(2*(V%U p)=U p/\V / U p%2=1)
structure Got (U:Int->Int) (q V M1 M2:Int) (ev:Prop) (g p0 f0:Int):Prop where
 lt:V<U g
 ge:U (g - 1)<=V
 lo : -q<=p0
 hi:p0<=g - 1
 fig:f0=V / U p0\/f0=V / U p0+1
 rd:Wn M1 M2 ev (2*(f0*U p0))
 none:∀ p,p0<p->p<=g - 1->¬ Wn M1 M2 ev (2*(V / U p*U p))/\¬ Wn M1 M2 ev (2*((V / U p+1)*U p))
 one:f0=V / U p0->GF U V p0->¬ Wn M1 M2 ev (2*((V / U p0+1)*U p0))
 two:f0=V / U p0+1->¬ GF U V p0->¬ Wn M1 M2 ev (2*(V / U p0*U p0))
section
variable {U:Int->Int} {q V M1 M2:Int} {ev:Prop}
theorem Sh.add (S:Sh U q V M1 M2) {p:Int} (h : -q<=p):∀ k:Nat,U (p+k)=10^k*U p
 | 0=>by simp
 | k+1=>by
  rw [show p+((k+1:Nat):Int)=p+k+1 by omega,S.up (p+k) (by omega),S.add h k,Int.pow_succ]
  simp only [Int.mul_assoc,Int.mul_comm,Int.mul_left_comm]
theorem L9 (k:Nat):(1:Int)<=10^k:=by
 have:(0:Int)<10^k:=Int.pow_pos (by decide)
 omega
theorem Sh.mono (S:Sh U q V M1 M2) {p p':Int} (h : -q<=p) (h2:p<=p'):U p<=U p':=by
 have e:=S.add h (p' - p).toNat
 rw [show p+((p' - p).toNat:Int)=p' by omega] at e
 have a:=L9 (p' - p).toNat
 have:=S.pos p h
 rw [e]
 have:=Int.mul_le_mul_of_nonneg_right a (Int.le_of_lt this)
 omega
theorem Sh.lt (S:Sh U q V M1 M2) {p p':Int} (h : -q<=p) (h2:p<p'):U p<U p':=by
 have a:=S.mono (p:=p+1) (p':=p') (by omega) (by omega)
 have b:=S.up p h
 have:=S.pos p h
 omega
theorem pos_l {a b:Int} (h:0<a*b) (hb:0<b):0<a:=by
 refine Classical.byContradiction fun z => ?_
 have:=Int.mul_le_mul_of_nonneg_right (show a<=0 by omega) (Int.le_of_lt hb)
 omega
theorem fl (u V:Int) (hu:0<u):V / u*u<=V/\V<(V / u+1)*u/\V%u=V - V / u*u:=by
 have h1:=Int.emod_add_mul_ediv V u
 have h2:=Int.emod_nonneg V (show u≠0 by omega)
 have h3:=Int.emod_lt_of_pos V hu
 rw [Int.mul_comm u] at h1
 rw [Int.add_mul]
 omega
theorem G0 {u V l:Int} (hu:0<u) (h1:l*u<=V) (h2:V<(l+1)*u):V / u=l:=by
 have a:l<=V / u:=(Int.le_ediv_iff_mul_le hu).mpr h1
 have b:V / u<l+1:=Int.ediv_lt_of_lt_mul hu h2
 omega
variable {g p0 f0 f p:Int} {k:Nat}
theorem Got.below (S:Sh U q V M1 M2) (G:Got U q V M1 M2 ev g p0 f0):f0*U p0<=U g:=by
 have hu:=S.pos p0 G.lo
 have e:=S.add G.lo (g - p0).toNat
 have hi:=G.hi
 rw [show p0+((g - p0).toNat:Int)=g by omega] at e
 obtain ⟨a,b,_⟩:=fl (U p0) V hu
 have l:=G.lt
 have c:V / U p0<10^(g - p0).toNat:=Int.ediv_lt_of_lt_mul hu (by rw [<- e];exact l)
 have d:f0<=10^(g - p0).toNat:=by rcases G.fig with z | z<;>omega
 rw [e]
 exact Int.mul_le_mul_of_nonneg_right d (Int.le_of_lt hu)
theorem Got.pos (S:Sh U q V M1 M2) (G:Got U q V M1 M2 ev g p0 f0):0<f0:=by
 have hu:=S.pos p0 G.lo
 have m0:=S.m0
 have m1:=S.m1
 have m2:=S.m2
 have:0<f0*U p0:=by
  rcases G.rd with z | z<;>omega
 exact pos_l this hu
theorem Got.bare (S:Sh U q V M1 M2) (G:Got U q V M1 M2 ev g p0 f0) (ef:f0=f*10^k) (ep:p=p0+k) (h10:f%10≠0) :
  f*U p=f0*U p0/\0<f/\((k=0/\f=f0/\p=p0)\/(k≠0/\f=1/\p=g/\f0=V / U p0+1)):=by
 have hu:=S.pos p0 G.lo
 have e:=S.add G.lo k
 rw [<- ep] at e
 have eU:f*U p=f0*U p0:=by rw [e,ef,Int.mul_assoc]
 have t1:=L9 k
 have f1:0<f:=by
  have:=G.pos S
  rw [ef] at this
  exact pos_l this (by omega)
 refine ⟨eU,f1,?_⟩
 by_cases hk:k=0
 ·subst hk
  exact .inl ⟨rfl,by rw [ef];simp,by omega⟩
 ·have hup:0<U p:=S.pos p (by have:=G.lo;omega)
  have lo:=G.lo
  have hi:=G.hi
  obtain ⟨a,b,_⟩:=fl (U p0) V hu
  have not:¬ p<=g - 1:=fun z=>by
   obtain ⟨n1,n2⟩:=G.none p (by omega) z
   have rd:=G.rd
   rw [<- eU] at rd
   rcases G.fig with y | y
   ·have x:V / U p=f:=G0 hup (by rw [eU,y];exact a) (by
     rw [Int.add_mul,eU,Int.one_mul]
     have:U p0<=U p:=S.mono lo (by omega)
     rw [Int.add_mul,Int.one_mul,<-y] at b
     omega)
    rw [x] at n1
    exact n1 rd
   ·have x:V / U p=f - 1:=G0 hup (by
     rw [Int.sub_mul,eU,Int.one_mul]
     have:U p0<=U p:=S.mono lo (by omega)
     have z:f0*U p0 - U p0=V / U p0*U p0:=by rw [y,Int.add_mul,Int.one_mul];omega
     omega) (by
     rw [show f - 1+1=f by omega,eU,y];exact b)
    rw [x,show f - 1+1=f by omega] at n2
    exact n2 rd
  have le:=G.below S
  have pg:p=g:=by
   refine Classical.byContradiction fun z => ?_
   have:=S.lt (p:=g) (p':=p) (by omega) (by omega)
   have:=Int.mul_le_mul_of_nonneg_right (show 1<=f by omega) (Int.le_of_lt hup)
   omega
  have fe:f=1:=by
   refine Classical.byContradiction fun z => ?_
   have:=Int.mul_le_mul_of_nonneg_right (show 2<=f by omega) (Int.le_of_lt hup)
   rw [pg] at this eU hup
   omega
  refine .inr ⟨hk,fe,pg,?_⟩
  rcases G.fig with y | y
  ·exfalso
   have lt:=G.lt
   rw [fe,pg,Int.one_mul] at eU
   rw [y] at eU
   omega
  ·exact y
theorem Got.longer (S:Sh U q V M1 M2) (G:Got U q V M1 M2 ev g p0 f0) (ef:f0=f*10^k) (ep:p=p0+k) (h10:f%10≠0) (h9:9<f) :
  ¬ Wn M1 M2 ev (2*(V / (10*U p)*(10*U p)))/\¬ Wn M1 M2 ev (2*((V / (10*U p)+1)*(10*U p))):=by
 have lo:=G.lo
 have hi:=G.hi
 obtain ⟨eU,f1,⟨_,e1,e2⟩ | ⟨_,e1,_,_⟩⟩:=G.bare S ef ep h10
 ·rw [e2,<-S.up p0 lo]
  by_cases z:p0+1<=g - 1
  ·exact G.none (p0+1) (by omega) z
  ·exfalso
   have le:=G.below S
   have e:=S.up p0 lo
   rw [show p0+1=g by omega] at e
   have hu:=S.pos p0 lo
   have:=Int.mul_le_mul_of_nonneg_right (show 11<=f0 by omega) (Int.le_of_lt hu)
   omega
 ·omega
theorem PB {V w u:Int} (a:w<=V) (b:V<w+u):((w+u - V).natAbs:Int)=w+u - V/\((w - V).natAbs:Int)=V - w:=⟨Int.natAbs_of_nonneg (by omega),by omega⟩
theorem Jt {V w u l:Int} {P:Prop} (a:w<=V) (b:V<w+u) (hn:(w+u - V).natAbs<(w - V).natAbs\/((w+u - V).natAbs=(w - V).natAbs/\P/\l%2=1)):2*(V - w)>u\/(2*(V - w)=u/\l%2=1):=by
 obtain ⟨e1,e2⟩:=PB a b
 rcases hn with z | ⟨z1,_,z3⟩
 ·exact .inl (by omega)
 ·exact .inr ⟨by clear z3;omega,z3⟩
theorem Js {V w u l:Int} {P:Prop} (a:w<=V) (b:V<w+u) (hn:(w - V).natAbs<(w+u - V).natAbs\/((w - V).natAbs=(w+u - V).natAbs/\P/\(l+1)%2=1)):¬ (2*(V - w)>u\/(2*(V - w)=u/\l%2=1)):=by
 obtain ⟨e1,e2⟩:=PB a b
 rintro (y | ⟨y1,y2⟩)<;>rcases hn with z | ⟨z1,_,z3⟩
 ·omega
 ·clear z3;omega
 ·clear y2;omega
 ·clear y1 e1 e2 z1 a b;omega
theorem GA {x y:Nat} {a b:Int} {P:Prop} (h:x<y\/(x=y/\a≠b/\P)) (e:x=y) (f:a=b):False:=by
 rcases h with z | ⟨_,z,_⟩
 ·omega
 ·exact z f
theorem Got.near (S:Sh U q V M1 M2) (G:Got U q V M1 M2 ev g p0 f0) (ef:f0=f*10^k) (ep:p=p0+k) (h10:f%10≠0) {o:Int} (ho:o=V / U p*U p\/o=(V / U p+1)*U p)
  (hn:(o - V).natAbs<(f*U p - V).natAbs\/((o - V).natAbs=(f*U p - V).natAbs/\o≠f*U p/\f%2=1)):¬ Wn M1 M2 ev (2*o):=by
 have lo:=G.lo
 have hi:=G.hi
 obtain ⟨eU,f1,⟨_,e1,e2⟩ | ⟨_,e1,e2,e3⟩⟩:=G.bare S ef ep h10
 ·rw [e2] at ho hn
  rw [e1] at hn
  have hu:=S.pos p0 lo
  obtain ⟨a,b,c⟩:=fl (U p0) V hu
  have one:=G.one
  have two:=G.two
  unfold GF at one two
  rw [c] at one two
  rcases G.fig with y | y
  ·rcases ho with z | z
   ·exact absurd hn (fun q=>GA q (by rw [z,y]) (by rw [z,y]))
   ·rw [z]
    refine one y ?_
    rw [z,y] at hn
    rw [Int.add_mul,Int.one_mul] at hn b
    exact Jt a b hn
  ·rcases ho with z | z
   ·rw [z]
    refine two y ?_
    rw [z,y] at hn
    rw [Int.add_mul,Int.one_mul] at hn b
    exact Js a b hn
   ·exact absurd hn (fun q=>GA q (by rw [z,y]) (by rw [z,y]))
 ·have lt:=G.lt
  have hug:0<U g:=S.pos g (by omega)
  have v0:0<V:=by have:=S.m0;have:=S.m1;omega
  have l0:V / U g=0:=G0 hug (by omega) (by omega)
  rw [e2,l0] at ho
  rw [e1,e2,Int.one_mul] at hn
  rcases ho with z | z
  ·rw [z]
   intro w
   have m0:=S.m0
   have:=S.m1
   have:=S.m2
   clear hn lt hug v0 l0 e3 e2 e1 f1 eU hi lo h10 ep ef G z
   rw [Int.zero_mul] at w
   rcases w with ⟨w,_⟩ | ⟨w | w,_⟩<;>omega
  ·rw [Int.zero_add,Int.one_mul] at z
   exact absurd hn (fun q=>GA q (by rw [z]) z)
theorem Got.nine (S:Sh U q V M1 M2) (G:Got U q V M1 M2 ev g p0 f0) (ef:f0=f*10^k) (ep:p=p0+k) (h10:f%10≠0) (h1:f=1) (hw:Wn (10*M1) (10*M2) ev (2*(9*U p))) :
  10*(U p - V).natAbs<=(9*U p - 10*V).natAbs:=by
 have lo:=G.lo
 have hi:=G.hi
 obtain ⟨eU,f1,⟨_,e1,e2⟩ | ⟨hk,e1,e2,e3⟩⟩:=G.bare S ef ep h10
 ·have ge:=G.ge
  have:=S.mono (p:=p0) (p':=g - 1) lo hi
  have:=S.pos p0 lo
  rw [e2]
  omega
 ·have lt:=G.lt
  have m1:=S.m1
  have m2:=S.m2
  have hu:=S.pos (g - 1) (by omega)
  have e:=S.up (g - 1) (by omega)
  rw [show g - 1+1=g by omega] at e
  rw [e2] at hw ⊢
  have rd:=G.rd
  rw [<- eU,e1,e2,Int.one_mul,e] at rd
  rw [e] at hw lt ⊢
  obtain ⟨a,b,c⟩:=fl (U (g - 1)) V hu
  have l9:V / U (g - 1)<=9:=by
   have:V / U (g - 1)<10:=Int.ediv_lt_of_lt_mul hu lt
   omega
  by_cases z:p0=g - 1
  ·have two:=G.two e3
   unfold GF at two
   rw [z] at two
   have e4:f0=10:=by
    have k1:k=1:=by omega
    rw [ef,e1,k1];rfl
   rw [z] at e3
   have l:V / U (g - 1)=9:=by omega
   rw [c,l] at two
   have:¬ ¬ (2*(V - 9*U (g - 1))>U (g - 1)\/2*(V - 9*U (g - 1))=U (g - 1)/\(9:Int)%2=1):=fun y=>two y (by
    rcases hw with ⟨h1,h2⟩ | ⟨h1 | h1,h2⟩
    ·exact .inl ⟨by omega,by omega⟩
    ·exact .inr ⟨.inl (by omega),h2⟩
    ·exact .inr ⟨.inr (by omega),h2⟩)
   have:=Classical.not_not.mp this
   omega
  ·obtain ⟨n1,n2⟩:=G.none (g - 1) (by omega) (by omega)
   exfalso
   refine n2 ?_
   unfold Wn at rd ⊢
   by_cases l:V / U (g - 1)=9
   ·rw [l]
    rw [show (9+1:Int)*U (g - 1)=10*U (g - 1) by omega]
    exact rd
   ·have h8:=Int.mul_le_mul_of_nonneg_right (show V / U (g - 1)+1<=9 by omega) (Int.le_of_lt hu)
    generalize (V / U (g - 1)+1)*U (g - 1)=w at *
    omega
end
end EV
namespace EV
theorem J3:(2:Nat)^100000<=10^30103:=by decide +kernel
theorem J4:(10:Nat)^30103<=2^100000*2:=by decide +kernel
theorem Ab {a b n:Nat} (hn:n≠0) (h:a^n<=b^n):a<=b:=by
 exact (Nat.pow_le_pow_iff_left hn).mp h
theorem CY {h G:Nat} (hh:h<=100000) (hG:100000*(G+1)<=30103*h):10^G*2<=2^h:=by
 obtain ⟨N,hN⟩:∃ N:Nat,N=100000:=⟨_,rfl⟩
 obtain ⟨M,hM⟩:∃ M:Nat,M=30103:=⟨_,rfl⟩
 have a:=J4
 rw [<- hN,<-hM] at a hG
 rw [<- hN] at hh
 have n0:N≠0:=by omega
 have e1:(10^(G+1))^N<=(2^h*5)^N:=by
  rw [<- Nat.pow_mul,Nat.mul_pow,<-Nat.pow_mul]
  calc 10^((G+1)*N)<=10^(M*h):=Nat.pow_le_pow_right (by decide) (by rw [Nat.mul_comm];exact hG)
   _=(10^M)^h:=Nat.pow_mul _ _ _
   _<=(2^N*2)^h:=Nat.pow_le_pow_left a h
   _=2^(h*N)*2^h:=by rw [Nat.mul_pow,<-Nat.pow_mul,Nat.mul_comm N h]
   _<=2^(h*N)*5^N:=Nat.mul_le_mul_left _ (Nat.le_trans (Nat.pow_le_pow_left (by decide) h) (Nat.pow_le_pow_right (by decide) hh))
 have e2:=Ab n0 e1
 rw [Nat.pow_succ] at e2
 omega
theorem C0 {h G:Nat} (hG:30103*h<=100000*G):2^h<=10^G:=by
 obtain ⟨N,hN⟩:∃ N:Nat,N=100000:=⟨_,rfl⟩
 obtain ⟨M,hM⟩:∃ M:Nat,M=30103:=⟨_,rfl⟩
 have a:=J3
 rw [<- hN,<-hM] at a hG
 refine Ab (n:=N) (by omega) ?_
 calc (2^h)^N=(2^N)^h:=by rw [<- Nat.pow_mul,<-Nat.pow_mul,Nat.mul_comm]
  _<=(10^M)^h:=Nat.pow_le_pow_left a h
  _=10^(M*h):=(Nat.pow_mul _ _ _).symm
  _<=10^(N*G):=Nat.pow_le_pow_right (by decide) hG
  _=(10^G)^N:=by rw [<- Nat.pow_mul,Nat.mul_comm]
def JJ (F T n d:Int):Prop:=((vl F d+vl F (d+1))*n<=2*T/\2*T=(vl F d+vl F (d+1))*n/\d%2=0)\/(2*T<(vl F d+vl F (d+1))*n/\(d=0\/(vl F (d - 1)+vl F d)*n<2*T\/(2*T=(vl F (d - 1)+vl F d)*n/\d%2=0)))
theorem wD {s c r:Int}:Wy.even.grw s (decide (c%2=1)) r=true↔r=3\/(r=2/\c%2=1):=by
 unfold Wy.grw
 simp
theorem Il {E F s c r:Int} (hr:r=0\/r=1\/r=2\/r=3):(pw (E+F) - pw F<=c/\stK .even E F s c r=pw (E+F) - pw F)\/(c<pw (E+F) - pw F/\(((r=0\/r=1)/\stK .even E F s c r=c)\/(r=2/\stK .even E F s c r=c+c%2)\/(r=3/\stK .even E F s c r=c+1))):=by
 by_cases g:pw (E+F) - pw F<=c
 ·exact .inl ⟨g,by rw [Ik g];rfl⟩
 ·refine .inr ⟨by omega,?_⟩
  rw [Ij (by omega)]
  clear g
  by_cases g3:r=3\/(r=2/\c%2=1)
  ·rw [if_neg (show ¬ r=0 by omega),if_pos (wD.mpr g3)]
   rcases g3 with z | ⟨z1,z2⟩
   ·exact .inr (.inr ⟨z,rfl⟩)
   ·exact .inr (.inl ⟨z1,by rw [z2]⟩)
  ·rw [if_neg (fun z=>g3 (wD.mp z)),ite_self]
   by_cases z:r=2
   ·exact .inr (.inl ⟨z,by omega⟩)
   ·exact .inl ⟨by omega,rfl⟩
theorem JH {v0 v1 vm vc d T:Int} (l1:v0<v1) (m1:v1<=vc) (h1:vc<=T):¬ ((v0+v1<=2*T/\2*T=v0+v1/\d%2=0)\/(2*T<v0+v1/\(d=0\/vm+v0<2*T\/(2*T=vm+v0/\d%2=0)))):=by
 rintro (⟨_,z,_⟩ | ⟨z,_⟩)<;>omega
theorem JI {v0 v1 vm d T:Int} (l1:v0<v1) (m2:vm<v0) (h2:T<vm) (d0:0<d):¬ ((v0+v1<=2*T/\2*T=v0+v1/\d%2=0)\/(2*T<v0+v1/\(d=0\/vm+v0<2*T\/(2*T=vm+v0/\d%2=0)))):=by
 rintro (⟨_,z,_⟩ | ⟨_,z | z | ⟨z,_⟩⟩)
 ·omega
 ·exact absurd z (Int.ne_of_gt d0)
 ·omega
 ·omega
theorem A4 {E F T n c r s d:Int} (hn:0<n) (a:At F T n c r) (d0:0<=d) (d1:d<pw (E+F) - pw F):stK .even E F s c r=d↔JJ F T n d:=by
 obtain ⟨c0,h1,h2,h3⟩:=a
 have L:∀ x y:Int,0<=x->x<y->vl F x*n<vl F y*n:=fun x y h0 h=>fB hn h0 h
 have M:∀ x y:Int,0<=x->x<=y->vl F x*n<=vl F y*n:=fun x y h0 h=>by
  rcases Int.lt_or_eq_of_le h with z | z
  ·exact Int.le_of_lt (L x y h0 z)
  ·rw [z];exact Int.le_refl _
 unfold yz at h3
 have hk:=Il (E:=E) (F:=F) (s:=s) (c:=c) (r:=r) (by
  rcases h3 with ⟨z,_⟩ | ⟨_,⟨z,_⟩ | ⟨z,_⟩ | ⟨z,_⟩⟩
  ·exact .inl z
  ·exact .inr (.inl z)
  ·exact .inr (.inr (.inl z))
  ·exact .inr (.inr (.inr z)))
 generalize stK .even E F s c r=k at *
 generalize pw (E+F) - pw F=Q at *
 unfold JJ
 rw [Int.add_mul,Int.add_mul]
 have l1:=L d (d+1) d0 (by omega)
 rcases Int.lt_trichotomy d c with g | g | g
 ·have nk:k≠d:=by clear h1 h2 h3 l1 c0 hn d0;omega
  exact ⟨fun z=>absurd z nk,fun z=>absurd z (JH l1 (M (d+1) c (by omega) g) h1)⟩
 ·subst g
  have m2:d=0\/vl F (d - 1)*n<vl F d*n:=by
   by_cases z:d=0
   ·exact .inl z
   ·exact .inr (L (d - 1) d (by omega) (by omega))
  clear L M c0 hn d0
  generalize vl F d*n=v0 at *
  generalize vl F (d+1)*n=v1 at *
  generalize vl F (d - 1)*n=vm at *
  rcases h3 with ⟨y,x⟩ | ⟨w,⟨y,x⟩ | ⟨y,x⟩ | ⟨y,x⟩⟩
  ·have:k=d:=by clear h1 h2 x m2 l1;omega
   refine ⟨fun _=>.inr ⟨by clear hk m2;omega,?_⟩,fun _=>this⟩
   rcases m2 with z | z
   ·exact .inl z
   ·exact .inr (.inl (by clear hk;omega))
  ·have:k=d:=by clear h1 h2 x m2 l1 w;omega
   refine ⟨fun _=>.inr ⟨by clear hk m2;omega,?_⟩,fun _=>this⟩
   rcases m2 with z | z
   ·exact .inl z
   ·exact .inr (.inl (by clear hk;omega))
  ·have:k=d+d%2:=by clear h1 h2 x m2 l1 w;omega
   clear hk m2 h1 h2 l1 w y d1
   constructor
   ·intro z
    exact .inl ⟨by clear this z;omega,by clear this z;omega,by clear x;omega⟩
   ·rintro (⟨_,_,z⟩ | ⟨z,_⟩)
    ·clear x;omega
    ·clear this;omega
  ·have:k=d+1:=by clear h1 h2 x m2 l1 w;omega
   clear hk m2 h1 h2 l1 w y d1
   constructor
   ·intro z
    omega
   ·rintro (⟨_,z,_⟩ | ⟨z,_⟩)
    ·clear this;omega
    ·clear this;omega
 ·rcases Int.lt_or_eq_of_le (show c+1<=d by omega) with q | q
  ·have nk:k≠d:=by clear h1 h2 h3 l1 c0 hn d0 g;omega
   have m2:=L (d - 1) d (by omega) (by omega)
   exact ⟨fun z=>absurd z nk,fun z=>absurd z (JI l1 m2 (Int.lt_of_lt_of_le h2 (M (c+1) (d - 1) (by omega) (by omega))) (by omega))⟩
  ·subst q
   rw [show c+1 - 1=c by omega]
   have d9:¬ c+1=0:=by omega
   clear L M c0 hn d0 g
   generalize vl F c*n=vc at *
   generalize vl F (c+1)*n=vd at *
   generalize vl F (c+1+1)*n=v1 at *
   rcases h3 with ⟨y,x⟩ | ⟨w,⟨y,x⟩ | ⟨y,x⟩ | ⟨y,x⟩⟩
   ·have:k=c:=by clear h1 h2 x l1;omega
    clear hk d1 y
    refine ⟨fun z=>by omega,?_⟩
    rintro (⟨_,z,_⟩ | ⟨_,z | z | ⟨z,_⟩⟩)
    ·clear this;omega
    ·exact absurd z d9
    ·clear this;omega
    ·clear this;omega
   ·have:k=c:=by clear h1 h2 x l1 w;omega
    clear hk d1 y
    refine ⟨fun z=>by omega,?_⟩
    rintro (⟨_,z,_⟩ | ⟨_,z | z | ⟨z,_⟩⟩)
    ·clear this;omega
    ·exact absurd z d9
    ·clear this;omega
    ·clear this;omega
   ·have:k=c+c%2:=by clear h1 h2 x l1 w;omega
    clear hk d1 y
    constructor
    ·intro z
     exact .inr ⟨by clear this z;omega,.inr (.inr ⟨by clear this z;omega,by clear x h1 h2 l1 w;omega⟩)⟩
    ·rintro (⟨_,z,_⟩ | ⟨_,z | z | ⟨_,z⟩⟩)
     ·clear this;omega
     ·exact absurd z d9
     ·clear this;omega
     ·clear x h1 h2 l1 w;omega
   ·have:k=c+1:=by clear h1 h2 x l1 w;omega
    clear hk d1 y
    exact ⟨fun _=>.inr ⟨by clear this;omega,.inr (.inl (by clear this;omega))⟩,fun _=>this⟩
noncomputable def uT (E F p:Int):Int:=pw (-(lo E F))*10^(p+9000).toNat
noncomputable def vT (F d:Int):Int:=vl F d*10^9000
noncomputable def aT (F d:Int):Int:=(vl F (d - 1)+vl F d)*10^9000
noncomputable def bT (F d:Int):Int:=(vl F d+vl F (d+1))*10^9000
theorem p9:(0:Int)<10^9000:=Int.pow_pos (by decide)
theorem zQ {E F d:Int} (d0:0<d):Sh (uT E F) 9000 (vT F d) (aT F d) (bT F d):=by
 have v1:=kN (F:=F) (c:=d - 1) (c':=d) (by omega) (by omega)
 have v2:=kN (F:=F) (c:=d) (c':=d+1) (by omega) (by omega)
 have v0:=(qx (F:=F) (c:=d - 1) (by omega)).1
 have hp:=p9
 unfold vT aT bT uT
 generalize (10:Int)^9000=z at *
 refine ⟨fun p hp => ?_,fun p hp=>Int.mul_pos (ai _) (Int.pow_pos (by decide)),Int.mul_pos (by omega) hp,?_,?_⟩
 ·rw [show (p+1+9000).toNat=(p+9000).toNat+1 by omega,Int.pow_succ]
  simp only [Int.mul_assoc,Int.mul_comm,Int.mul_left_comm]
 ·rw [<- Int.mul_assoc]
  exact Int.mul_lt_mul_of_pos_right (by omega) hp
 ·rw [<- Int.mul_assoc]
  exact Int.mul_lt_mul_of_pos_right (by omega) hp
theorem wA {F T n c d M1 M2 X:Int} (d0:0<d) (hc:0<c) (e1:(vl F (d - 1)+vl F d)*n*c=M1) (e2:(vl F d+vl F (d+1))*n*c=M2) (e3:2*T*c=X) (hn:0<n) :
  JJ F T n d↔Wn M1 M2 (d%2=0) X:=by
 have v1:=kN (F:=F) (c:=d - 1) (c':=d) (by omega) (by omega)
 have v2:=kN (F:=F) (c:=d) (c':=d+1) (by omega) (by omega)
 have a12:(vl F (d - 1)+vl F d)*n<(vl F d+vl F (d+1))*n:=Int.mul_lt_mul_of_pos_right (by omega) hn
 have L:∀ a b:Int,a*c<b*c↔a<b:=fun a b=>bB hc
 have Q:∀ a b:Int,a*c=b*c↔a=b:=fun a b=>⟨fun h=>Int.eq_of_mul_eq_mul_right (by omega) h,fun h=>by rw [h]⟩
 unfold JJ Wn
 rw [<- e1,<-e2,<-e3,L,L,Q,Q]
 generalize (vl F (d - 1)+vl F d)*n=a at *
 generalize (vl F d+vl F (d+1))*n=b at *
 omega
end EV
namespace T
open EV
theorem He {ns:List Int} {j:Int} (h0:0<=j):cD [.lst (ns.map .int),.int j]=.ok (.int (ns.getD j.toNat 0)):=by
 unfold cD dS
 by_cases h:j<(ns.length:Int)
 ·have e:oIx (.lst (ns.map D.int)) (.int j)=.ok (.int (ns.getD j.toNat 0)):=by
   obtain ⟨k,rfl⟩:=Int.eq_ofNat_of_zero_le h0
   have hk:k<ns.length:=by omega
   refine oA ?_
   simp [List.getElem?_map,List.getElem?_eq_getElem hk,List.getD_eq_getElem?_getD]
  simp_arith [h,e]
 ·simp_arith [h,C3 h0 h]
theorem yq {E F c:Int} (h:Sz E F) (hc:nb c<=2^20):∃ x,cC [.tup [.int E,.int F],.int c]=.ok (.int x)/\0<=x/\x<pw (E+F) - pw F:=by
 obtain ⟨k1,k2,k3,k4⟩:=id h
 have hh:=bE h
 have hQ:=oq k3
 have hE:=gQ k1
 have eM:=end_is h
 have nE:nb (pw E - 1)<=15:=bS (by omega) (by have:=fE h;omega)
 have nF:nb (pw F - 1)<=128:=bS (by omega) (by have:=vt h;omega)
 have n6:=R8 hc (k:=6) (by decide)
 have m1:MulOk (c / 6) 73846150927364518273645509182736455091827:=by walk_at "mul"
 have r0:=fun i:Int=>Int.emod_nonneg i (show pw (E+F) - pw F≠0 by omega)
 have r1:=fun i:Int=>Int.emod_lt_of_pos i (show 0<pw (E+F) - pw F by omega)
 have a0:=Int.emod_nonneg (c / 6) (show pw E - 1≠0 by omega)
 have a1:=Int.emod_lt_of_pos (c / 6) (show 0<pw E - 1 by omega)
 have na:nb (c / 6%(pw E - 1))<=15:=bS a0 (by have:=fE h;omega)
 have m2:MulOk (c / 6 / 7%2) (pw F - 1):=rH (by omega) (by omega) (by omega)
 have sE:=jK (k:=E) (by omega) (by omega)
 have sF:=jK (k:=F) (by omega) (by omega)
 have sM:=ay (i:=pw E - 1) (j:=F) (by omega) (by omega)
 have sA:=ay (i:=c / 6%(pw E - 1)) (j:=F) (by omega) (by omega)
 have pM:0<pw (E+F) - pw F:=by omega
 have big:(c / 6%(pw E - 1))*pw F<=pw (E+F) - pw F - pw F:=by
  have:=Int.mul_le_mul_of_nonneg_right (show c / 6%(pw E - 1)<=(pw E - 1) - 1 by omega) (show 0<=pw F by omega)
  rw [Int.sub_mul (pw E - 1),Int.one_mul,eM] at this
  exact this
 have big0:0<=(c / 6%(pw E - 1))*pw F:=Int.mul_nonneg a0 (by omega)
 have sd:=zP (r:=c / 6 / 7) (h:=pw F - 1) (by omega)
 unfold cC dR
 by_cases g0:c%6=0
 ·exact ⟨c / 6%(pw (E+F) - pw F),by simp_arith [sE,sF,sM,eM,g0,pM],r0 _,r1 _⟩
 by_cases g1:c%6=1
 ·exact ⟨pw (E+F) - pw F - 1 - c / 6%(pw (E+F) - pw F),by simp_arith [sE,sF,sM,eM,g1,pM],by have:=r1 (c / 6);omega,by have:=r0 (c / 6);omega⟩
 by_cases g2:c%6=2
 ·exact ⟨pw F - 2+c / 6%4,by simp_arith [sE,sF,sM,eM,g2,pM],by omega,by omega⟩
 by_cases g3:c%6=3
 ·exact ⟨c / 6%(pw E - 1)*pw F+c / 6 / 7%2*(pw F - 1),by simp_arith [sE,sF,sM,eM,g3,pM,show 0<pw E - 1 by omega,sA,ak m2],by omega,by omega⟩
 ·exact ⟨c / 6*73846150927364518273645509182736455091827%(pw (E+F) - pw F),by simp_arith [sE,sF,sM,eM,g0,g1,g2,g3,pM,ak m1],r0 _,r1 _⟩
theorem lU {E F:Int} (h:Sz E F):cq [.tup [.int E,.int F]]=.ok (.int (pw (E+F))):=by
 obtain ⟨h1,h2,h3,h4⟩:=h
 unfold cq ix
 simp_arith [jK (k:=E+F) (by omega) (by omega)]
theorem Cb {E F:Int}:ma [.tup [.int E,.int F]]=.ok (.int (E+F+1)):=by
 unfold ma pY
 simp_arith []
theorem qN {E F b:Int} (h:Sz E F) (hb:In E F b):fW [.tup [.int E,.int F],.int b]=.ok (.tup [.int (sgn E F b),.int (fld E F b),.int (fig F b)]):=by
 obtain ⟨h1,h2,h3,h4⟩:=id h
 obtain ⟨hb0,hb1⟩:=hb
 have d1:ie b (pw (E+F)):=⟨ai _,.inl (Nat.le_trans (kR (c:=127) (by omega)) (by decide))⟩
 have d2:ie (b%pw (E+F)) (pw F):=⟨ai _,.inl (Nat.le_trans (kR (c:=127) (by omega)) (by decide))⟩
 have e0:b / pw (E+F)=sgn E F b:=by unfold sgn;rw [cm (by omega) (by omega),part0 (ai _) (ai _)]
 have e1:b%pw (E+F) / pw F=fld E F b:=by unfold fld;rw [cm (by omega) (by omega),part1 (ai _) (ai _)]
 have e2:b%pw (E+F)%pw F=fig F b:=by unfold fig;rw [cm (by omega) (by omega),part2]
 unfold fW lG
 simp_arith [Cb,lU h,jK (k:=E+F+1) (by omega) (by omega),jK (k:=F) (by omega) (by omega),show ¬ b<0 by omega,show ¬ pw (E+F+1)<=b by omega,cT d1,cT d2,ai,e0,e1,e2]
theorem gd {E F:Int} (h:Sz E F):aW [.tup [.int E,.int F]]=.ok (.int (pw E - 1)):=by
 obtain ⟨h1,h2,h3,h4⟩:=h
 unfold aW fm
 simp_arith [jK (k:=E) (by omega) (by omega)]
theorem GL {E F b:Int} (h:Sz E F) (hb:In E F b):ou [.tup [.int E,.int F],.int b]=.ok (.str (kindS E (fld E F b) (fig F b))):=by
 unfold ou wG
 simp_arith [qN h hb,gd h]
 unfold kindS
 (repeat' split)<;>first | rfl | contradiction
theorem jH {s w p:Int} (hw:nb w<=1000000) (hp : -1000000<=p/\p<=1000000):bq [.tup [.int s,.int w,.int p]]=.ok (.tup [.int s,.int (frT w p),.int (frB p)]):=by
 unfold bq b7
 by_cases g:0<=p
 ·simp_arith [g,ay (i:=w) (j:=p) g (by omega),frT,frB]
 ·simp_arith [g,jK (k := -p) (by omega) (by omega),frT,frB]
theorem Hh {E F:Int} (h:Sz E F):qP [.tup [.int E,.int F]]=.ok (.int (pw (E - 1) - 1)):=by
 obtain ⟨h1,h2,h3,h4⟩:=h
 unfold qP wH
 simp_arith [jK (k:=E - 1) (by omega) (by omega)]
theorem kf {E F:Int} (h:Sz E F):md [.tup [.int E,.int F]]=.ok (.int (lo E F)):=by
 have e:1 - (pw (E - 1) - 1) - F=lo E F:=by unfold lo;omega
 unfold md C4
 simp_arith [Hh h,e]
theorem uG {E F b:Int} (h:Sz E F) (hb:In E F b) (hf:¬ fld E F b=pw E - 1):iT [.tup [.int E,.int F],.int b]=.ok (.tup [.int (sgn E F b),.int (wh F (fld E F b) (fig F b)),.int (po E F (fld E F b))]):=by
 obtain ⟨h1,h2,h3,h4⟩:=id h
 unfold iT pX
 simp_arith [qN h hb,gd h,kf h,hf,jK (k:=F) (by omega) (by omega)]
 unfold wh po
 by_cases g:fld E F b=0
 ·simp only [if_pos g]
 ·simp only [if_neg g]
theorem mI {E F b:Int} (h:Sz E F) (hb:In E F b) (hf:¬ fld E F b=pw E - 1):cS [.tup [.int E,.int F],.int b]=.ok (.tup [.int (sgn E F b),.int (frT (wh F (fld E F b) (fig F b)) (po E F (fld E F b))),.int (frB (po E F (fld E F b)))]):=by
 have h1:=HE h hb
 have h2:=IQ h hb
 unfold cS iz
 simp_arith [uG h hb hf,jH (s:=sgn E F b) (w:=wh F (fld E F b) (fig F b)) (p:=po E F (fld E F b)) (by omega) (by omega)]
theorem kd (k:Nat):nb ((10:Int)^k)<=4*k+1:=by
 induction k with
 | zero=>decide
 | succ k ih =>
  have e:(10:Int)^(k+1)=10^k*10:=Int.pow_succ _ _
  have:=eV ih (show nb (10:Int)<=4 by decide)
  rw [e]
  omega
theorem oY {n:Int} (h:0<=n):(10:Int)^(n / 2).toNat*10^(n / 2).toNat*(if n%2=1 then 10 else 1)=10^n.toNat:=by
 rw [<- Int.pow_add]
 by_cases g:n%2=1
 ·rw [if_pos g,<-Int.pow_succ]
  congr 1
  omega
 ·rw [if_neg g,Int.mul_one]
  congr 1
  omega
theorem zC:∀ (j:Nat) (n:Int),0<=n->n<pw j->n<=30000->cA (j+1) [.int n]=.ok (.int (10^n.toNat))
 | 0,n,h0,h1,h2=>by
  have:pw ((0:Nat):Int)=1:=rfl
  have e:n=0:=by omega
  subst e
  unfold cA ji
  simp_arith []
  try rfl
 | j+1,n,h0,h1,h2=>by
  have hp:pw ((j+1:Nat):Int)=2*pw (j:Int):=by
   rw [show ((j+1:Nat):Int)=(j:Int)+1 by omega]
   exact cj (by omega)
  have ih:=zC j (n / 2) (by omega) (by omega) (by omega)
  have hh:=oY h0
  have nn:=kd (n / 2).toNat
  unfold cA ji
  generalize cA (j+1)=P at *
  by_cases g:n=0
  ·subst g
   simp_arith []
   try rfl
  ·generalize (10:Int)^(n / 2).toNat=x at *
   have nx:nb x<=60001:=by omega
   have m1:MulOk x x:=by walk_at "mul"
   have nxx:nb (x*x)<=120002:=by walk_at "nbk"
   have m2:MulOk (x*x) 10:=by walk_at "mul"
   by_cases g2:n%2=1
   ·rw [if_pos g2] at hh
    simp_arith [g,ih,fH h0,eq_true g2,ak m1,ak m2,hh]
   ·rw [if_neg g2,Int.mul_one] at hh
    simp_arith [g,ih,fH h0,g2,ak m1,ak m2,hh]
noncomputable def tnT (f p:Int):Int:=if 0<=p then f*10^p.toNat else f
noncomputable def tnB (n p:Int):Int:=if 0<=p then n else n*10^(-p).toNat
theorem lR {p:Int} (h1:p<=20000):nb ((10:Int)^p.toNat)<=80001:=Nat.le_trans (kd p.toNat) (by omega)
theorem aV (k:Nat):(0:Int)<10^k:=Int.pow_pos (by decide)
theorem ig {t n p:Int} (h0 : -20000<=p) (h1:p<=20000) (nt:nb t<=500000) (nn:nb n<=500000):br [.int t,.int n,.int p]=.ok (.tup [.int (tnT t p),.int (tnB n p)]):=by
 have hp:pw ((19:Nat):Int)=524288:=rfl
 unfold br jh
 by_cases g:0<=p
 ·have e:=zC 19 p g (by omega) (by omega)
  have q:=lR h1
  rw [show 19+1=20 from rfl] at e
  generalize cA 20=A at *
  unfold tnT tnB
  rw [if_pos g,if_pos g]
  generalize (10:Int)^p.toNat=x at *
  have m:MulOk t x:=by walk_at "mul"
  simp_arith [g,e,ak m]
 ·have e:=zC 19 (-p) (by omega) (by omega) (by omega)
  have q:=lR (p := -p) (by omega)
  rw [show 19+1=20 from rfl] at e
  generalize cA 20=A at *
  unfold tnT tnB
  rw [if_neg g,if_neg g]
  generalize (10:Int)^(-p).toNat=x at *
  have m:MulOk n x:=by walk_at "mul"
  simp_arith [show ¬ p>=0 from g,e,ak m]
theorem lQ {t n p:Int} (h0 : -20000<=p) (h1:p<=20000) (t0:0<=t) (hn:0<n) (nt:nb t<=500000) (nn:nb n<=500000):0<=tnT t p/\0<tnB n p/\nb (tnT t p)<=1000000/\nb (tnB n p)<=1000000:=by
 unfold tnT tnB
 have a:=lR h1
 have b:=lR (p := -p) (by omega)
 have a0:=aV p.toNat
 have b0:=aV (-p).toNat
 generalize (10:Int)^p.toNat=x at *
 generalize (10:Int)^(-p).toNat=y at *
 by_cases g:0<=p
 ·rw [if_pos g,if_pos g]
  exact ⟨Int.mul_nonneg t0 (Int.le_of_lt a0),hn,by walk_at "nbk",Nat.le_trans nn (by decide)⟩
 ·rw [if_neg g,if_neg g]
  exact ⟨t0,Int.mul_pos hn b0,Nat.le_trans nt (by decide),by walk_at "nbk"⟩
theorem lW {t n p:Int} (h1:nb t<=10000000) (h2:nb n<=10000000) (h3 : -10000000<=p) (h4:p<=10000000):fV [.int t,.int n,.int p]=.ok (.tup [.int (jr p t),.int (gK p n)]):=by
 unfold fV lF jr gK
 by_cases g:0<=p
 ·simp_arith [g,ay (i:=n) (j:=p) g (by omega),aR (p := -p) (by omega),Int.mul_one]
 ·simp_arith [g,ay (i:=t) (j := -p) (by omega) (by omega),aR (p:=p) (by omega),Int.mul_one]
theorem rO {t n:Int} (h1:nb t<=1000000) (h2:nb n<=1000000):fX [.int t,.int n]=.ok (.int (hgt t n)):=by
 have e:(jr ((nb t:Int) - nb n) t<gK ((nb t:Int) - nb n) n)=Lt t n ((nb t:Int) - nb n):=rfl
 unfold fX lH hgt
 by_cases g:Lt t n ((nb t:Int) - nb n)
 ·simp_arith [lW (t:=t) (n:=n) (p:=(nb t:Int) - nb n) (by omega) (by omega) (by omega) (by omega),e,g]
 ·simp_arith [lW (t:=t) (n:=n) (p:=(nb t:Int) - nb n) (by omega) (by omega) (by omega) (by omega),e,g]
theorem gm (w:Wy):dO [.str w.s]=.ok (xG w):=by
 have h:eR (.str w.s) (.tup [.str "even",.str "away",.str "nought",.str "up",.str "down"])=.ok (.bl false):=by
  show eR (.str w.s) (.tup (Cc.map D.str))=_
  rw [ua]
  cases w<;>rfl
 unfold dO lD
 simp_arith [h]
 rfl
theorem wV {t n:Int} (ht:0<=t) (hn:0<n):bu [.int t,.int n]=.ok .non:=by
 unfold bu b9
 simp_arith [show ¬ t<0 by omega,show ¬ n<1 by omega]
theorem tW {o a m:Int}:bt [.int o,.int a,.int m]=.ok (.int (if o=0 then 0 else if a<m then 1 else if a=m then 2 else 3)):=by
 unfold bt b8
 simp_arith []
theorem rest_of_ok {o s:Int} (h:nb o<=100000000):gS [.int o,.int s]=.ok (.int (rst o s)):=by
 have m:MulOk 2 o:=by walk_at "mul"
 unfold gS jk
 simp_arith [ak m,tW]
 rfl
theorem Df {E F n:Int} (h:Sz E F) (hn:0<n):t7 [.tup [.int E,.int F],.int 0,.int n]=.ok (.tup [.int 0,.int (lo E F),.int 0]):=by
 unfold t7 Bd
 simp_arith [wV (Int.le_refl 0) hn,kf h]
theorem JZ {E F t n:Int} (h:Sz E F) (ht:0<t) (hn:0<n) (h1:nb t<=1000000) (h2:nb n<=1000000) :
  t7 [.tup [.int E,.int F],.int t,.int n]=.ok (.tup [.int (jr (bR E F t n) t / gK (bR E F t n) n),.int (bR E F t n),.int (rst (jr (bR E F t n) t%gK (bR E F t n) n) (gK (bR E F t n) n))]):=by
 obtain ⟨s1,s2,s3,s4⟩:=lN h ht hn
 have l:=mq h
 have hB:=jq (p:=bR E F t n) hn
 have hA:=p8 (p:=bR E F t n) (Int.le_of_lt ht)
 have d:=Jx h hA hB s3
 have eP:max (lo E F) (hgt t n - F - 1)=bR E F t n:=rfl
 have nB:nb (gK (bR E F t n) n)<=3000000:=by
  have:=eV h2 (kR (k:=bR E F t n) (c:=1000000) (by omega))
  unfold gK;omega
 have nr:nb (jr (bR E F t n) t%gK (bR E F t n) n)<=3000000:=wq hB nB
 unfold t7 Bd
 simp_arith [wV (Int.le_of_lt ht) hn,show ¬ t=0 by omega,kf h,rO h1 h2,eP,lW (t:=t) (n:=n) (p:=bR E F t n) (by omega) (by omega) (by omega) (by omega),cT d,hB,rest_of_ok (o:=jr (bR E F t n) t%gK (bR E F t n) n) (s:=gK (bR E F t n) n) (by omega)]
theorem bD {E F:Int} (h:Sz E F):ba [.tup [.int E,.int F]]=.ok (.int ((pw E - 1)*pw F)):=by
 obtain ⟨h1,h2,h3,h4⟩:=id h
 have hb:nb (pw E)<=16:=kR (c:=15) (by omega)
 have hb2:nb (pw E - 1)<=17:=by walk_at "nbk"
 unfold ba jm
 simp_arith [gd h,ay (i:=pw E - 1) (j:=F) (by omega) (by omega)]
theorem fD {E F s c:Int} (h:Sz E F) (hs:0<=s/\s<=1):dP [.tup [.int E,.int F],.int s,.int c]=.ok (.int (s*pw (E+F)+c)):=by
 have n1:nb (pw (E+F))<=128:=kR (c:=127) (by have:=h.2.1;have:=h.2.2.2;omega)
 unfold dP lE
 simp_arith [lU h,ak (rH hs.1 hs.2 (Nat.le_trans n1 (by decide)))]
theorem AS {E F c k:Int} (h:Sz E F):dz [.tup [.int E,.int F],.int c,.int k]=.ok (.int (if k=pw (E+F) - pw F then 5 else if c<pw F then 3 else 1)):=by
 obtain ⟨h1,h2,h3,h4⟩:=id h
 unfold dz e7
 simp_arith [bD h,end_is h,jK (k:=F) (by omega) (by omega)]
theorem wK (w:Wy) (s:Int):aM [xG w,.int s]=.ok (.bl (w.out s)):=by
 unfold aM aY xG
 cases w<;>simp_arith [Wy.s,Wy.out]
theorem wF (w:Wy) (s r:Int) (o:Bool) (h:¬ r=0):fY [xG w,.int s,.bl o,.int r]=.ok (.bl (w.grw s o r)):=by
 have f:=wK w s
 have hm:fJ "Way" "flees_nought" (xG w)=true:=rfl
 unfold fY d7
 have nm:("flees_nought" != "name")=true:=by decide
 have e1:yB "Way" "name" (xG w)=.ok (.str w.s):=rfl
 unfold xG at *
 cases w
 ·by_cases g:r=3
  ·simp_arith [h,Wy.s,eq_true g]
   simp [Wy.grw,g]
  ·by_cases g2:r=2
   ·simp_arith [h,Wy.s,g,eq_true g2]
    simp [Wy.grw,g2]
   ·simp_arith [h,Wy.s,g,g2]
    simp [Wy.grw,g,g2]
 ·simp_arith [h,Wy.s]
  rfl
 ·simp only [Wy.s] at f
  simp_arith [h,Wy.s,nm,f]
  rfl
 ·simp only [Wy.s] at f
  simp_arith [h,Wy.s,nm,f]
  rfl
 ·simp only [Wy.s] at f
  simp_arith [h,Wy.s,nm,f]
  rfl
theorem r9 (w:Wy) (s:Int):eO [xG w,.int s]=.ok (.bl (w.brs s)):=by
 have f:=wK w s
 have nm:("flees_nought" != "name")=true:=by decide
 have e2:∀ x:PySem.Str,oIn (.str x) (.tup [.str "even",.str "away"])=.ok (.bl (decide ((PySem.Str.ofString "even")=x\/(PySem.Str.ofString "away")=x))):=fun x=>CI
 unfold eO dD
 unfold xG at *
 cases w
 ·simp_arith [Wy.s,e2]
  rfl
 ·simp_arith [Wy.s,e2]
  rfl
 ·simp only [Wy.s] at f
  simp_arith [Wy.s,e2,nm,f]
  rfl
 ·simp only [Wy.s] at f
  simp_arith [Wy.s,e2,nm,f]
  rfl
 ·simp only [Wy.s] at f
  simp_arith [Wy.s,e2,nm,f]
  rfl
theorem oi {E F s x P r:Int} (w:Wy) (h:Sz E F) (hs:0<=s/\s<=1) (hP:lo E F<=P) (hP2:P<=10000000) (hx:0<=x) :
  gR [.tup [.int E,.int F],.str w.s,.int s,.int x,.int P,.int r]=.ok (.tup [.int (s*pw (E+F)+stK w E F s (codeOf E F P x) r),.int (stF w E F s (codeOf E F P x) r)]):=by
 obtain ⟨h1,h2,h3,h4⟩:=id h
 have l:=mq h
 have n1:nb (P - lo E F)<=64:=bS (by omega) (by omega)
 have c0:0<=codeOf E F P x:=by
  have:=Int.mul_nonneg (show 0<=P - lo E F by omega) (Int.le_of_lt (ai F))
  unfold codeOf;omega
 have ec:(P - lo E F)*pw F+x=codeOf E F P x:=rfl
 have mb:fJ "Way" "bursts" (xG w)=true:=rfl
 have mg:fJ "Way" "grows" (xG w)=true:=rfl
 have vw:∀ (a b c d e f:Option D) (l:Dt),var 6 (a::b::c::d::e::f::some (xG w)::l)=.ok (xG w):=fun _ _ _ _ _ _ _=>rfl
 unfold gR jj stF stK
 by_cases g:pw (E+F) - pw F<=codeOf E F P x
 ·cases gb:w.brs s
  ·simp_arith [gm w,kf h,ay (i:=P - lo E F) (j:=F) (by omega) (by omega),ec,bD h,end_is h,g,vw,mb,r9 w s,gb,fD h hs]
  ·simp_arith [gm w,kf h,ay (i:=P - lo E F) (j:=F) (by omega) (by omega),ec,bD h,end_is h,g,vw,mb,r9 w s,gb,fD h hs]
 ·by_cases gr:r=0
  ·simp_arith [gm w,kf h,ay (i:=P - lo E F) (j:=F) (by omega) (by omega),ec,bD h,end_is h,g,eq_true gr,fD h hs]
  ·cases gg:w.grw s (decide (codeOf E F P x%2=1)) r
   ·simp_arith [gm w,kf h,ay (i:=P - lo E F) (j:=F) (by omega) (by omega),ec,bD h,end_is h,g,gr,vw,mg,fH c0,wF w s r _ gr,gg,fD h hs,AS h]
   ·simp_arith [gm w,kf h,ay (i:=P - lo E F) (j:=F) (by omega) (by omega),ec,bD h,end_is h,g,gr,vw,mg,fH c0,wF w s r _ gr,gg,fD h hs,AS h]
theorem oj {E F s t n:Int} (w:Wy) (h:Sz E F) (hs:0<=s/\s<=1) (ht:0<t) (hn:0<n) (h1:nb t<=1000000) (h2:nb n<=1000000) :
  aK [.tup [.int E,.int F],.str w.s,.int s,.int t,.int n]=.ok (.tup [.int (s*pw (E+F)+stK w E F s (codeOf E F (bR E F t n) (jr (bR E F t n) t / gK (bR E F t n) n)) (rst (jr (bR E F t n) t%gK (bR E F t n) n) (gK (bR E F t n) n))),.int (stF w E F s (codeOf E F (bR E F t n) (jr (bR E F t n) t / gK (bR E F t n) n)) (rst (jr (bR E F t n) t%gK (bR E F t n) n) (gK (bR E F t n) n)))]):=by
 obtain ⟨s1,s2,s3,s4⟩:=lN h ht hn
 unfold aK hR
 simp_arith [gm w,JZ h ht hn h1 h2,oi w h hs s1 (by omega) (Int.ediv_nonneg (p8 (p:=bR E F t n) (Int.le_of_lt ht)) (Int.le_of_lt (jq (p:=bR E F t n) hn)))]
theorem j8 {E F s n:Int} (w:Wy) (h:Sz E F) (hs:0<=s/\s<=1) (hn:0<n):aK [.tup [.int E,.int F],.str w.s,.int s,.int 0,.int n]=.ok (.tup [.int (s*pw (E+F)),.int 0]):=by
 have l:=mq h
 have h5:=bE h
 have hQ:=ai F
 have e0:codeOf E F (lo E F) 0=0:=by unfold codeOf;rw [Int.sub_self,Int.zero_mul];rfl
 have e:=oi (s:=s) (x:=0) (P:=lo E F) (r:=0) w h hs (Int.le_refl _) (by omega) (Int.le_refl 0)
 rw [e0,show stK w E F s 0 0=0 by unfold stK;rw [if_neg (by omega),if_pos rfl],show stF w E F s 0 0=0 by unfold stF;rw [if_neg (by omega),if_pos rfl],Int.add_zero] at e
 unfold aK hR
 simp_arith [gm w,Df h hn,e]
theorem ya {E F t n:Int} (h:Sz E F) (ht:0<=t) (hn:0<n) (n1:nb t<=1000000) (n2:nb n<=1000000) :
  ∃ c r,(∀ (w:Wy) (s:Int),0<=s/\s<=1->aK [.tup [.int E,.int F],.str w.s,.int s,.int t,.int n]=.ok (.tup [.int (s*pw (E+F)+stK w E F s c r),.int (stF w E F s c r)]))/\0<=c/\vl F c*n<=t*pw (-(lo E F))/\t*pw (-(lo E F))<vl F (c+1)*n/\yz F (t*pw (-(lo E F))) n c r:=by
 have l:=mq h
 have h5:=bE h
 have hQ:=ai F
 by_cases g:t=0
 ·subst g
  refine ⟨0,0,fun w s hs => ?_,Int.le_refl 0,?_,?_,.inl ⟨rfl,?_⟩⟩
  ·rw [j8 w h hs hn,show stK w E F s 0 0=0 by unfold stK;rw [if_neg (by omega),if_pos rfl],show stF w E F s 0 0=0 by unfold stF;rw [if_neg (by omega),if_pos rfl],Int.add_zero]
  ·rw [jI,Int.zero_mul,Int.zero_mul];exact Int.le_refl 0
  ·rw [Int.zero_mul]
   have:=kN (F:=F) (c:=0) (c':=0+1) (Int.le_refl 0) (by decide)
   rw [jI] at this
   exact Int.mul_pos this hn
  ·rw [jI,Int.zero_mul,Int.zero_mul]
 have ht':0<t:=by omega
 obtain ⟨s1,s2,s3,s4⟩:=lN h ht' hn
 have hB:=jq (p:=bR E F t n) hn
 have hA:=p8 (p:=bR E F t n) ht
 have w0:0<=jr (bR E F t n) t / gK (bR E F t n) n:=Int.ediv_nonneg hA (Int.le_of_lt hB)
 have w1:jr (bR E F t n) t / gK (bR E F t n) n<2*pw F:=Int.ediv_lt_of_lt_mul hB s3
 have w2:lo E F<bR E F t n->pw F<=jr (bR E F t n) t / gK (bR E F t n) n:=fun q=>Int.le_ediv_of_mul_le hB (s4 q)
 have l0:=Int.emod_nonneg (jr (bR E F t n) t) (show gK (bR E F t n) n≠0 by omega)
 have l1:=Int.emod_lt_of_pos (jr (bR E F t n) t) hB
 have b:=between h hn s1 w0 w1 w2 l0 l1 (Int.ediv_mul_add_emod _ _).symm
 have c0:=(qc h s1 w0 w1 w2).1
 exact ⟨_,_,fun w s hs=>oj w h hs ht' hn n1 n2,c0,b.1,b.2.1,wx b l0⟩
theorem l7 {E F t n:Int} (h:Sz E F) (ht:0<=t) (hn:0<n) (n1:nb t<=1000000) (n2:nb n<=1000000) :
  ∃ c r,(∀ (w:Wy) (s:Int),0<=s/\s<=1->aK [.tup [.int E,.int F],.str w.s,.int s,.int t,.int n]=.ok (.tup [.int (s*pw (E+F)+stK w E F s c r),.int (stF w E F s c r)]))/\At F (t*pw (-(lo E F))) n c r:=by
 obtain ⟨c,r,e,x⟩:=ya h ht hn n1 n2
 exact ⟨c,r,e,x⟩
theorem Cr {E F s d f p:Int} (h:Sz E F) (hs:0<=s/\s<=1) (d0:0<=d) (d1:d<pw (E+F) - pw F) (f0:0<=f) (nf:nb f<=500000) (p0 : -20000<=p) (p1:p<=20000) :
  ∃ c r,bc [.tup [.int E,.int F],.int (s*pw (E+F)+d),.int f,.int p]=.ok (.bl (decide (stK .even E F s c r=d)))/\At F (tnT f p*pw (-(lo E F))) (tnB 1 p) c r:=by
 have hQ:=ai F
 obtain ⟨b1,b2,b3,b4⟩:=fL (c:=d) h hs d0 (by omega)
 have hw:=uG h b1 (by rw [b3];intro z;have:=(lB h d0 (by omega)).mp z;omega)
 rw [b2] at hw
 obtain ⟨z1,z2,z3,z4⟩:=lQ p0 p1 f0 (show (0:Int)<1 by decide) nf (show nb 1<=500000 by decide)
 obtain ⟨c,r,e,a⟩:=l7 h z1 z2 z3 z4
 refine ⟨c,r,?_,a⟩
 have e:=e .even s hs
 rw [show Wy.even.s="even" from rfl] at e
 unfold bc eZ
 simp_arith [hw,ig (t:=f) (n:=1) p0 p1 nf (by decide),e]
 have q:(s*pw (E+F)+stK Wy.even E F s c r=s*pw (E+F)+d)↔stK Wy.even E F s c r=d:=by omega
 simp only [q]
theorem iv:∀ (j:Nat) (n:Int),0<=n->n<pw j->n<=30000->ar (j+1) [.int n]=.ok (.int (10^n.toNat))
 | 0,n,h0,h1,h2=>by
  have:pw ((0:Nat):Int)=1:=rfl
  have e:n=0:=by omega
  subst e
  unfold ar d5
  simp_arith []
  try rfl
 | j+1,n,h0,h1,h2=>by
  have hp:pw ((j+1:Nat):Int)=2*pw (j:Int):=by
   rw [show ((j+1:Nat):Int)=(j:Int)+1 by omega]
   exact cj (by omega)
  have ih:=iv j (n / 2) (by omega) (by omega) (by omega)
  have hh:=oY h0
  have nn:=kd (n / 2).toNat
  unfold ar d5
  generalize ar (j+1)=P at *
  by_cases g:n=0
  ·subst g
   simp_arith []
   try rfl
  ·generalize (10:Int)^(n / 2).toNat=x at *
   have nx:nb x<=60001:=by omega
   have m1:MulOk x x:=by walk_at "mul"
   have nxx:nb (x*x)<=120002:=by walk_at "nbk"
   have m2:MulOk (x*x) 10:=by walk_at "mul"
   by_cases g2:n%2=1
   ·rw [if_pos g2] at hh
    simp_arith [g,ih,eq_true g2,ak m1,ak m2,hh]
   ·rw [if_neg g2,Int.mul_one] at hh
    simp_arith [g,ih,g2,ak m1,ak m2,hh]
theorem cx {E F c:Int} (h:Sz E F) (h0:0<=c) (h1:c<pw (E+F)):aI [.tup [.int E,.int F],.int c]=.ok (.int (vl F c)):=by
 obtain ⟨k1,k2,k3,k4⟩:=id h
 obtain ⟨v1,v2⟩:=Fq h h0 h1
 have v3:=fE h
 have v4:=vt h
 obtain ⟨r0,r1⟩:=EZ F c
 unfold fig at r0 r1
 have n1:nb (pw F+c%pw F)<=128:=bS (by omega) (by omega)
 unfold aI gj vl
 by_cases g:c / pw F=0
 ·simp_arith [show (0:Int)<=F by omega,eq_true g]
 ·simp_arith [show (0:Int)<=F by omega,g,jK (k:=F) (by omega) (by omega),ai,ay (i:=pw F+c%pw F) (j:=c / pw F - 1) (by omega) (by omega)]
theorem rm {E F:Int} (h:Sz E F):d4 [.tup [.int E,.int F]]=.ok (.int ((pw E - 1)*pw F+pw (F - 1))):=by
 obtain ⟨h1,h2,h3,h4⟩:=id h
 unfold d4 gh
 simp_arith [bD h,jK (k:=F - 1) (by omega) (by omega)]
theorem JO (w:Wy) (o e:Bool) (l:Int):gU [.str w.s,.bl o,.int l,.bl e]=.ok (.bl (w.far o l e)):=by
 unfold gU jl
 cases w
 ·by_cases g:0<l
  ·simp_arith [Wy.s,g]
   simp [Wy.far,g]
  ·by_cases g2:l=0
   ·simp_arith [Wy.s,g,eq_true g2]
    simp [Wy.far,g2]
   ·simp_arith [Wy.s,g,g2]
    simp [Wy.far,g,g2]
 ·simp_arith [Wy.s]
  rfl
 ·simp_arith [Wy.s]
  rfl
 ·simp_arith [Wy.s]
  rfl
 ·simp_arith [Wy.s]
  rfl
theorem dZ (i:Int):bg [.int i]=.ok (.bl true):=by
 unfold bg gi
 simp_arith []
theorem GB (w:Wy) (o e:Bool) (l:Int):fG [.str w.s,.bl o,.int l,.bl e]=.ok (.bl (w.near o l e)):=by
 unfold fG iy
 cases w
 ·by_cases g:l<0
  ·simp_arith [Wy.s,g]
   simp [Wy.near,g]
  ·by_cases g2:l=0
   ·simp_arith [Wy.s,g,eq_true g2]
    simp [Wy.near,g2]
   ·simp_arith [Wy.s,g,g2]
    simp [Wy.near,g,g2]
 ·simp_arith [Wy.s]
  rfl
 ·cases o<;>simp_arith [Wy.s]<;>rfl
 ·cases o<;>simp_arith [Wy.s]<;>rfl
 ·cases o<;>simp_arith [Wy.s]<;>rfl
section
variable {E F s T n c:Int}
theorem qQ (w:Wy) (s:Int) (a:Option D) (l:Dt):or_ (bQ (bin oEq (var 1) (con (.str "up"))) (bin oEq (var 2) (con (.int 0)))) (bQ (bin oEq (var 1) (con (.str "down"))) (bin oEq (var 2) (con (.int 1)))) (a::some (.str w.s)::some (.int s)::l)=.ok (.bl (w.out s)):=by
 cases w<;>simp_arith [Wy.s,Wy.out]<;>rfl
theorem sf (w:Wy) (s:Int) (a a3 a4 a5 a6 a7 a8:Option D) (l:Dt):or_ (bin oEq (var 1) (con (.str "even"))) (or_ (bin oEq (var 1) (con (.str "away"))) (var 9)) (a::some (.str w.s)::some (.int s)::a3::a4::a5::a6::a7::a8::some (.bl (w.out s))::l)=.ok (.bl (w.brs s)):=by
 have v9:var 9 (a::some (.str w.s)::some (.int s)::a3::a4::a5::a6::a7::a8::some (.bl (w.out s))::l)=.ok (.bl (w.out s)):=rfl
 cases w<;>simp_arith [Wy.s,v9]<;>rfl
theorem mi (w:Wy) (s:Int) (a a3 a4 a5 a6 a7 a8:Option D) (l:Dt):bQ (bin oNe (var 1) (con (.str "even"))) (bQ (bin oNe (var 1) (con (.str "away"))) (iA (var 9))) (a::some (.str w.s)::some (.int s)::a3::a4::a5::a6::a7::a8::some (.bl (w.out s))::l)=.ok (.bl (!w.brs s)):=by
 have v9:var 9 (a::some (.str w.s)::some (.int s)::a3::a4::a5::a6::a7::a8::some (.bl (w.out s))::l)=.ok (.bl (w.out s)):=rfl
 cases w<;>simp_arith [Wy.s,v9]<;>first | rfl | (generalize hq:Wy.out _ s=q;cases q<;>simp [Wy.brs,hq])
theorem C8 (w:Wy) (h:Sz E F) (hs:0<=s/\s<=1) (hn:0<n) (nT:nb T<=10000000) (nn:nb n<=10000000) (hb:w.brs s=true) (hT:vl F (pw (E+F) - pw F)*n<=T) :
  aF [.tup [.int E,.int F],.str w.s,.int s,.int T,.int n,.tup [.int (s*pw (E+F)+(pw (E+F) - pw F)),.int 5]]=.ok (.bl true):=by
 obtain ⟨k1,k2,k3,k4⟩:=id h
 have hh:=bE h
 have hQ:=ai F
 have eM:=end_is h
 have ns:nb s<=1:=bS hs.1 (by omega)
 have nE:nb (pw E - 1)<=15:=bS (by have:=ai E;omega) (by have:=fE h;omega)
 have m2:MulOk 2 T:=by walk_at "mul"
 have eK:s*pw (E+F)+(pw (E+F) - pw F) - s*pw (E+F)=pw (E+F) - pw F:=by omega
 unfold aF cu
 have ho:=qQ w s
 have hbr:=sf w s
 have hnb:=mi w s
 generalize or_ (bQ (bin oEq (var 1) (con (.str "up"))) (bin oEq (var 2) (con (.int 0)))) (bQ (bin oEq (var 1) (con (.str "down"))) (bin oEq (var 2) (con (.int 1))))=OUT at ho ⊢
 generalize or_ (bin oEq (var 1) (con (.str "even"))) (or_ (bin oEq (var 1) (con (.str "away"))) (var 9))=BRS at hbr ⊢
 generalize bQ (bin oNe (var 1) (con (.str "even"))) (bQ (bin oNe (var 1) (con (.str "away"))) (iA (var 9)))=NBR at hnb ⊢
 simp_arith [dZ,ho,hbr,hnb,hb,ay (i:=s) (j:=E+F) (by omega) (by omega),eK,jK (k:=E) (by omega) (by omega),ay (i:=pw E - 1) (j:=F) (by omega) (by omega),eM,show 0<=pw (E+F) - pw F by omega,Int.le_refl,cx (c:=pw (E+F) - pw F) h (by omega) (by omega),ak (j6 (x:=pw (E+F) - pw F) h (by omega) (by omega) nn),hT]
theorem ym (w:Wy) (h:Sz E F) (hs:0<=s/\s<=1) (hn:0<n) (nT:nb T<=10000000) (nn:nb n<=10000000) (hb:w.brs s=false) (hT:vl F (pw (E+F) - pw F)*n<=T) :
  aF [.tup [.int E,.int F],.str w.s,.int s,.int T,.int n,.tup [.int (s*pw (E+F)+(pw (E+F) - pw F - 1)),.int 5]]=.ok (.bl true):=by
 obtain ⟨k1,k2,k3,k4⟩:=id h
 have hh:=bE h
 have hQ:=ai F
 have eM:=end_is h
 have ns:nb s<=1:=bS hs.1 (by omega)
 have nE:nb (pw E - 1)<=15:=bS (by have:=ai E;omega) (by have:=fE h;omega)
 have m2:MulOk 2 T:=by walk_at "mul"
 have eK:s*pw (E+F)+(pw (E+F) - pw F - 1) - s*pw (E+F)=pw (E+F) - pw F - 1:=by omega
 have e1:pw (E+F) - pw F - 1+1=pw (E+F) - pw F:=by omega
 have lt:=fB (F:=F) (x:=pw (E+F) - pw F - 1) (y:=pw (E+F) - pw F) hn (by omega) (by omega)
 unfold aF cu
 have ho:=qQ w s
 have hbr:=sf w s
 have hnb:=mi w s
 generalize or_ (bQ (bin oEq (var 1) (con (.str "up"))) (bin oEq (var 2) (con (.int 0)))) (bQ (bin oEq (var 1) (con (.str "down"))) (bin oEq (var 2) (con (.int 1))))=OUT at ho ⊢
 generalize or_ (bin oEq (var 1) (con (.str "even"))) (or_ (bin oEq (var 1) (con (.str "away"))) (var 9))=BRS at hbr ⊢
 generalize bQ (bin oNe (var 1) (con (.str "even"))) (bQ (bin oNe (var 1) (con (.str "away"))) (iA (var 9)))=NBR at hnb ⊢
 simp_arith [dZ,ho,hbr,hnb,hb,ay (i:=s) (j:=E+F) (by omega) (by omega),eK,jK (k:=E) (by omega) (by omega),ay (i:=pw E - 1) (j:=F) (by omega) (by omega),eM,show 0<=pw (E+F) - pw F - 1 by omega,show pw (E+F) - pw F - 1<=pw (E+F) - pw F by omega,cx (c:=pw (E+F) - pw F - 1) h (by omega) (by omega),ak (j6 (x:=pw (E+F) - pw F - 1) h (by omega) (by omega) nn),show ¬ pw (E+F) - pw F - 1=pw (E+F) - pw F by omega,show ¬ T=vl F (pw (E+F) - pw F - 1)*n by omega,ay (i:=n) (j:=F) (by omega) (by omega),show vl F (pw (E+F) - pw F - 1)*n<T by omega,e1,cx (c:=pw (E+F) - pw F) h (by omega) (by omega),ak (j6 (x:=pw (E+F) - pw F) h (by omega) (by omega) nn),hT]
 split<;>rfl
theorem yn (w:Wy) (h:Sz E F) (hs:0<=s/\s<=1) (hn:0<n) (nT:nb T<=10000000) (nn:nb n<=10000000) (c0:0<=c) (c1:c<pw (E+F) - pw F) (hT:T=vl F c*n) :
  aF [.tup [.int E,.int F],.str w.s,.int s,.int T,.int n,.tup [.int (s*pw (E+F)+c),.int 0]]=.ok (.bl true):=by
 obtain ⟨k1,k2,k3,k4⟩:=id h
 have hh:=bE h
 have hQ:=ai F
 have eM:=end_is h
 have ns:nb s<=1:=bS hs.1 (by omega)
 have nE:nb (pw E - 1)<=15:=bS (by have:=ai E;omega) (by have:=fE h;omega)
 have m2:MulOk 2 T:=by walk_at "mul"
 have eK:s*pw (E+F)+c - s*pw (E+F)=c:=by omega
 unfold aF cu
 have ho:=qQ w s
 have hbr:=sf w s
 have hnb:=mi w s
 generalize or_ (bQ (bin oEq (var 1) (con (.str "up"))) (bin oEq (var 2) (con (.int 0)))) (bQ (bin oEq (var 1) (con (.str "down"))) (bin oEq (var 2) (con (.int 1))))=OUT at ho ⊢
 generalize or_ (bin oEq (var 1) (con (.str "even"))) (or_ (bin oEq (var 1) (con (.str "away"))) (var 9))=BRS at hbr ⊢
 generalize bQ (bin oNe (var 1) (con (.str "even"))) (bQ (bin oNe (var 1) (con (.str "away"))) (iA (var 9)))=NBR at hnb ⊢
 simp_arith [dZ,ho,hbr,hnb,ay (i:=s) (j:=E+F) (by omega) (by omega),eK,jK (k:=E) (by omega) (by omega),ay (i:=pw E - 1) (j:=F) (by omega) (by omega),eM,c0,show c<=pw (E+F) - pw F by omega,cx (c:=c) h c0 (by omega),ak (j6 (x:=c) h c0 (by omega) nn),show ¬ c=pw (E+F) - pw F by omega,eq_true hT]
theorem Bg (w:Wy) (h:Sz E F) (hs:0<=s/\s<=1) (hn:0<n) (nT:nb T<=10000000) (nn:nb n<=10000000) (c0:0<=c) (c1:c<pw (E+F) - pw F) (h1:vl F c*n<T) (h2:T<vl F (c+1)*n)
  (hw:w.near (w.out s) (2*T - vl F c*n - vl F (c+1)*n) (decide (c%2=0))=true) :
  aF [.tup [.int E,.int F],.str w.s,.int s,.int T,.int n,.tup [.int (s*pw (E+F)+c),.int (if c<pw F then 3 else 1)]]=.ok (.bl true):=by
 obtain ⟨k1,k2,k3,k4⟩:=id h
 have hh:=bE h
 have hQ:=ai F
 have eM:=end_is h
 have ns:nb s<=1:=bS hs.1 (by omega)
 have nE:nb (pw E - 1)<=15:=bS (by have:=ai E;omega) (by have:=fE h;omega)
 have m2:MulOk 2 T:=by walk_at "mul"
 have eK:s*pw (E+F)+c - s*pw (E+F)=c:=by omega
 have ld:=AR h hn c0 (Int.le_of_lt h1) h2
 have hnear:=GB w (w.out s) (decide (c%2=0)) (2*T - vl F c*n - vl F (c+1)*n)
 rw [hw] at hnear
 have ns2:(nb s:Int)+(E+F)<=134217728:=by omega
 unfold aF cu
 have ho:=qQ w s
 have hbr:=sf w s
 have hnb:=mi w s
 generalize or_ (bQ (bin oEq (var 1) (con (.str "up"))) (bin oEq (var 2) (con (.int 0)))) (bQ (bin oEq (var 1) (con (.str "down"))) (bin oEq (var 2) (con (.int 1))))=OUT at ho ⊢
 generalize or_ (bin oEq (var 1) (con (.str "even"))) (or_ (bin oEq (var 1) (con (.str "away"))) (var 9))=BRS at hbr ⊢
 generalize bQ (bin oNe (var 1) (con (.str "even"))) (bQ (bin oNe (var 1) (con (.str "away"))) (iA (var 9)))=NBR at hnb ⊢
 have i10:ifs (bin oLt (var 3) (bin cO (var 4) (bin oIx (var 0) (con (.int 1))))) (assign 10 (con (.int 3))) ao [some (.tup [.int E,.int F]),some (.str w.s),some (.int s),some (.int T),some (.int n),some (.tup [.int (s*pw (E+F)+c),.int (if c<pw F then 3 else 1)]),some (.int c),some (.int (pw (E+F) - pw F)),some (.int (vl F c*n)),some (.bl (w.out s)),some (.int 1),none,none]=.nx [some (.tup [.int E,.int F]),some (.str w.s),some (.int s),some (.int T),some (.int n),some (.tup [.int (s*pw (E+F)+c),.int (if c<pw F then 3 else 1)]),some (.int c),some (.int (pw (E+F) - pw F)),some (.int (vl F c*n)),some (.bl (w.out s)),some (.int (if c<pw F then 3 else 1)),none,none]:=by
  have sh:=ay (i:=n) (j:=F) (by omega) (by omega)
  clear hnear ho hbr hnb hw
  by_cases g:c<pw F<;>simp_arith [sh,ld,g]
 generalize ifs (bin oLt (var 3) (bin cO (var 4) (bin oIx (var 0) (con (.int 1))))) (assign 10 (con (.int 3))) ao=I10 at *
 generalize (if c<pw F then 3 else 1:Int)=fl at *
 simp_arith [i10,dZ,ho,hbr,hnb,ay (j:=E+F) (by omega) ns2,eK,jK (k:=E) (by omega) (by omega),ay (i:=pw E - 1) (j:=F) (by omega) (by omega),eM,c0,show c<=pw (E+F) - pw F by omega,cx (c:=c) h c0 (by omega),ak (j6 (x:=c) h c0 (by omega) nn),show ¬ c=pw (E+F) - pw F by omega,show ¬ T=vl F c*n by omega,ay (i:=n) (j:=F) (by omega) (by omega),ld,h1,cx (c:=c+1) h (by omega) (by omega),ak (j6 (x:=c+1) h (by omega) (by omega) nn),show ¬ vl F (c+1)*n<=T by omega,ak m2,hnear]
theorem C7 (w:Wy) (h:Sz E F) (hs:0<=s/\s<=1) (hn:0<n) (nT:nb T<=10000000) (nn:nb n<=10000000) (c0:0<=c) (c1:c<pw (E+F) - pw F) (h1:vl F c*n<T) (h2:T<vl F (c+1)*n)
  (hw:w.far (w.out s) (2*T - vl F (c+1)*n - vl F c*n) (decide ((c+1)%2=0))=true) :
  aF [.tup [.int E,.int F],.str w.s,.int s,.int T,.int n,.tup [.int (s*pw (E+F)+(c+1)),.int (if c+1=pw (E+F) - pw F then 5 else if c<pw F then 3 else 1)]]=.ok (.bl true):=by
 obtain ⟨k1,k2,k3,k4⟩:=id h
 have hh:=bE h
 have hQ:=ai F
 have eM:=end_is h
 have ns:nb s<=1:=bS hs.1 (by omega)
 have nE:nb (pw E - 1)<=15:=bS (by have:=ai E;omega) (by have:=fE h;omega)
 have m2:MulOk 2 T:=by walk_at "mul"
 have eK:s*pw (E+F)+(c+1) - s*pw (E+F)=c+1:=by omega
 have e1:c+1 - 1=c:=by omega
 have ld:=AR h hn c0 (Int.le_of_lt h1) h2
 have hfar:=JO w (w.out s) (decide ((c+1)%2=0)) (2*T - vl F (c+1)*n - vl F c*n)
 rw [hw] at hfar
 have ns2:(nb s:Int)+(E+F)<=134217728:=by omega
 unfold aF cu
 have ho:=qQ w s
 have hbr:=sf w s
 have hnb:=mi w s
 generalize or_ (bQ (bin oEq (var 1) (con (.str "up"))) (bin oEq (var 2) (con (.int 0)))) (bQ (bin oEq (var 1) (con (.str "down"))) (bin oEq (var 2) (con (.int 1))))=OUT at ho ⊢
 generalize or_ (bin oEq (var 1) (con (.str "even"))) (or_ (bin oEq (var 1) (con (.str "away"))) (var 9))=BRS at hbr ⊢
 generalize bQ (bin oNe (var 1) (con (.str "even"))) (bQ (bin oNe (var 1) (con (.str "away"))) (iA (var 9)))=NBR at hnb ⊢
 have i10:ifs (bin oLt (var 3) (bin cO (var 4) (bin oIx (var 0) (con (.int 1))))) (assign 10 (con (.int 3))) ao [some (.tup [.int E,.int F]),some (.str w.s),some (.int s),some (.int T),some (.int n),some (.tup [.int (s*pw (E+F)+(c+1)),.int (if c+1=pw (E+F) - pw F then 5 else if c<pw F then 3 else 1)]),some (.int (c+1)),some (.int (pw (E+F) - pw F)),some (.int (vl F (c+1)*n)),some (.bl (w.out s)),some (.int 1),none,none]=.nx [some (.tup [.int E,.int F]),some (.str w.s),some (.int s),some (.int T),some (.int n),some (.tup [.int (s*pw (E+F)+(c+1)),.int (if c+1=pw (E+F) - pw F then 5 else if c<pw F then 3 else 1)]),some (.int (c+1)),some (.int (pw (E+F) - pw F)),some (.int (vl F (c+1)*n)),some (.bl (w.out s)),some (.int (if c<pw F then 3 else 1)),none,none]:=by
  have sh:=ay (i:=n) (j:=F) (by omega) (by omega)
  clear hfar ho hbr hnb hw
  by_cases g:c<pw F<;>simp_arith [sh,ld,g]
 have i5:ifs (bin oEq (var 6) (var 7)) (assign 10 (con (.int 5))) ao [some (.tup [.int E,.int F]),some (.str w.s),some (.int s),some (.int T),some (.int n),some (.tup [.int (s*pw (E+F)+(c+1)),.int (if c+1=pw (E+F) - pw F then 5 else if c<pw F then 3 else 1)]),some (.int (c+1)),some (.int (pw (E+F) - pw F)),some (.int (vl F (c+1)*n)),some (.bl (w.out s)),some (.int (if c<pw F then 3 else 1)),none,none]=.nx [some (.tup [.int E,.int F]),some (.str w.s),some (.int s),some (.int T),some (.int n),some (.tup [.int (s*pw (E+F)+(c+1)),.int (if c+1=pw (E+F) - pw F then 5 else if c<pw F then 3 else 1)]),some (.int (c+1)),some (.int (pw (E+F) - pw F)),some (.int (vl F (c+1)*n)),some (.bl (w.out s)),some (.int (if c+1=pw (E+F) - pw F then 5 else if c<pw F then 3 else 1)),none,none]:=by
  clear hfar ho hbr hnb hw i10
  generalize (if c<pw F then 3 else 1:Int)=fl
  by_cases g2:c+1=pw (E+F) - pw F
  ·simp_arith [eq_true g2]
  ·simp_arith [g2]
 generalize ifs (bin oLt (var 3) (bin cO (var 4) (bin oIx (var 0) (con (.int 1))))) (assign 10 (con (.int 3))) ao=I10 at *
 generalize ifs (bin oEq (var 6) (var 7)) (assign 10 (con (.int 5))) ao=I5 at *
 generalize (if c+1=pw (E+F) - pw F then 5 else if c<pw F then 3 else 1:Int)=f2 at *
 generalize (if c<pw F then 3 else 1:Int)=fl at *
 simp_arith [i10,i5,dZ,ho,hbr,hnb,ay (j:=E+F) (by omega) ns2,eK,jK (k:=E) (by omega) (by omega),ay (i:=pw E - 1) (j:=F) (by omega) (by omega),eM,show 0<=c+1 by omega,show c+1<=pw (E+F) - pw F by omega,cx (c:=c+1) h (by omega) (by omega),ak (j6 (x:=c+1) h (by omega) (by omega) nn),show ¬ vl F (c+1)*n<=T by omega,show ¬ T=vl F (c+1)*n by omega,ay (i:=n) (j:=F) (by omega) (by omega),ld,show ¬ vl F (c+1)*n<T by omega,e1,cx (c:=c) h c0 (by omega),ak (j6 (x:=c) h c0 (by omega) nn),show ¬ T<=vl F c*n by omega,ak m2,hfar]
theorem C9 {r:Int} (w:Wy) (h:Sz E F) (hs:0<=s/\s<=1) (hn:0<n) (nT:nb T<=10000000) (nn:nb n<=10000000) (c0:0<=c) (h1:vl F c*n<=T) (h2:c<pw (E+F) - pw F->T<vl F (c+1)*n)
  (hr:yz F T n c r) :
  aF [.tup [.int E,.int F],.str w.s,.int s,.int T,.int n,.tup [.int (s*pw (E+F)+stK w E F s c r),.int (stF w E F s c r)]]=.ok (.bl true):=by
 have hh:=bE h
 have hQ:=ai F
 by_cases g:pw (E+F) - pw F<=c
 ·have hT:vl F (pw (E+F) - pw F)*n<=T:=by
   rcases Int.lt_or_eq_of_le g with y | y
   ·have:=fB (F:=F) hn (show 0<=pw (E+F) - pw F by omega) y
    omega
   ·rw [y];exact h1
  unfold stF stK
  simp only [if_pos g]
  cases gb:w.brs s
  ·exact ym w h hs hn nT nn gb hT
  ·exact C8 w h hs hn nT nn gb hT
 have h2:=h2 (by omega)
 rcases hr with ⟨e,eT⟩ | ⟨h1',hr⟩
 ·have e1:stK w E F s c r=c:=by unfold stK;rw [if_neg g,if_pos e]
  have e2:stF w E F s c r=0:=by unfold stF;rw [if_neg g,if_pos e]
  rw [e1,e2]
  exact yn w h hs hn nT nn c0 (by omega) eT
 have r0:¬ r=0:=by omega
 cases gg:w.grw s (decide (c%2=1)) r
 ·have e1:stK w E F s c r=c:=by unfold stK;rw [if_neg g,if_neg r0,gg];rfl
  have e2:stF w E F s c r=if c<pw F then 3 else 1:=by unfold stF;rw [if_neg g,if_neg r0,e1,if_neg (by omega)]
  rw [e1,e2]
  exact Bg w h hs hn nT nn c0 (by omega) h1' h2 (GD hr gg)
 ·have e1:stK w E F s c r=c+1:=by unfold stK;rw [if_neg g,if_neg r0,gg];rfl
  have e2:stF w E F s c r=if c+1=pw (E+F) - pw F then 5 else if c<pw F then 3 else 1:=by unfold stF;rw [if_neg g,if_neg r0,e1]
  rw [e1,e2]
  refine C7 w h hs hn nT nn c0 (by omega) h1' h2 (JP (l:=2*T - vl F (c+1)*n - vl F c*n) ?_ gg)
  omega
end
theorem yU (c:Int):∃ w:Wy,dA [.int c]=.ok (.str w.s):=by
 unfold dA fi
 rcases (by omega:c%5=0\/c%5=1\/c%5=2\/c%5=3\/c%5=4) with e | e | e | e | e
 ·exact ⟨.even,by simp_arith [e];rfl⟩
 ·exact ⟨.away,by simp_arith [e];rfl⟩
 ·exact ⟨.nought,by simp_arith [e];rfl⟩
 ·exact ⟨.up,by simp_arith [e,Sm];rfl⟩
 ·exact ⟨.down,by simp_arith [e,Sl];rfl⟩
structure Vf (E F d t n:Int):Prop where
 t0:0<t
 n0:0<n
 nt:nb t<=200000
 nn:nb n<=200000
 eq:t*pw (-(lo E F))=vl F d*n
theorem lM {a b c V U c':Int} (hb:0<b) (hU:0<U) (hc:0<c) (hc':0<c') (e1:a*c=V*c') (e2:b*c=U*c') :
  a / b=V / U/\(a<b↔V<U)/\(2*(a%b)>b↔2*(V%U)>U)/\(2*(a%b)=b↔2*(V%U)=U):=by
 have q1:a / b=V / U:=by
  rw [<- Int.mul_ediv_mul_of_pos_left a b hc,e1,e2,Int.mul_ediv_mul_of_pos_left V U hc']
 have q2:a%b*c=V%U*c':=by
  rw [Int.emod_def,Int.emod_def,q1,Int.sub_mul,Int.sub_mul,e1,Int.mul_assoc,Int.mul_comm (V / U) c,<-Int.mul_assoc,e2]
  simp only [Int.mul_assoc,Int.mul_comm,Int.mul_left_comm]
 have L:∀ x y:Int,x*c<y*c↔x<y:=fun x y=>bB hc
 have L':∀ x y:Int,x*c'<y*c'↔x<y:=fun x y=>bB hc'
 refine ⟨q1,by rw [<- L,e1,e2,L'],?_,?_⟩
 ·show b<2*(a%b)↔U<2*(V%U)
  rw [<- L,<-L' U,Int.mul_assoc,q2,e2,Int.mul_assoc]
 ·constructor
  ·intro z
   have:2*(a%b)*c=b*c:=by rw [z]
   rw [Int.mul_assoc,q2,e2,<-Int.mul_assoc] at this
   exact Int.eq_of_mul_eq_mul_right (by omega) this
  ·intro z
   have:2*(V%U)*c'=U*c':=by rw [z]
   rw [Int.mul_assoc,<-q2,<-e2,<-Int.mul_assoc] at this
   exact Int.eq_of_mul_eq_mul_right (by omega) this
theorem DX {E F p:Int}:0<uT E F p:=Int.mul_pos (ai _) (Int.pow_pos (by decide))
theorem vy {E F d t n p:Int} (W:Vf E F d t n) (h0 : -9000<=p) (h1:p<=9000) :
  0<tnB n (-p)/\tnT t (-p) / tnB n (-p)=vT F d / uT E F p/\(tnT t (-p)<tnB n (-p)↔vT F d<uT E F p) /\
  (2*(tnT t (-p)%tnB n (-p))>tnB n (-p)↔2*(vT F d%uT E F p)>uT E F p)/\(2*(tnT t (-p)%tnB n (-p))=tnB n (-p)↔2*(vT F d%uT E F p)=uT E F p):=by
 obtain ⟨t0,n0,_,_,e⟩:=W
 have hK:=ai (-(lo E F))
 have hb:0<tnB n (-p):=by
  unfold tnB
  split
  ·exact n0
  ·exact Int.mul_pos n0 (aV _)
 refine ⟨hb,?_⟩
 unfold tnT tnB at *
 have hU:=DX (E:=E) (F:=F) (p:=p)
 by_cases g:0 <= -p
 ·rw [if_pos g] at hb
  rw [if_pos g,if_pos g]
  refine lM n0 hU (c:=pw (-(lo E F))*10^(p+9000).toNat) (c':=n) (Int.mul_pos hK (aV _)) n0 ?_ ?_
  ·have x:(10:Int)^(-p).toNat*10^(p+9000).toNat=10^9000:=by rw [<- Int.pow_add];congr 1;omega
   unfold vT
   generalize (10:Int)^9000=z at *
   generalize (10:Int)^(-p).toNat=z1 at *
   generalize (10:Int)^(p+9000).toNat=z2 at *
   rw [<- x]
   calc t*z1*(pw (-(lo E F))*z2)=(t*pw (-(lo E F)))*(z1*z2):=by simp only [Int.mul_assoc,Int.mul_comm,Int.mul_left_comm]
    _=vl F d*(z1*z2)*n:=by rw [e];simp only [Int.mul_assoc,Int.mul_comm,Int.mul_left_comm]
  ·unfold uT
   simp only [Int.mul_assoc,Int.mul_comm,Int.mul_left_comm]
 ·rw [if_neg g] at hb
  rw [if_neg g,if_neg g]
  refine lM hb hU (c:=pw (-(lo E F))*10^9000) (c':=n) (Int.mul_pos hK (aV _)) n0 ?_ ?_
  ·unfold vT
   generalize (10:Int)^9000=z at *
   rw [<- Int.mul_assoc,e]
   simp only [Int.mul_assoc,Int.mul_comm,Int.mul_left_comm]
  ·have x:(10:Int)^(p+9000).toNat=10^(- -p).toNat*10^9000:=by rw [<- Int.pow_add];congr 1;omega
   unfold uT
   rw [x]
   generalize (10:Int)^9000=z at *
   simp only [Int.mul_assoc,Int.mul_comm,Int.mul_left_comm]
theorem xb {E F d t n p:Int} (W:Vf E F d t n) (h0 : -9000<=p) (h1:p<=9000):bA [.int t,.int n,.int p]=.ok (.bl (decide (vT F d<uT E F p))):=by
 obtain ⟨_,_,q,_⟩:=vy W h0 h1
 have e:=ig (t:=t) (n:=n) (p := -p) (by omega) (by omega) (Nat.le_trans W.nt (by decide)) (Nat.le_trans W.nn (by decide))
 unfold bA dk
 simp_arith [e,q]
theorem vq {E F s d f p:Int} (h:Sz E F) (hs:0<=s/\s<=1) (d0:0<d) (d1:d<pw (E+F) - pw F) (f0:0<=f) (nf:nb f<=500000) (p0 : -9000<=p) (p1:p<=9000) :
  ∃ k,bc [.tup [.int E,.int F],.int (s*pw (E+F)+d),.int f,.int p]=.ok (.bl k)/\(k=true↔Wn (aT F d) (bT F d) (d%2=0) (2*(f*uT E F p))):=by
 obtain ⟨c,r,e,a⟩:=Cr h hs (by omega) d1 f0 nf (by omega) (show p<=20000 by omega)
 obtain ⟨_,z2,_,_⟩:=lQ (p:=p) (by omega) (by omega) f0 (show (0:Int)<1 by decide) nf (show nb 1<=500000 by decide)
 refine ⟨_,e,?_⟩
 rw [decide_eq_true_eq,A4 z2 a (by omega) d1]
 unfold tnT tnB at *
 by_cases g:0<=p
 ·rw [if_pos g,if_pos g] at *
  refine wA (c:=10^9000) d0 p9 ?_ ?_ ?_ (by decide)
  ·rw [Int.mul_one];rfl
  ·rw [Int.mul_one];rfl
  ·unfold uT
   rw [show (p+9000).toNat=p.toNat+9000 by omega,Int.pow_add]
   generalize (10:Int)^9000=z
   simp only [Int.mul_assoc,Int.mul_comm,Int.mul_left_comm]
 ·rw [if_neg g,if_neg g] at *
  have x:(10:Int)^(-p).toNat*10^(p+9000).toNat=10^9000:=by rw [<- Int.pow_add];congr 1;omega
  refine wA (c:=10^(p+9000).toNat) d0 (aV _) ?_ ?_ ?_ (by omega)
  ·unfold aT
   rw [<- x]
   simp only [Int.one_mul,Int.mul_assoc]
  ·unfold bT
   rw [<- x]
   simp only [Int.one_mul,Int.mul_assoc]
  ·unfold uT
   simp only [Int.mul_assoc,Int.mul_comm,Int.mul_left_comm]
theorem GW {E F s d:Int} (h:Sz E F) (hs:0<=s/\s<=1) (d0:0<d) (d1:d<pw (E+F) - pw F) :
  ∃ t n,cS [.tup [.int E,.int F],.int (s*pw (E+F)+d)]=.ok (.tup [.int s,.int t,.int n])/\Vf E F d t n:=by
 have hQ:=ai F
 obtain ⟨b1,b2,b3,b4⟩:=fL (c:=d) h hs (by omega) (by omega)
 have e:=mI h b1 (by rw [b3];intro z;have:=(lB h (by omega) (by omega)).mp z;omega)
 rw [b2,b3,b4] at e
 obtain ⟨z1,z2,z3,z4⟩:=GY h (show 0<=d by omega) d1
 have eq:frT (wh F (d / pw F) (d%pw F)) (po E F (d / pw F))*pw (-(lo E F))=vl F d*frB (po E F (d / pw F)):=by
  rw [GX h (K2 (by omega)),Ce]
 refine ⟨_,_,e,?_,z2,z3,z4,eq⟩
 have v0:=kN (F:=F) (c:=0) (c':=d) (by omega) d0
 rw [jI] at v0
 have:0<vl F d*frB (po E F (d / pw F)):=Int.mul_pos v0 z2
 rw [<- eq] at this
 exact pos_l this (ai _)
theorem Bf {E F s:Int} (h:Sz E F) (hs:0<=s/\s<=1):∃ n,cS [.tup [.int E,.int F],.int (s*pw (E+F)+0)]=.ok (.tup [.int s,.int 0,.int n]):=by
 have hQ:=ai F
 have hh:=bE h
 obtain ⟨b1,b2,b3,b4⟩:=fL (c:=0) h hs (by omega) (by omega)
 have e:=mI h b1 (by rw [b3];intro z;have:=(lB h (by omega) (by omega)).mp z;omega)
 rw [b2,b3,b4] at e
 have:frT (wh F (0 / pw F) (0%pw F)) (po E F (0 / pw F))=0:=by
  simp only [Int.zero_ediv,Int.zero_emod]
  unfold frT wh
  simp
 rw [this] at e
 exact ⟨_,e⟩
theorem tG {h G:Nat} (hG:30103*h<=100000*G):pw (h:Int)<=(10:Int)^G:=by
 have:=C0 hG
 unfold pw
 rw [Int.toNat_natCast]
 exact_mod_cast this
theorem Fw {h G:Nat} (hh:h<=100000) (hG:100000*(G+1)<=30103*h):(10:Int)^G*2<=pw (h:Int):=by
 have:=CY hh hG
 unfold pw
 rw [Int.toNat_natCast]
 exact_mod_cast this
theorem uK {E F d:Int} (h:Sz E F) (d0:0<d) (d1:d<pw (E+F) - pw F):vl F d<pw 16384*pw (-(lo E F)):=by
 have l:=mq h
 have a:=kN (F:=F) (c:=d) (c':=pw (E+F) - pw F) (by omega) d1
 rw [HF h,cm (Int.le_of_lt (ai _)) (by omega)] at a
 have b:pw (pw (E - 1))<=pw 16384:=d3 (l8 h)
 have:=Int.mul_le_mul_of_nonneg_right b (Int.le_of_lt (ai (-(lo E F))))
 omega
theorem P7 {E F:Int} (h:Sz E F):pw (-(lo E F))<=pw 16500:=d3 (by
 obtain ⟨h1,h2,h3,h4⟩:=id h
 have:=l8 h
 unfold lo
 omega)
theorem EU {E F d t n:Int} (h:Sz E F) (d0:0<d) (d1:d<pw (E+F) - pw F) (W:Vf E F d t n) : -16500<hgt t n/\hgt t n<=16384:=by
 obtain ⟨t0,n0,_,_,e⟩:=W
 obtain ⟨a,b,_,_⟩:=Bb t0 n0
 have hK:=ai (-(lo E F))
 have v0:=kN (F:=F) (c:=0) (c':=d) (by omega) d0
 rw [jI] at v0
 constructor
 ·refine Classical.byContradiction fun z => ?_
  have:=ud n0 a (show hgt t n <= -16500 by omega)
  unfold Lt at this
  rw [show -(-16500:Int)=16500 from rfl,aR (show (-16500:Int)<=0 by decide),Int.mul_one] at this
  have x:=Int.mul_le_mul_of_nonneg_left (P7 h) (Int.le_of_lt t0)
  rw [e] at x
  have y:=Int.mul_le_mul_of_nonneg_right (show 1<=vl F d by omega) (Int.le_of_lt n0)
  omega
 ·refine Classical.byContradiction fun z=>b (ud n0 (p:=16384) ?_ (by omega))
  unfold Lt
  rw [aR (show -(16384:Int)<=0 by decide),Int.mul_one]
  have x:=Int.mul_lt_mul_of_pos_right (uK h d0 d1) n0
  rw [<- e] at x
  refine (bB hK).mp ?_
  calc t*pw (-(lo E F))<pw 16384*pw (-(lo E F))*n:=x
   _=n*pw 16384*pw (-(lo E F)):=by simp only [Int.mul_assoc,Int.mul_comm,Int.mul_left_comm]
theorem zi {E F p:Int} {a b:Nat} (e:(p+9000).toNat=a+b):uT E F p=pw (-(lo E F))*10^a*10^b:=by
 unfold uT
 rw [e,Int.pow_add,Int.mul_assoc]
theorem top_lt {E F d:Int} (h:Sz E F) (d0:0<d) (d1:d<pw (E+F) - pw F):vT F d<uT E F 5500:=by
 have a:=uK h d0 d1
 have b:=tG (h:=16384) (G:=5500) (by decide)
 rw [zi (a:=5500) (b:=9000) rfl]
 unfold vT
 refine Int.mul_lt_mul_of_pos_right ?_ p9
 have c:=Int.mul_le_mul_of_nonneg_left b (Int.le_of_lt (ai (-(lo E F))))
 have e:pw (-(lo E F))*pw ((16384:Nat):Int)=pw 16384*pw (-(lo E F)):=Int.mul_comm _ _
 rw [e] at c
 omega
theorem CZ {E F d t n:Int} (h:Sz E F) (d0:0<d) (d1:d<pw (E+F) - pw F) (W:Vf E F d t n):uT E F (hgt t n*30103 / 100000 - 1)<=vT F d:=by
 obtain ⟨i1,i2⟩:=EU h d0 d1 W
 obtain ⟨t0,n0,_,_,e⟩:=W
 obtain ⟨_,b,_,_⟩:=Bb t0 n0
 have hK:=ai (-(lo E F))
 obtain ⟨G,hG⟩:∃ G,G=hgt t n*30103 / 100000:=⟨_,rfl⟩
 rw [<- hG]
 generalize hgt t n=H at *
 unfold Lt at b
 have b:n*pw (H - 1)<=t*pw (-(H - 1)):=by omega
 suffices hh:n*10^(G+8999).toNat<=t*10^9000 by
  unfold uT vT
  rw [show (G - 1+9000).toNat=(G+8999).toNat by omega]
  generalize (10:Int)^(G+8999).toNat=y at *
  generalize (10:Int)^9000=z at *
  refine Int.le_of_mul_le_mul_right ?_ n0
  calc pw (-(lo E F))*y*n=n*y*pw (-(lo E F)):=by simp only [Int.mul_assoc,Int.mul_comm,Int.mul_left_comm]
   _<=t*z*pw (-(lo E F)):=Int.mul_le_mul_of_nonneg_right hh (Int.le_of_lt hK)
   _=(t*pw (-(lo E F)))*z:=by simp only [Int.mul_assoc,Int.mul_comm,Int.mul_left_comm]
   _=vl F d*z*n:=by rw [e];simp only [Int.mul_assoc,Int.mul_comm,Int.mul_left_comm]
 by_cases g:1<=H
 ·rw [aR (show -(H - 1)<=0 by omega),Int.mul_one] at b
  by_cases g1:1<=G
  ·have x:=Fw (h:=H.toNat) (G:=(G - 1).toNat) (by omega) (by omega)
   rw [show ((H.toNat:Nat):Int)=(H - 1)+1 by omega,cj (by omega)] at x
   rw [show (G+8999).toNat=(G - 1).toNat+9000 by omega,Int.pow_add]
   have p9':=p9
   generalize (10:Int)^9000=z at *
   generalize (10:Int)^(G - 1).toNat=y at *
   rw [<- Int.mul_assoc]
   refine Int.mul_le_mul_of_nonneg_right ?_ (Int.le_of_lt p9')
   exact Int.le_trans (Int.mul_le_mul_of_nonneg_left (show y<=pw (H - 1) by omega) (Int.le_of_lt n0)) b
  ·have g0:G=0:=by omega
   subst g0
   have x:n<=n*pw (H - 1):=by
    have:=Int.mul_le_mul_of_nonneg_left (show 1<=pw (H - 1) by have:=ai (H - 1);omega) (Int.le_of_lt n0)
    omega
   have y:(10:Int)^8999<=10^9000:=by
    rw [show (9000:Nat)=8999+1 from rfl,Int.pow_succ]
    have:=aV 8999
    generalize (10:Int)^8999=z at *
    omega
   have w:=aV 8999
   rw [show ((0:Int)+8999).toNat=8999 from rfl]
   generalize (10:Int)^8999=y1 at *
   generalize (10:Int)^9000=y2 at *
   exact Int.mul_le_mul (by omega) y (Int.le_of_lt w) (Int.le_of_lt t0)
 ·rw [aR (show H - 1<=0 by omega),Int.mul_one] at b
  have x:=tG (h:=(-H).toNat) (G:=(-G).toNat) (by omega)
  rw [show (((-H).toNat:Nat):Int) = -H by omega] at x
  rw [show -(H - 1) = -H+1 by omega,cj (by omega)] at b
  have s:(10:Int)^9000=10^(-G).toNat*10*10^(G+8999).toNat:=by
   rw [<- Int.pow_succ,<-Int.pow_add]
   congr 1
   omega
  rw [s]
  have w:=aV (G+8999).toNat
  have w2:=aV (-G).toNat
  generalize (10:Int)^(G+8999).toNat=y at *
  generalize (10:Int)^(-G).toNat=y2 at *
  rw [<- Int.mul_assoc]
  refine Int.mul_le_mul_of_nonneg_right ?_ (Int.le_of_lt w)
  exact Int.le_trans b (Int.mul_le_mul_of_nonneg_left (by omega) (Int.le_of_lt t0))
theorem oX {E F d t n:Int} (h:Sz E F) (d0:0<d) (d1:d<pw (E+F) - pw F) (W:Vf E F d t n) :
  ∃ g,du [.int t,.int n]=.ok (.int g)/\vT F d<uT E F g/\uT E F (g - 1)<=vT F d /\ -5000<=g/\g<=5500:=by
 obtain ⟨i1,i2⟩:=EU h d0 d1 W
 have gl:=CZ h d0 d1 W
 have tl:=top_lt h d0 d1
 have he:=rO (t:=t) (n:=n) (Nat.le_trans W.nt (by decide)) (Nat.le_trans W.nn (by decide))
 have S:=zQ (E:=E) (F:=F) d0
 have mm:MulOk (hgt t n) 30103:=MulOk.of (a:=20) (b:=15) (iB.mpr (by omega)) (by decide) (by decide)
 unfold du eY
 generalize hw:dn _ _=X
 obtain ⟨δ',e1,⟨g,rfl,g0,g1,g2⟩,e3⟩:=iX (c:=iA (call bA [var 0,var 1,var 2])) (b:=assign 2 (bin aX (var 2) (con (.int 1))))
  (fun δ=>∃ g,δ=[some (.int t),some (.int n),some (.int g)] /\ -5000<=g/\g<=5500/\uT E F (g - 1)<=vT F d) (fun δ=>match δ with | [_,_,some (.int g)]=>(5500 - g).toNat | _=>0) (fun δ ⟨g,e,g0,g1,g2⟩=>by
   subst e
   have q:=xb (p:=g) W (by omega) (by omega)
   by_cases z:vT F d<uT E F g
   ·refine .inl ?_
    simp_arith [q,z]
   ·refine .inr ⟨?_,?_⟩
    ·simp_arith [q,z]
    ·have g3:g<5500:=by
      refine Classical.byContradiction fun y=>z ?_
      rw [show g=5500 by omega]
      exact tl
     refine ⟨[some (.int t),some (.int n),some (.int (g+1))],?_,⟨g+1,rfl,by omega,by omega,by rw [show g+1 - 1=g by omega];omega⟩,?_⟩
     ·simp_arith []
     ·show (5500 - (g+1)).toNat<(5500 - g).toNat
      omega) [some (.int t),some (.int n),some (.int (hgt t n*30103 / 100000))] ⟨_,rfl,by omega,by omega,gl⟩
 rw [hw] at e1
 refine ⟨g,?_,?_,g2,g0,g1⟩
 ·simp_arith [he,ak mm,e1]
 ·have q:=xb (p:=g) W (by omega) (by omega)
  refine Classical.byContradiction fun z => ?_
  revert e3
  simp_arith [q,z]
  try simp
theorem gap {E F d:Int} (h:Sz E F) (d0:0<d):vl F d<=pw (F+2)*(vl F d - vl F (d - 1)):=by
 obtain ⟨_,_,h3,_⟩:=id h
 have hQ:=ai F
 have s:=yV (F:=F) (c:=d - 1) (by omega)
 rw [show d - 1+1=d by omega] at s
 rw [s]
 have q1:=Int.emod_add_mul_ediv d (pw F)
 have q2:=Int.emod_nonneg d (show pw F≠0 by omega)
 have q3:=Int.emod_lt_of_pos d hQ
 have e1:d / pw F - 1<=(d - 1) / pw F:=(Int.le_ediv_iff_mul_le hQ).mpr (by
  rw [Int.sub_mul,Int.one_mul,Int.mul_comm (d / pw F)]
  omega)
 have v:vl F d<=2*pw F*pw (max (d / pw F - 1) 0):=by
  unfold vl
  split
  ·rename_i z
   rw [z] at q1
   have:=Int.mul_le_mul_of_nonneg_left (show 1<=pw (max (d / pw F - 1) 0) by have:=ai (max (d / pw F - 1) 0);omega) (show 0<=2*pw F by omega)
   omega
  ·rename_i z
   have z0:0<=d / pw F:=Int.ediv_nonneg (by omega) (by omega)
   rw [show max (d / pw F - 1) 0=d / pw F - 1 by omega]
   exact Int.mul_le_mul_of_nonneg_right (by omega) (Int.le_of_lt (ai _))
 have u:pw (max (d / pw F - 1) 0)<=2*pw (max ((d - 1) / pw F - 1) 0):=by
  rw [<- cj (by omega)]
  exact d3 (by omega)
 have w:pw (F+2)=4*pw F:=by
  rw [cm (by omega) (by decide),Int.mul_comm]
  rfl
 rw [w]
 generalize pw (max (d / pw F - 1) 0)=a at *
 generalize pw (max ((d - 1) / pw F - 1) 0)=b at *
 have:=Int.mul_le_mul_of_nonneg_left u (show 0<=2*pw F by omega)
 have e2:2*pw F*(2*b)=4*pw F*b:=by rw [<- Int.mul_assoc,Int.mul_right_comm 2 (pw F) 2];rfl
 omega
theorem sure {U:Int->Int} {q V M1 M2 p:Int} {ev:Prop} (S:Sh U q V M1 M2) (hp : -q<=p) (h:2*U p<=2*V - M1):Wn M1 M2 ev (2*(V / U p*U p)):=by
 obtain ⟨a,b,_⟩:=fl (U p) V (S.pos p hp)
 rw [Int.add_mul,Int.one_mul] at b
 have:=S.m2
 exact .inl ⟨by omega,by omega⟩
theorem uI {F d:Int}:2*vT F d - aT F d=(vl F d - vl F (d - 1))*10^9000:=by
 unfold vT aT
 generalize (10:Int)^9000=z
 rw [Int.sub_mul,Int.add_mul]
 omega
theorem CS {E F d:Int} (h:Sz E F) (d0:0<d):2*uT E F (-5501)<=2*vT F d - aT F d:=by
 rw [uI,zi (a:=0) (b:=3499) rfl]
 have v1:=kN (F:=F) (c:=d - 1) (c':=d) (by omega) (by omega)
 have a:=tG (h:=16501) (G:=5501) (by decide)
 have k:=P7 h
 have e:pw ((16501:Nat):Int)=2*pw 16500:=cj (a:=16500) (by decide)
 have s:(10:Int)^9000=10^5501*10^3499:=by rw [<- Int.pow_add]
 have w:=aV 3499
 have w2:=aV 5501
 rw [s]
 generalize (10:Int)^3499=y at *
 generalize (10:Int)^5501=x at *
 rw [Int.pow_zero,Int.mul_one]
 calc 2*(pw (-(lo E F))*y)=(2*pw (-(lo E F)))*y:=(Int.mul_assoc _ _ _).symm
  _<=x*y:=Int.mul_le_mul_of_nonneg_right (by omega) (Int.le_of_lt w)
  _=1*(x*y):=(Int.one_mul _).symm
  _<=(vl F d - vl F (d - 1))*(x*y):=Int.mul_le_mul_of_nonneg_right (by omega) (Int.le_of_lt (Int.mul_pos w2 w))
theorem xN {E F d p:Int} (h:Sz E F) (d0:0<d) (hp : -9000<=p) (hn:¬ 2*uT E F (p+1)<=2*vT F d - aT F d):vT F d / uT E F p+1<=pw 130:=by
 have S:=zQ (E:=E) (F:=F) d0
 have u:=S.up p hp
 have u0:=S.pos p hp
 have g:=gap h d0
 rw [uI] at hn
 have p9':=p9
 have b:vT F d<=pw (F+2)*((vl F d - vl F (d - 1))*10^9000):=by
  unfold vT
  rw [<- Int.mul_assoc]
  exact Int.mul_le_mul_of_nonneg_right g (Int.le_of_lt p9')
 have hw:=ai (F+2)
 have c:pw (F+2)*((vl F d - vl F (d - 1))*10^9000)<pw (F+2)*(2*uT E F (p+1)):=Int.mul_lt_mul_of_pos_left (by omega) hw
 have w:pw (F+2)<=pw 114:=d3 (by have:=h.2.2.2;omega)
 have e:pw (F+2)*(2*uT E F (p+1))=pw (F+2)*20*uT E F p:=by
  rw [u,Int.mul_assoc]
  congr 1
  omega
 have l:vT F d / uT E F p<pw (F+2)*20:=Int.ediv_lt_of_lt_mul u0 (by rw [<- e];omega)
 have k:pw 114*20<=pw 130:=by decide
 omega
noncomputable def outD:Option Int->D
 | none=>.non
 | some f=>.int f
noncomputable def LU (E F d p:Int):Option Int->Prop
 | none=>¬ Wn (aT F d) (bT F d) (d%2=0) (2*(vT F d / uT E F p*uT E F p))/\¬ Wn (aT F d) (bT F d) (d%2=0) (2*((vT F d / uT E F p+1)*uT E F p))
 | some f=>(f=vT F d / uT E F p\/f=vT F d / uT E F p+1)/\Wn (aT F d) (bT F d) (d%2=0) (2*(f*uT E F p)) /\
  (f=vT F d / uT E F p->GF (uT E F) (vT F d) p->¬ Wn (aT F d) (bT F d) (d%2=0) (2*((vT F d / uT E F p+1)*uT E F p))) /\
  (f=vT F d / uT E F p+1->¬ GF (uT E F) (vT F d) p->¬ Wn (aT F d) (bT F d) (d%2=0) (2*(vT F d / uT E F p*uT E F p)))
theorem ye {E F s d t n p:Int} (h:Sz E F) (hs:0<=s/\s<=1) (d0:0<d) (d1:d<pw (E+F) - pw F) (W:Vf E F d t n) (p0 : -9000<=p) (p1:p<=9000) (hl:vT F d / uT E F p+1<=pw 130) :
  ∃ r,bx [.tup [.int E,.int F],.int (s*pw (E+F)+d),.int p,.tup [.int (tnT t (-p)),.int (tnB n (-p))]]=.ok (outD r)/\LU E F d p r:=by
 have u0:=DX (E:=E) (F:=F) (p:=p)
 have v0:0<=vT F d:=Int.mul_nonneg (qx (by omega)).1 (Int.le_of_lt p9)
 have l0:0<=vT F d / uT E F p:=Int.ediv_nonneg v0 (Int.le_of_lt u0)
 obtain ⟨b0,q1,_,q3,q4⟩:=vy W p0 p1
 obtain ⟨z1,_,z3,z4⟩:=lQ (t:=t) (n:=n) (p := -p) (by omega) (by omega) (Int.le_of_lt W.t0) W.n0 (Nat.le_trans W.nt (by decide)) (Nat.le_trans W.nn (by decide))
 generalize hL:vT F d / uT E F p=l at *
 have nl:nb l<=131:=bS l0 (by have:pw 130=2^130:=rfl;omega)
 have nl1:nb (l+1)<=131:=bS (by omega) (by have:pw 130=2^130:=rfl;omega)
 obtain ⟨k1,r1,w1⟩:=vq (f:=l) h hs d0 d1 l0 (Nat.le_trans nl (by decide)) p0 p1
 obtain ⟨k2,r2,w2⟩:=vq (f:=l+1) h hs d0 d1 (by omega) (Nat.le_trans nl1 (by decide)) p0 p1
 unfold bx de
 generalize tnT t (-p)=a at *
 generalize tnB n (-p)=b at *
 have hd:ie a b:=uc (K:=l+1) (m:=131) z1 b0 nl1 (by decide) (by
  have:=fl b a b0
  rw [q1] at this
  exact this.2.1)
 have nm:nb (a%b)<=1000000:=wq b0 z4
 have mm:MulOk 2 (a%b):=by walk_at "mul"
 have hmod:oMod (.int a) (.int b)=.ok (.int (a%b)):=mf b0
 obtain ⟨gf,hg,hG⟩:∃ gf:Bool,(or_ (bin oGt (var 5) (bin oIx (var 3) (con (.int 1)))) (bQ (bin oEq (var 5) (bin oIx (var 3) (con (.int 1)))) (bin oEq (bin mh (var 4) (con (.int 1))) (con (.int 1)))))
   [some (.tup [.int E,.int F]),some (.int (s*pw (E+F)+d)),some (.int p),some (.tup [.int a,.int b]),some (.int l),some (.int (2*(a%b))),none,none,none]=.ok (.bl gf)/\(gf=true↔GF (uT E F) (vT F d) p):=by
  unfold GF
  rw [hL]
  by_cases c1:2*(a%b)>b
  ·exact ⟨true,by simp_arith [c1],by simp;exact .inl (q3.mp c1)⟩
  ·by_cases c2:2*(a%b)=b
   ·by_cases c3:l%2=1
    ·exact ⟨true,by simp_arith [show ¬ b>b by omega,c2,fH l0,c3],by simp;exact .inr ⟨q4.mp c2,c3⟩⟩
    ·refine ⟨false,by simp_arith [show ¬ b>b by omega,c2,fH l0,c3],?_⟩
     simp only [Bool.false_eq_true,false_iff]
     rintro (z | ⟨_,z⟩)
     ·exact c1 (q3.mpr z)
     ·exact c3 z
   ·refine ⟨false,by simp_arith [c1,c2],?_⟩
    simp only [Bool.false_eq_true,false_iff]
    rintro (z | ⟨z,_⟩)
    ·exact c1 (q3.mpr z)
    ·exact c2 (q4.mpr z)
 unfold LU
 rw [hL]
 generalize hor:or_ (bin oGt (var 5) (bin oIx (var 3) (con (.int 1)))) _=O at *
 generalize htl:seq (EX 8 _ _) _=tl
 have et:∀ (x y:Int) (kx ky:Bool),bc [.tup [.int E,.int F],.int (s*pw (E+F)+d),.int x,.int p]=.ok (.bl kx)->bc [.tup [.int E,.int F],.int (s*pw (E+F)+d),.int y,.int p]=.ok (.bl ky) ->
   tl [some (.tup [.int E,.int F]),some (.int (s*pw (E+F)+d)),some (.int p),some (.tup [.int a,.int b]),some (.int l),some (.int (2*(a%b))),some (.bl gf),some (.lst [.int x,.int y]),none]=.rt (outD (if kx=true then some x else if ky=true then some y else none)):=by
  intro x y kx ky hx hy
  subst htl
  clear hd hmod mm hg r1 r2 w1 w2
  cases kx with
  | true=>simp_arith [d8,pZ,hx];rfl
  | false =>
   cases ky with
   | true=>simp_arith [d8,pZ,hx,hy];rfl
   | false=>simp_arith [d8,pZ,hx,hy];rfl
 cases gf with
 | true =>
  have hG:=hG.mp rfl
  cases k2 with
  | true =>
   refine ⟨some (l+1),?_,.inr rfl,w2.mp rfl,fun z=>by omega,fun _ z=>absurd hG z⟩
   simp_arith [cT hd,q1,hmod,ak mm,hg,et _ _ _ _ r2 r1]
  | false =>
   have w2:¬ _:=fun z=>Bool.false_ne_true (w2.mpr z)
   cases k1 with
   | true =>
    refine ⟨some l,?_,.inl rfl,w1.mp rfl,fun _ _=>w2,fun z=>by omega⟩
    simp_arith [cT hd,q1,hmod,ak mm,hg,et _ _ _ _ r2 r1]
   | false =>
    refine ⟨none,?_,fun z=>Bool.false_ne_true (w1.mpr z),w2⟩
    simp_arith [cT hd,q1,hmod,ak mm,hg,et _ _ _ _ r2 r1]
 | false =>
  have hG:¬ _:=fun z=>Bool.false_ne_true (hG.mpr z)
  cases k1 with
  | true =>
   refine ⟨some l,?_,.inl rfl,w1.mp rfl,fun _ z=>absurd z hG,fun z=>by omega⟩
   simp_arith [cT hd,q1,hmod,ak mm,hg,et _ _ _ _ r1 r2]
  | false =>
   have w1:¬ _:=fun z=>Bool.false_ne_true (w1.mpr z)
   cases k2 with
   | true =>
    refine ⟨some (l+1),?_,.inr rfl,w2.mp rfl,fun z=>by omega,fun _ _=>w1⟩
    simp_arith [cT hd,q1,hmod,ak mm,hg,et _ _ _ _ r1 r2]
   | false =>
    refine ⟨none,?_,w1,fun z=>Bool.false_ne_true (w2.mpr z)⟩
    simp_arith [cT hd,q1,hmod,ak mm,hg,et _ _ _ _ r1 r2]
theorem Hj {s f0 p0:Int} (h:0<f0):∃ f,∃ k:Nat,bL [.int s,.int f0,.int p0]=.ok (.tup [.int s,.int f,.int (p0+k)])/\f0=f*10^k/\f%10≠0:=by
 unfold bL cH
 generalize hw:dn _ _=X
 obtain ⟨δ',e1,⟨f,k,rfl,ef,f1⟩,e3⟩:=iX (c:=bin oEq (bin oMod (var 1) (con (.int 10))) (con (.int 0))) (b:=seq (assign 1 (bin oDiv (var 1) (con (.int 10)))) (assign 2 (bin aX (var 2) (con (.int 1)))))
  (fun δ=>∃ f,∃ k:Nat,δ=[some (.int s),some (.int f),some (.int (p0+k))]/\f0=f*10^k/\0<f) (fun δ=>match δ with | [_,some (.int f),_]=>f.toNat | _=>0) (fun δ ⟨f,k,e,ef,f1⟩=>by
   subst e
   by_cases z:f%10=0
   ·refine .inr ⟨?_,[some (.int s),some (.int (f / 10)),some (.int (p0+k+1))],?_,⟨f / 10,k+1,by rw [show p0+((k+1:Nat):Int)=p0+k+1 by omega],?_,by omega⟩,?_⟩
    ·simp_arith [eq_true z]
    ·simp_arith []
    ·rw [ef,Int.pow_succ,Int.mul_comm (10^k) 10,<-Int.mul_assoc,show f / 10*10=f by omega]
    ·show (f / 10).toNat<f.toNat
     omega
   ·refine .inl ?_
    simp_arith [z]) [some (.int s),some (.int f0),some (.int p0)] ⟨f0,0,by simp,by simp,h⟩
 rw [hw] at e1
 refine ⟨f,k,?_,ef,?_⟩
 ·simp_arith [e1]
 ·intro z
  revert e3
  simp_arith [eq_true z]
  try simp
theorem tN {E F s d:Int} (h:Sz E F) (hs:0<=s/\s<=1) (d0:0<d) (d1:d<pw (E+F) - pw F) :
  ∃ f p g p0 f0,∃ k:Nat,cR [.tup [.int E,.int F],.int (s*pw (E+F)+d)]=.ok (.tup [.int s,.int f,.int p])/\Got (uT E F) 9000 (vT F d) (aT F d) (bT F d) (d%2=0) g p0 f0 /\
   f0=f*10^k/\p=p0+k/\f%10≠0/\f0<=pw 130 /\ -5501<=p0/\g<=5500:=by
 obtain ⟨t,n,ef,W⟩:=GW h hs d0 d1
 obtain ⟨g,eg,g1,g2,g3,g4⟩:=oX h d0 d1 W
 have S:=zQ (E:=E) (F:=F) d0
 have ls:=CS h d0
 have t0:=W.t0
 unfold cR fK
 generalize hw:dn _ _=X
 obtain ⟨δ',e1,⟨P,fg,z5,rfl,hI⟩,e3⟩:=iX (c:=un AE (var 4)) (b:=seq (assign 3 (bin cM (var 3) (con (.int 1)))) (seq (assign 5 (call br [bin oIx (var 2) (con (.int 1)),bin oIx (var 2) (con (.int 2)),un lA (var 3)])) (assign 4 (call bx [var 0,var 1,var 3,var 5]))))
  (fun δ=>∃ P fg z5,δ=[some (.tup [.int E,.int F]),some (.int (s*pw (E+F)+d)),some (.tup [.int s,.int t,.int n]),some (.int P),some (outD fg),z5] /\
   match fg with
   | none => -5500<=P/\P<=g/\∀ p,P<=p->p<=g - 1->LU E F d p none
   | some f0=>Got (uT E F) 9000 (vT F d) (aT F d) (bT F d) (d%2=0) g P f0/\f0<=pw 130 /\ -5501<=P)
  (fun δ=>match δ with | [_,_,_,some (.int P),some .non,_]=>(P+6000).toNat | _=>0) (fun δ ⟨P,fg,z5,e,hI⟩=>by
   subst e
   cases fg with
   | some f0 =>
    refine .inl ?_
    unfold outD
    simp_arith []
   | none =>
    obtain ⟨a1,a2,a3⟩:=hI
    have hl:vT F d / uT E F (P - 1)+1<=pw 130:=by
     by_cases z:P=g
     ·rw [z]
      have u:=S.up (g - 1) (by omega)
      rw [show g - 1+1=g by omega] at u
      have:vT F d / uT E F (g - 1)<10:=Int.ediv_lt_of_lt_mul (S.pos _ (by omega)) (by rw [<- u];exact g1)
      have:(11:Int)<=pw 130:=by decide
      omega
     ·refine xN h d0 (by omega) ?_
      rw [show P - 1+1=P by omega]
      exact fun y=>(a3 P (by omega) (by omega)).1 (sure S (by omega) y)
    obtain ⟨r,er,hr⟩:=ye (p:=P - 1) h hs d0 d1 W (by omega) (by omega) hl
    have et:=ig (t:=t) (n:=n) (p := -(P - 1)) (by omega) (by omega) (Nat.le_trans W.nt (by decide)) (Nat.le_trans W.nn (by decide))
    refine .inr ⟨?_,[some (.tup [.int E,.int F]),some (.int (s*pw (E+F)+d)),some (.tup [.int s,.int t,.int n]),some (.int (P - 1)),some (outD r),some (.tup [.int (tnT t (-(P - 1))),.int (tnB n (-(P - 1)))])],?_,⟨P - 1,r,_,rfl,?_⟩,?_⟩
    ·unfold outD
     simp_arith []
    ·simp_arith [et,er]
    ·cases r with
     | none =>
      refine ⟨?_,by omega,fun p q1 q2 => ?_⟩
      ·refine Classical.byContradiction fun y => ?_
       have e:P - 1 = -5501:=by omega
       rw [e] at hr
       exact hr.1 (sure S (by decide) ls)
      ·rcases Int.lt_or_eq_of_le q1 with y | y
       ·exact a3 p (by omega) q2
       ·rw [<- y];exact hr
     | some f0 =>
      obtain ⟨r1,r2,r3,r4⟩:=hr
      refine ⟨⟨g1,g2,by omega,by omega,r1,r2,fun p q1 q2=>a3 p (by omega) q2,r3,r4⟩,?_,by omega⟩
      rcases r1 with y | y<;>omega
    ·cases r with
     | none =>
      show (P - 1+6000).toNat<(P+6000).toNat
      omega
     | some f0 =>
      show 0<(P+6000).toNat
      omega) [some (.tup [.int E,.int F]),some (.int (s*pw (E+F)+d)),some (.tup [.int s,.int t,.int n]),some (.int g),some .non,none] ⟨g,none,none,rfl,by omega,by omega,fun p q1 q2=>by omega⟩
 rw [hw] at e1
 cases fg with
 | none =>
  exfalso
  revert e3
  unfold outD
  simp_arith []
  try simp
 | some f0 =>
  obtain ⟨G,fb,Pb⟩:=hI
  obtain ⟨f,k,eb,f1,f2⟩:=Hj (s:=s) (p0:=P) (G.pos S)
  refine ⟨f,P+k,g,P,f0,k,?_,G,f1,rfl,f2,fb,Pb,g4⟩
  unfold outD at e1
  simp_arith [ef,eg,show ¬ t=0 by omega,e1,eb]
theorem c45:PySem.Str.ofString "-"=st [45]:=by decide
theorem c48:PySem.Str.ofString "0"=st [48]:=by decide
theorem c46:PySem.Str.ofString "."=st [46]:=by decide
theorem SH:PySem.Str.ofString "0."=st [48,46]:=by decide
theorem Kp:PySem.Str.ofString "e"=st [101]:=by decide
theorem c00:PySem.Str.ofString ""=st []:=by decide
theorem LH {f:Int} (f0:0<=f) (f1:f<1000000000000000000000000000000000000000000000000000000000000):nW [.int f]=.ok (.str (st (dg f.toNat)))/\0<(dg f.toNat).length/\(dg f.toNat).length<=60 :=
 ⟨mR f0 (Nat.le_trans (iB (k:=200).mpr (by omega)) (by decide)),E8 _,(km (by decide)).mpr (by omega)⟩
noncomputable def ap (a b:List Nat):List Nat:=a++b
theorem aP {a b:List Nat}:(ap a b).length=a.length+b.length:=List.length_append
theorem aJ {a b:List Nat} (h:a.length+b.length<=1000000):aX (.str (st a)) (.str (st b))=.ok (.str (st (ap a b))):=ub h
theorem PJ {l:List Nat} (l0:0<l.length) (l1:l.length<=1000000):oIx (.str (st l)) (.int 0)=.ok (.str (st (l.take 1))):=by
 cases l with
 | nil=>cases l0
 | cons c r=>exact Lu l1
noncomputable def iY (l e:List Nat):List Nat:=ap (ap (ap (l.take 1) (if l.length>1 then ap [46] (l.drop 1) else [])) [101]) e
theorem Ci {l e:List Nat} {t:Int} (l0:0<l.length) (l1:l.length<=60) (he:nW [.int t]=.ok (.str (st e))) (e1:e.length<=100) :
  dB [.str (st l),.int t]=.ok (.str (st (iY l e))):=by
 have t1:(l.take 1).length<=60:=by rw [List.length_take];omega
 have t2:(l.drop 1).length<=60:=by rw [List.length_drop];omega
 have z46:([46]:List Nat).length=1:=rfl
 have z101:([101]:List Nat).length=1:=rfl
 have b1:=qG (a:=l) (k:=1) (by decide) (by omega) (by omega)
 rw [show (1:Int).toNat=1 from rfl] at b1
 have b2:=PJ l0 (by omega)
 unfold dB fq iY
 by_cases g:(l.length:Int)>1
 ·rw [if_pos (by omega)]
  have a1:=aJ (a:=[46]) (b:=l.drop 1) (by omega)
  have a2:=aJ (a:=l.take 1) (b:=ap [46] (l.drop 1)) (by rw [aP];omega)
  have a3:=aJ (a:=ap (l.take 1) (ap [46] (l.drop 1))) (b:=[101]) (by rw [aP,aP];omega)
  have a4:=aJ (a:=ap (ap (l.take 1) (ap [46] (l.drop 1))) [101]) (b:=e) (by rw [aP,aP,aP];omega)
  generalize l.drop 1=l2 at *
  generalize l.take 1=l3 at *
  simp_arith [bF (a:=l) (by omega),g,j7,dt,b1,c46,Kp,c00,a1,b2,a2,a3,he,a4]
 ·rw [if_neg (by omega)]
  have a2:=aJ (a:=l.take 1) (b:=[]) (by rw [List.length_nil];omega)
  have a3:=aJ (a:=ap (l.take 1) []) (b:=[101]) (by rw [aP,List.length_nil];omega)
  have a4:=aJ (a:=ap (ap (l.take 1) []) [101]) (b:=e) (by rw [aP,aP,List.length_nil];omega)
  generalize l.take 1=l3 at *
  simp_arith [bF (a:=l) (by omega),g,c46,Kp,c00,b2,a2,a3,he,a4]
noncomputable def kS (l:List Nat) (p t:Int):List Nat:=if 0<=p then ap l (List.replicate p.toNat 48) else if 0<=t then ap (ap (l.take (t+1).toNat) [46]) (l.drop (t+1).toNat) else ap (ap [48,46] (List.replicate (-t - 1).toNat 48)) l
theorem GV {l:List Nat} {p t:Int} (l0:0<l.length) (l1:l.length<=60) (et:t=p+l.length - 1) (t0 : -5<=t) (t1:t<=20) :
  bV [.str (st l),.int p,.int t]=.ok (.str (st (kS l p t))):=by
 have z46:([46]:List Nat).length=1:=rfl
 have z48:([48,46]:List Nat).length=2:=rfl
 unfold bV dj kS
 by_cases g:0<=p
 ·have a1:=aJ (a:=l) (b:=List.replicate p.toNat 48) (by rw [List.length_replicate];omega)
  rw [if_pos g]
  have r:=Em (n:=p) (by omega) (by omega)
  generalize List.replicate p.toNat 48=x at *
  simp_arith [g,c48,r,a1]
 ·rw [if_neg g]
  by_cases g2:0<=t
  ·rw [if_pos g2]
   have b1:=KR (a:=l) (k:=t+1) (by omega) (by omega) (by omega)
   have b2:=qG (a:=l) (k:=t+1) (by omega) (by omega) (by omega)
   have t1:(l.take (t+1).toNat).length<=60:=by rw [List.length_take];omega
   have t2:(l.drop (t+1).toNat).length<=60:=by rw [List.length_drop];omega
   generalize l.take (t+1).toNat=x at *
   generalize l.drop (t+1).toNat=y at *
   have a1:=aJ (a:=x) (b:=[46]) (by omega)
   have a2:=aJ (a:=ap x [46]) (b:=y) (by rw [aP];omega)
   simp_arith [show ¬ p>=0 from g,show t>=0 from g2,j7,dt,b1,b2,c46,a1,a2]
  ·rw [if_neg g2]
   have r:=Em (n := -t - 1) (by omega) (by omega)
   have t1:(List.replicate (-t - 1).toNat 48).length<=60:=by rw [List.length_replicate];omega
   generalize List.replicate (-t - 1).toNat 48=x at *
   have a1:=aJ (a:=[48,46]) (b:=x) (by omega)
   have a2:=aJ (a:=ap [48,46] x) (b:=l) (by rw [aP];omega)
   simp_arith [show ¬ p>=0 from g,show ¬ t>=0 from g2,SH,c48,r,a1,a2]
theorem Am {k r:Nat} (h:r<10^k) (hk:0<k):(pad k r).length=k:=by
 unfold pad
 rw [List.length_append,List.length_replicate]
 have:=(km (n:=r) hk).mpr h
 omega
theorem CC {k:Nat} (hk:0<k):pad k 0=List.replicate k 48:=by
 unfold pad
 rw [cK (by decide)]
 obtain ⟨j,rfl⟩:∃ j,k=j+1:=⟨k - 1,by omega⟩
 rw [List.replicate_succ']
 rfl
theorem GK {s f p:Int} {h e:List Nat} (eh:h=if s=1 then [45] else []) (f0:0<f) (f1:f<1000000000000000000000000000000000000000000000000000000000000) (he:nW [.int (p+(dg f.toNat).length - 1)]=.ok (.str (st e))) (e1:e.length<=100) (p0 : -9100<=p) (p1:p<=9100) :
  ka [.int s,.int f,.int p]=.ok (.str (st (ap h (if -5<=p+(dg f.toNat).length - 1/\p+(dg f.toNat).length - 1<=20 then kS (dg f.toNat) p (p+(dg f.toNat).length - 1) else iY (dg f.toNat) e)))):=by
 obtain ⟨es,l0,l1⟩:=LH (Int.le_of_lt f0) f1
 have hl:h.length<=1:=by rw [eh];split<;>decide
 generalize dg f.toNat=l at *
 unfold ka rP
 have so:=Ci (t:=p+l.length - 1) l0 l1 he e1
 have sl:(iY l e).length<=300:=by
  unfold iY
  simp only [aP,List.length_take]
  split
  ·simp only [aP,List.length_drop,List.length_cons,List.length_nil];omega
  ·simp only [List.length_cons,List.length_nil];omega
 generalize hT:p+(l.length:Int) - 1=T at *
 by_cases g : -5<=T/\T<=20
 ·rw [if_pos g]
  have fo:=GV (p:=p) l0 l1 hT.symm g.1 g.2
  have fl:(kS l p T).length<=300:=by
   unfold kS
   split
   ·simp only [aP,List.length_replicate];omega
   ·split
    ·simp only [aP,List.length_take,List.length_drop,List.length_cons,List.length_nil];omega
    ·simp only [aP,List.length_replicate,List.length_cons,List.length_nil];omega
  generalize kS l p T=X at *
  have a:=aJ (a:=h) (b:=X) (by omega)
  by_cases gs:s=1
  ·rw [if_pos gs] at eh
   subst eh
   simp_arith [eq_true gs,c45,c00,show ¬ f=0 by omega,es,bF (a:=l) (by omega),hT,g.1,g.2,fo,a]
  ·rw [if_neg gs] at eh
   subst eh
   simp_arith [gs,c45,c00,show ¬ f=0 by omega,es,bF (a:=l) (by omega),hT,g.1,g.2,fo,a]
 ·rw [if_neg g]
  generalize iY l e=X at *
  have a:=aJ (a:=h) (b:=X) (by omega)
  have gg:¬ -5<=T\/(-5<=T/\¬ T<=20):=by omega
  rcases gg with g1 | ⟨g1,g2⟩
  ·by_cases gs:s=1
   ·rw [if_pos gs] at eh
    subst eh
    simp_arith [eq_true gs,c45,c00,show ¬ f=0 by omega,es,bF (a:=l) (by omega),hT,g1,so,a]
   ·rw [if_neg gs] at eh
    subst eh
    simp_arith [gs,c45,c00,show ¬ f=0 by omega,es,bF (a:=l) (by omega),hT,g1,so,a]
  ·by_cases gs:s=1
   ·rw [if_pos gs] at eh
    subst eh
    simp_arith [eq_true gs,c45,c00,show ¬ f=0 by omega,es,bF (a:=l) (by omega),hT,g1,g2,so,a]
   ·rw [if_neg gs] at eh
    subst eh
    simp_arith [gs,c45,c00,show ¬ f=0 by omega,es,bF (a:=l) (by omega),hT,g1,g2,so,a]
theorem mv {E F s c:Int} (h:Sz E F) (hs:0<=s/\s<=1) (c0:0<=c) (c1:c<pw (E+F)):ou [.tup [.int E,.int F],.int (s*pw (E+F)+c)]=.ok (.str (kindS E (c / pw F) (c%pw F))):=by
 obtain ⟨b1,b2,b3,b4⟩:=fL h hs c0 c1
 have:=GL h b1
 rw [b3,b4] at this
 exact this
theorem shown_none {E F s c:Int} (h:Sz E F) (hs:0<=s/\s<=1) (c0:pw (E+F) - pw F<c) (c1:c<pw (E+F)):ck [.tup [.int E,.int F],.int (s*pw (E+F)+c)]=.ok (.str "none"):=by
 have h5:=bE h
 have hQ:=ai F
 have e:=mv (c:=c) h hs (by omega) c1
 rw [(gW (c:=c) h (by omega) c1).1 c0] at e
 unfold ck gZ
 simp_arith [e]
theorem xQ {E F:Int} (h:Sz E F):ck [.tup [.int E,.int F],.int ((pw E - 1)*pw F)]=.ok (.str "endless"):=by
 have h5:=bE h
 have hQ:=ai F
 have eM:=end_is h
 have e:=mv (s:=0) (c:=(pw E - 1)*pw F) h (by decide) (by omega) (by omega)
 rw [(gW (c:=(pw E - 1)*pw F) h (by omega) (by omega)).2.1 eM,Int.zero_mul,Int.zero_add] at e
 unfold ck gZ
 simp_arith [e,bD h,show ¬ (pw E - 1)*pw F<(pw E - 1)*pw F by omega]
theorem xP {E F:Int} (h:Sz E F):ck [.tup [.int E,.int F],.int (pw (E+F)+(pw E - 1)*pw F)]=.ok (.str "-endless"):=by
 have h5:=bE h
 have hQ:=ai F
 have eM:=end_is h
 have e:=mv (s:=1) (c:=(pw E - 1)*pw F) h (by decide) (by omega) (by omega)
 rw [(gW (c:=(pw E - 1)*pw F) h (by omega) (by omega)).2.1 eM,Int.one_mul] at e
 unfold ck gZ
 simp_arith [e,bD h,show (pw E - 1)*pw F<pw (E+F)+(pw E - 1)*pw F by omega]
theorem xR {E F s:Int} (h:Sz E F) (hs:0<=s/\s<=1):cR [.tup [.int E,.int F],.int (s*pw (E+F)+0)]=.ok (.tup [.int s,.int 0,.int 0]):=by
 obtain ⟨n,e⟩:=Bf h hs
 unfold cR fK
 generalize dn _ _=X
 simp_arith [e]
theorem xO {E F s:Int} {hd:List Nat} (h:Sz E F) (hs:0<=s/\s<=1) (eh:hd=if s=1 then [45] else []):ck [.tup [.int E,.int F],.int (s*pw (E+F)+0)]=.ok (.str (st (ap hd [48]))):=by
 have h5:=bE h
 have hQ:=ai F
 have e:=mv (c:=0) h hs (by omega) (by omega)
 rw [(gW (c:=0) h (by omega) (by omega)).2.2.1 rfl] at e
 have la:ka [.int s,.int 0,.int 0]=.ok (.str (st (ap hd [48]))):=by
  have hl:hd.length<=1:=by rw [eh];split<;>decide
  have a:=aJ (a:=hd) (b:=[48]) (by rw [show ([48]:List Nat).length=1 from rfl];omega)
  unfold ka rP
  by_cases gs:s=1
  ·rw [if_pos gs] at eh
   subst eh
   simp_arith [eq_true gs,c45,c00,c48,a]
  ·rw [if_neg gs] at eh
   subst eh
   simp_arith [gs,c45,c00,c48,a]
 have sz:=xR h hs
 generalize s*pw (E+F)+0=b at *
 unfold ck gZ
 simp_arith [e,sz,la]
theorem En {n:Int} (h0:0<=n) (h1:n<=20000):ar 20 [.int n]=.ok (.int (10^n.toNat))/\nb ((10:Int)^n.toNat)<=80001:=by
 have hp:pw ((19:Nat):Int)=524288:=rfl
 exact ⟨iv 19 n h0 (by omega) (by omega),Nat.le_trans (kd n.toNat) (by omega)⟩
theorem Kw {f p:Int} (f0:0<f) (p0:0<=p):dg (f*10^p.toNat).toNat=ap (dg f.toNat) (List.replicate p.toNat 48):=by
 have e:(f*10^p.toNat).toNat=f.toNat*10^p.toNat:=by
  obtain ⟨n,rfl⟩:=Int.eq_ofNat_of_zero_le (Int.le_of_lt f0)
  rw [show ((n:Int)*10^p.toNat)=((n*10^p.toNat:Nat):Int) by simp]
  rfl
 unfold ap
 rw [e]
 by_cases g:p.toNat=0
 ·rw [g];simp
 ·have:=p7 (q:=f.toNat) (by omega) p.toNat 0 (by omega) (Nat.pow_pos (by decide))
  rw [Nat.add_zero] at this
  rw [this,CC (by omega)]
theorem LG {f p:Int} (f0:0<f) (p0:p<0):kS (dg f.toNat) p (p+(dg f.toNat).length - 1)=ap (ap (dg (f / 10^(-p).toNat).toNat) [46]) (pad (-p).toNat (f%10^(-p).toNat).toNat):=by
 obtain ⟨n,rfl⟩:=Int.eq_ofNat_of_zero_le (Int.le_of_lt f0)
 have ku:0<(-p).toNat:=by omega
 generalize hk:(-p).toNat=k at *
 have hu:0<10^k:=Nat.pow_pos (by decide)
 have e1:(((n:Int)) / 10^k).toNat=n / 10^k:=by
  rw [show ((n:Int)) / 10^k=((n / 10^k:Nat):Int) by simp];rfl
 have e2:(((n:Int))%10^k).toNat=n%10^k:=by
  rw [show ((n:Int))%10^k=((n%10^k:Nat):Int) by simp];rfl
 rw [e1,e2,Int.toNat_natCast]
 have hr:=Nat.mod_lt n hu
 have hd:=Nat.div_add_mod n (10^k)
 unfold kS
 rw [if_neg (by omega)]
 by_cases g:0<=p+((dg n).length:Int) - 1
 ·rw [if_pos g]
  have q0:0<n / 10^k:=by
   refine Nat.div_pos ?_ hu
   refine Classical.byContradiction fun z => ?_
   have:=(km (n:=n) ku).mpr (by omega)
   omega
  have s:=p7 q0 k (n%10^k) ku hr
  rw [Nat.mul_comm,hd] at s
  have pl:=Am hr ku
  have ln:(dg n).length=(dg (n / 10^k)).length+k:=by rw [s,List.length_append,pl]
  have et:(p+((dg n).length:Int) - 1+1).toNat=(dg (n / 10^k)).length:=by omega
  rw [et,s]
  unfold ap
  rw [List.take_left,List.drop_left]
 ·rw [if_neg g]
  have lt:n<10^k:=(km ku).mp (by omega)
  rw [Nat.div_eq_of_lt lt,Nat.mod_eq_of_lt lt,cK (n:=0) (by decide)]
  unfold ap pad
  rw [show (-(p+((dg n).length:Int) - 1) - 1).toNat=k - (dg n).length by omega]
  simp
theorem A0 {s f p:Int} {h e:List Nat} (hh:oIx (.lst [.str (st []),.str (st [45])]) (.int s)=.ok (.str (st h))) (hl:h.length<=1) (f0:0<f) (f1:f<1000000000000000000000000000000000000000000000000000000000000) (he:nW [.int (p+(dg f.toNat).length - 1)]=.ok (.str (st e))) (e1:e.length<=100) (p0 : -9100<=p) (p1:p<=9100) :
  bK [.int s,.int f,.int p]=.ok (.str (st (ap h (if -5<=p+(dg f.toNat).length - 1/\p+(dg f.toNat).length - 1<=20 then kS (dg f.toNat) p (p+(dg f.toNat).length - 1) else iY (dg f.toNat) e)))):=by
 obtain ⟨es,l0,l1⟩:=LH (Int.le_of_lt f0) f1
 have nf:nb f<=200:=iB.mpr (by omega)
 have ui:=fun g=>Kw (p:=p) f0 g
 have di:=fun g=>LG (p:=p) f0 g
 unfold bK fj
 by_cases g : -5<=p+((dg f.toNat).length:Int) - 1/\p+((dg f.toNat).length:Int) - 1<=20
 ·rw [if_pos g]
  by_cases gp:0<=p
  ·obtain ⟨ew,_⟩:=En (n:=p) gp (by omega)
   have nw:nb ((10:Int)^p.toNat)<=1000:=Nat.le_trans (kd _) (by omega)
   have x0:=aV p.toNat
   have ui:=ui gp
   have m:MulOk f (10^p.toNat):=MulOk.of nf nw (by decide)
   have b:=mR (i:=f*10^p.toNat) (Int.mul_nonneg (Int.le_of_lt f0) (Int.le_of_lt x0)) (Nat.le_trans (eV nf nw) (by decide))
   rw [ui] at b
   have fe:kS (dg f.toNat) p (p+((dg f.toNat).length:Int) - 1)=ap (dg f.toNat) (List.replicate p.toNat 48):=by unfold kS;rw [if_pos gp]
   rw [fe]
   have a:=aJ (a:=h) (b:=ap (dg f.toNat) (List.replicate p.toNat 48)) (by rw [aP,List.length_replicate];omega)
   generalize ap (dg f.toNat) (List.replicate p.toNat 48)=X at *
   generalize dg f.toNat=l at *
   generalize ar 20=A at *
   generalize (10:Int)^p.toNat=w at *
   simp_arith [c45,c00,hh,show ¬ f=0 by omega,es,bF (a:=l) (by omega),g.1,g.2,gp,ew,ak m,b,a]
  ·obtain ⟨ew,_⟩:=En (n := -p) (by omega) (by omega)
   have nw:nb ((10:Int)^(-p).toNat)<=1000:=Nat.le_trans (kd _) (by omega)
   have x0:=aV (-p).toNat
   have m0:=Int.emod_nonneg f (show (10:Int)^(-p).toNat≠0 by omega)
   have m1:=Int.emod_lt_of_pos f x0
   rw [di (by omega)]
   have b1:=mR (i:=f / 10^(-p).toNat) (Int.ediv_nonneg (Int.le_of_lt f0) (Int.le_of_lt x0)) (Nat.le_trans (wt x0 nf) (by decide))
   have b2:=mR (i:=f%10^(-p).toNat) m0 (Nat.le_trans (wq x0 nw) (by decide))
   have rl:(f%10^(-p).toNat).toNat<10^(-p).toNat:=by
    have:(((10:Nat)^(-p).toNat:Nat):Int)=10^(-p).toNat:=by simp
    omega
   have lr:=(km (n:=(f%10^(-p).toNat).toNat) (k:=(-p).toNat) (by omega)).mpr rl
   have zz:=Kt (r:=(f%10^(-p).toNat).toNat) (k := -p) (by omega) (by omega) (by omega)
   have pl:=Am rl (by omega)
   have l2:(dg (f / 10^(-p).toNat).toNat).length<=60:=by
    refine (km (by decide)).mpr ?_
    have:=Int.ediv_le_self (10^(-p).toNat) (Int.le_of_lt f0)
    omega
   generalize pad (-p).toNat (f%10^(-p).toNat).toNat=Z at *
   generalize dg (f / 10^(-p).toNat).toNat=Y at *
   have z46:([46]:List Nat).length=1:=rfl
   have a1:=aJ (a:=h) (b:=Y) (by omega)
   have a2:=aJ (a:=ap h Y) (b:=[46]) (by rw [aP];omega)
   have a3:=aJ (a:=ap (ap h Y) [46]) (b:=Z) (by rw [aP,aP];omega)
   have dv:ie f (10^(-p).toNat):=ie.small x0 (Nat.le_trans nw (by decide))
   have hm:=mf (i:=f) x0
   generalize dg f.toNat=l at *
   generalize ar 20=A at *
   generalize (10:Int)^(-p).toNat=w at *
   generalize hq:f / w=q1 at *
   generalize hr:f%w=q2 at *
   generalize dg q2.toNat=l4 at *
   simp_arith [c45,c00,c46,hh,show ¬ f=0 by omega,es,bF (a:=l) (by omega),g.1,g.2,show ¬ p>=0 from gp,ew,cT dv,hq,b1,a1,a2,hm,b2,yA,zz,a3]
   unfold ap
   simp
 ·rw [if_neg g]
  have z46:([46]:List Nat).length=1:=rfl
  have z101:([101]:List Nat).length=1:=rfl
  have gg:¬ -5<=p+((dg f.toNat).length:Int) - 1\/(-5<=p+((dg f.toNat).length:Int) - 1/\¬ p+((dg f.toNat).length:Int) - 1<=20):=by omega
  generalize dg f.toNat=l at *
  have ch:chain oLe oLe (un lA (con (.int 5))) (var 5) (con (.int 20)) [some (.int s),some (.int f),some (.int p),some (.str (st h)),some (.str (st l)),some (.int (p+(l.length:Int) - 1)),none]=.ok (.bl false):=by
   rcases gg with g2 | ⟨g2,g3⟩
   ·simp_arith [g2]
   ·simp_arith [g2,g3]
  generalize chain oLe oLe (un lA (con (.int 5))) (var 5) (con (.int 20))=CH at *
  unfold iY
  by_cases g1:(l.length:Int)=1
  ·rw [if_neg (by omega)]
   have lt:l.take 1=l:=List.take_of_length_le (by omega)
   rw [lt]
   have a1:=aJ (a:=h) (b:=l) (by omega)
   have a2:=aJ (a:=ap h l) (b:=[101]) (by rw [aP];omega)
   have a3:=aJ (a:=ap (ap h l) [101]) (b:=e) (by rw [aP,aP];omega)
   simp_arith [c45,c00,Kp,hh,show ¬ f=0 by omega,es,bF (a:=l) (by omega),ch,eq_true g1,a1,a2,he,a3]
   unfold ap
   simp
  ·rw [if_pos (by omega)]
   have b1:=qG (a:=l) (k:=1) (by decide) (by omega) (by omega)
   rw [show (1:Int).toNat=1 from rfl] at b1
   have b2:=PJ l0 (by omega)
   have t1:(l.take 1).length<=60:=by rw [List.length_take];omega
   have t2:(l.drop 1).length<=60:=by rw [List.length_drop];omega
   generalize l.take 1=x at *
   generalize l.drop 1=y at *
   have a1:=aJ (a:=h) (b:=x) (by omega)
   have a2:=aJ (a:=ap h x) (b:=[46]) (by rw [aP];omega)
   have a3:=aJ (a:=ap (ap h x) [46]) (b:=y) (by rw [aP,aP];omega)
   have a4:=aJ (a:=ap (ap (ap h x) [46]) y) (b:=[101]) (by rw [aP,aP,aP];omega)
   have a5:=aJ (a:=ap (ap (ap (ap h x) [46]) y) [101]) (b:=e) (by rw [aP,aP,aP,aP];omega)
   simp_arith [c45,c00,c46,Kp,hh,show ¬ f=0 by omega,es,bF (a:=l) (by omega),ch,g1,b2,j7,dt,b1,a1,a2,a3,a4,he,a5]
   unfold ap
   simp
theorem qw {a b x:Int} {e:Bool}:∃ k,au [.lst [.int a,.int b],.bl e,.int x]=.ok (.bl k)/\(k=true↔Wn a b (e=true) x):=by
 unfold au fh Wn
 by_cases g:x=a
 ·refine ⟨e,?_,?_⟩
  ·simp_arith [eq_true g]
  ·constructor
   ·exact fun z=>.inr ⟨.inl g,z⟩
   ·rintro (z | z)
    ·omega
    ·exact z.2
 ·by_cases g2:x=b
  ·refine ⟨e,?_,?_⟩
   ·simp_arith [g,eq_true g2]
   ·constructor
    ·exact fun z=>.inr ⟨.inr g2,z⟩
    ·rintro (z | z)
     ·omega
     ·exact z.2
  ·refine ⟨decide (a<x/\x<b),?_,?_⟩
   ·simp_arith [g,g2]
    try (by_cases q1:a<x<;>by_cases q2:x<b<;>simp [q1,q2])
   ·rw [decide_eq_true_eq]
    constructor
    ·exact fun z=>.inl z
    ·rintro (z | ⟨z | z,_⟩)
     ·exact z
     ·exact absurd z g
     ·exact absurd z g2
theorem iW {a b x:Int} {e:Bool} {k:Bool} (h:k=true↔Wn a b (e=true) x):au [.lst [.int a,.int b],.bl e,.int x]=.ok (.bl k):=by
 obtain ⟨k',e1,h1⟩:=qw (a:=a) (b:=b) (x:=x) (e:=e)
 have:k'=k:=by rw [Bool.eq_iff_iff,h1,h]
 rw [e1,this]
theorem uH {a b x c:Int} {P:Prop} (hc:0<c):Wn a b P x↔Wn (a*c) (b*c) P (x*c):=by
 have L:∀ a b:Int,a*c<b*c↔a<b:=fun a b=>bB hc
 have Q:∀ a b:Int,a*c=b*c↔a=b:=fun a b=>⟨fun h=>Int.eq_of_mul_eq_mul_right (by omega) h,fun h=>by rw [h]⟩
 unfold Wn
 rw [L,L,Q,Q]
theorem Kc {i:Int}:yC [.int i]=.ok (.int (i.natAbs:Int)):=by
 unfold yC
 simp only
 congr 2
 split<;>omega
theorem BV {x y x' y' c:Int} (hc:0<c) (e1:x*c=2*x') (e2:y*c=2*y'):(x.natAbs<y.natAbs↔x'.natAbs<y'.natAbs)/\(x.natAbs=y.natAbs↔x'.natAbs=y'.natAbs):=by
 have a1:x.natAbs*c.natAbs=2*x'.natAbs:=by rw [<- Int.natAbs_mul,e1,Int.natAbs_mul];rfl
 have a2:y.natAbs*c.natAbs=2*y'.natAbs:=by rw [<- Int.natAbs_mul,e2,Int.natAbs_mul];rfl
 have c0:0<c.natAbs:=by omega
 constructor
 ·rw [<- Nat.mul_lt_mul_right c0,a1,a2];omega
 ·constructor
  ·intro z;rw [z] at a1;omega
  ·intro z
   have:x.natAbs*c.natAbs=y.natAbs*c.natAbs:=by omega
   exact Nat.eq_of_mul_eq_mul_right c0 this
theorem CL {A B C D:Int} (t:10*C.natAbs<=D.natAbs) (b:B.natAbs<(10*A).natAbs↔D.natAbs<(10*C).natAbs):10*(A.natAbs:Int)<=(B.natAbs:Int):=by
 rw [Int.natAbs_mul,Int.natAbs_mul,show Int.natAbs 10=10 from rfl] at b
 generalize A.natAbs=a at *
 generalize B.natAbs=b at *
 generalize C.natAbs=c at *
 generalize D.natAbs=d at *
 omega
theorem Hi {E F d f p g p0 f0:Int} {k:Nat} (h:Sz E F) (d0:0<d) (d1:d<pw (E+F) - pw F) (G:Got (uT E F) 9000 (vT F d) (aT F d) (bT F d) (d%2=0) g p0 f0)
  (ef:f0=f*10^k) (ep:p=p0+k) (h10:f%10≠0) (fb:f0<=pw 130) (pb : -5501<=p0) (gb:g<=5500):bN [.tup [.int E,.int F],.int d,.int f,.int p]=.ok (.bl true):=by
 have S:=zQ (E:=E) (F:=F) d0
 obtain ⟨j1,j2,j3,j4⟩:=id h
 have hQ:=oq j3
 have lI:=mq h
 obtain ⟨eU,f1,cs⟩:=G.bare S ef ep h10
 have hi:=G.hi
 have p1:p<=5500:=by rcases cs with ⟨_,_,z⟩ | ⟨_,_,z,_⟩<;>omega
 have fb1:f<=pw 130:=by
  have:(1:Int)<=pw 130:=by decide
  rcases cs with ⟨_,z,_⟩ | ⟨_,z,_,_⟩<;>omega
 have u0:=S.pos p (by omega)
 have V0:0<vT F d:=by have:=S.m0;have:=S.m1;omega
 have lb:vT F d / uT E F p+1<=pw 131:=by
  have:pw 131=2*pw 130:=cj (a:=130) (by decide)
  have:(1:Int)<=pw 130:=by decide
  rcases cs with ⟨_,z,y⟩ | ⟨_,z,y,_⟩
  ·have:=G.fig
   rw [y]
   omega
  ·have lt:=G.lt
   have:vT F d / uT E F g<1:=Int.ediv_lt_of_lt_mul (by rw [<- y];exact u0) (by omega)
   rw [y]
   omega
 have l0:0<=vT F d / uT E F p:=Int.ediv_nonneg (by omega) (by omega)
 have q0:0<=vT F d / (10*uT E F p):=Int.ediv_nonneg (by omega) (by omega)
 have qb:vT F d / (10*uT E F p)+1<=pw 131:=by
  have:vT F d / (10*uT E F p)<=vT F d / uT E F p:=by
   have a:=fl (10*uT E F p) (vT F d) (by omega)
   refine (Int.le_ediv_iff_mul_le u0).mpr ?_
   have:=Int.mul_le_mul_of_nonneg_left (show uT E F p<=10*uT E F p by omega) q0
   omega
  omega
 have p131:pw 131=2^131:=rfl
 have nl:nb (vT F d / uT E F p+1)<=132:=bS (by omega) (by omega)
 have nl0:nb (vT F d / uT E F p)<=132:=bS (by omega) (by omega)
 have nq:nb (vT F d / (10*uT E F p)+1)<=132:=bS (by omega) (by omega)
 have nq0:nb (vT F d / (10*uT E F p))<=132:=bS (by omega) (by omega)
 have p130:pw 130=2^130:=rfl
 have nf:nb f<=131:=bS (by omega) (by omega)
 have v0:=cx h (c:=d) (by omega) (by omega)
 have v1:=cx h (c:=d+1) (by omega) (by omega)
 have vm:=cx h (c:=d - 1) (by omega) (by omega)
 have n0:=lg h (x:=d) (by omega) (by omega)
 have n1:=lg h (x:=d+1) (by omega) (by omega)
 have nm:=lg h (x:=d - 1) (by omega) (by omega)
 have es:pw (E - 1) - 2+F = -(lo E F):=by unfold lo;omega
 have eK:pw (-(lo E F)+1)=2*pw (-(lo E F)):=cj (by omega)
 have hp19:pw ((19:Nat):Int)=524288:=rfl
 obtain ⟨e,he⟩:∃ e:Bool,decide (d%2=0)=e:=⟨_,rfl⟩
 have hP:(e=true)=(d%2=0):=propext (by rw [<- he];simp)
 unfold bN dQ
 generalize hB:yC=B
 have hB:∀ i:Int,B [.int i]=.ok (.int (i.natAbs:Int)):=fun i=>by rw [<- hB];exact Kc
 generalize hrest:seq (assign 7 (bin oEq (bin oMod (var 1) (con (.int 2))) (con (.int 0)))) _=rest
 have key:∀ u sc c st:Int,0<c->u*c=2*uT E F p->sc*c=10^9000->0<u->0<sc->nb u<=100000->nb sc<=100000 ->
   rest [some (.tup [.int E,.int F]),some (.int d),some (.int f),some (.int p),some (.int st),some (.int u),some (.int sc),none,none,none,none,none,none,none,none,none,none]=.rt (.bl true):=by
  intro u sc c st hc eu esc hu hsc nu nsc
  subst hrest
  clear j1 j2 j3 j4 hQ lI hi p1 fb1 lb qb p131 p130 es eK hp19 fb pb gb cs d0 d1
  have e8:2*vl F d*sc*c=2*vT F d:=by unfold vT;rw [Int.mul_assoc,esc,Int.mul_assoc]
  have e9:(vl F (d - 1)+vl F d)*sc*c=aT F d:=by unfold aT;rw [Int.mul_assoc,esc]
  have e10:(vl F d+vl F (d+1))*sc*c=bT F d:=by unfold bT;rw [Int.mul_assoc,esc]
  have m1:MulOk 2 (vl F d):=by walk_at "mul"
  have m2:MulOk (2*vl F d) sc:=by walk_at "mul"
  have m3:MulOk (vl F (d - 1)+vl F d) sc:=by walk_at "mul"
  have m4:MulOk (vl F d+vl F (d+1)) sc:=by walk_at "mul"
  have m5:MulOk f u:=by walk_at "mul"
  have m6:MulOk 10 u:=by walk_at "mul"
  have m6':MulOk 9 u:=by walk_at "mul"
  have n8:nb (2*vl F d*sc)<=200000:=by walk_at "nbk"
  have n9:nb ((vl F (d - 1)+vl F d)*sc)<=200000:=by walk_at "nbk"
  have n10:nb ((vl F d+vl F (d+1))*sc)<=200000:=by walk_at "nbk"
  have n12:nb (f*u)<=200000:=by walk_at "nbk"
  have n13:nb (10*u)<=200000:=by walk_at "nbk"
  generalize hX8:2*vl F d*sc=x8 at *
  generalize hX9:(vl F (d - 1)+vl F d)*sc=x9 at *
  generalize hX10:(vl F d+vl F (d+1))*sc=x10 at *
  have x80:0<=x8:=Int.le_of_lt (pos_l (b:=c) (by omega) hc)
  obtain ⟨D1,_,_,_⟩:=lM (a:=x8) (b:=u) (c:=c) (V:=vT F d) (U:=uT E F p) (c':=2) hu u0 hc (by decide) (by omega) (by omega)
  have t10:10*u*c=10*uT E F p*2:=by rw [Int.mul_assoc,eu];omega
  obtain ⟨D2,_,_,_⟩:=lM (a:=x8) (b:=10*u) (c:=c) (V:=vT F d) (U:=10*uT E F p) (c':=2) (by omega) (by omega) hc (by decide) (by omega) t10
  have d1':ie x8 u:=uc (K:=vT F d / uT E F p+1) (m:=132) x80 hu nl (by decide) (by rw [<- D1];exact (fl u x8 hu).2.1)
  have d2':ie x8 (10*u):=uc (K:=vT F d / (10*uT E F p)+1) (m:=132) x80 (by omega) nq (by decide) (by rw [<- D2];exact (fl (10*u) x8 (by omega)).2.1)
  have cv:∀ x y:Int,x*c=y->(Wn x9 x10 (e=true) x↔Wn (aT F d) (bT F d) (d%2=0) y):=fun x y z=>by rw [hP,uH hc,e9,e10,z]
  have w1:au [.lst [.int x9,.int x10],.bl e,.int (f*u)]=.ok (.bl true):=iW (by
   rw [cv (f*u) (2*(f0*uT E F p0)) (by rw [Int.mul_assoc,eu,<-eU];simp only [Int.mul_assoc,Int.mul_comm,Int.mul_left_comm])]
   exact ⟨fun _=>G.rd,fun _=>rfl⟩)
  generalize hl:vT F d / uT E F p=l at *
  generalize hq:vT F d / (10*uT E F p)=q at *
  have w2:9<f->au [.lst [.int x9,.int x10],.bl e,.int (q*10*u)]=.ok (.bl false):=fun z=>iW (by
   rw [cv (q*10*u) (2*(q*(10*uT E F p))) (by rw [Int.mul_assoc,eu];simp only [Int.mul_assoc,Int.mul_comm,Int.mul_left_comm])]
   have:=(G.longer S ef ep h10 z).1
   rw [hq] at this
   exact ⟨fun y=>absurd y Bool.false_ne_true,fun y=>absurd y this⟩)
  have w3:9<f->au [.lst [.int x9,.int x10],.bl e,.int (q*10*u+10*u)]=.ok (.bl false):=fun z=>iW (by
   rw [cv (q*10*u+10*u) (2*((q+1)*(10*uT E F p))) (by
    rw [Int.add_mul,t10,Int.mul_assoc (q*10),eu,Int.add_mul,Int.one_mul,Int.mul_add]
    have:q*10*(2*uT E F p)=2*(q*(10*uT E F p)):=by simp only [Int.mul_assoc,Int.mul_comm,Int.mul_left_comm]
    omega)]
   have:=(G.longer S ef ep h10 z).2
   rw [hq] at this
   exact ⟨fun y=>absurd y Bool.false_ne_true,fun y=>absurd y this⟩)
  have cf:f*(2*uT E F p)=2*(f*uT E F p):=by simp only [Int.mul_assoc,Int.mul_comm,Int.mul_left_comm]
  have wo:∀ o oo:Int,(oo=l*uT E F p\/oo=(l+1)*uT E F p)->o*c=2*oo->((o - x8).natAbs<(f*u - x8).natAbs\/((o - x8).natAbs=(f*u - x8).natAbs/\o≠f*u/\f%2=1)) ->
    au [.lst [.int x9,.int x10],.bl e,.int o]=.ok (.bl false):=fun o oo ho eo hn=>iW (by
   rw [cv o (2*oo) eo]
   have a1:(o - x8)*c=2*(oo - vT F d):=by rw [Int.sub_mul,eo,e8];omega
   have a2:(f*u - x8)*c=2*(f*uT E F p - vT F d):=by rw [Int.sub_mul,e8,Int.mul_assoc,eu,cf];omega
   obtain ⟨b1,b2⟩:=BV hc a1 a2
   have:=G.near S ef ep h10 (o:=oo) (by rw [hl];exact ho) (by
    rcases hn with z | ⟨z1,z2,z3⟩
    ·exact .inl (b1.mp z)
    ·refine .inr ⟨b2.mp z1,fun y=>z2 ?_,z3⟩
     refine Int.eq_of_mul_eq_mul_right (show c≠0 by omega) ?_
     rw [eo,y,Int.mul_assoc,eu,cf])
   exact ⟨fun y=>absurd y Bool.false_ne_true,fun y=>absurd y this⟩)
  generalize hbody:seq (assign 15 _) _=body
  have lp:∀ (o oo:Int) (z14 z15 z16:Option D),(oo=l*uT E F p\/oo=(l+1)*uT E F p)->o*c=2*oo->∃ y15 y16,
    body ([some (.tup [.int E,.int F]),some (.int d),some (.int f),some (.int p),some (.int st),some (.int u),some (.int sc),some (.bl e),some (.int x8),some (.int x9),some (.int x10),some (.lst [.int x9,.int x10]),some (.int (f*u)),some (.int (l*u)),z14,z15,z16].set 14 (some (.int o)))
     = .nx [some (.tup [.int E,.int F]),some (.int d),some (.int f),some (.int p),some (.int st),some (.int u),some (.int sc),some (.bl e),some (.int x8),some (.int x9),some (.int x10),some (.lst [.int x9,.int x10]),some (.int (f*u)),some (.int (l*u)),some (.int o),y15,y16]:=by
   intro o oo z14 z15 z16 ho eo
   subst hbody
   have w:=wo o oo ho eo
   obtain ⟨b,o16,hb⟩:∃ b,or_ (bin oLt (var 15) (con (.int 0))) (bQ (bin oEq (var 15) (con (.int 0))) (bQ (bin oNe (var 14) (var 12)) (bin oEq (bin oMod (var 2) (con (.int 2))) (con (.int 1))))) [some (.tup [.int E,.int F]),some (.int d),some (.int f),some (.int p),some (.int st),some (.int u),some (.int sc),some (.bl e),some (.int x8),some (.int x9),some (.int x10),some (.lst [.int x9,.int x10]),some (.int (f*u)),some (.int (l*u)),some (.int o),some (.int (((o - x8).natAbs:Int) - ((f*u - x8).natAbs:Int))),z16]=.ok (.bl b)/\(b=true->au [.lst [.int x9,.int x10],.bl e,.int o]=.ok (.bl false)):=by
    generalize hA:(o - x8).natAbs=A at *
    generalize hC:(f*u - x8).natAbs=C at *
    by_cases c1:(A:Int) - (C:Int)<0
    ·exact ⟨true,by simp_arith [c1],fun _=>w (.inl (by omega))⟩
    ·by_cases c2:(A:Int) - (C:Int)=0
     ·by_cases c3:o=f*u
      ·exact ⟨false,by simp_arith [c1,eq_true c2,eq_true c3],fun z=>absurd z Bool.false_ne_true⟩
      ·by_cases c4:f%2=1
       ·exact ⟨true,by simp_arith [c1,eq_true c2,c3,eq_true c4],fun _=>w (.inr ⟨by omega,c3,c4⟩)⟩
       ·exact ⟨false,by simp_arith [c1,eq_true c2,c3,c4],fun z=>absurd z Bool.false_ne_true⟩
     ·exact ⟨false,by simp_arith [c1,c2],fun z=>absurd z Bool.false_ne_true⟩
   refine ⟨some (.int (((o - x8).natAbs:Int) - ((f*u - x8).natAbs:Int))),some (.bl b),?_⟩
   generalize or_ (bin oLt (var 15) (con (.int 0))) (bQ (bin oEq (var 15) (con (.int 0))) (bQ (bin oNe (var 14) (var 12)) (bin oEq (bin oMod (var 2) (con (.int 2))) (con (.int 1)))))=O16 at *
   cases b with
   | true=>simp_arith [hB,o16,hb rfl]
   | false=>simp_arith [hB,o16]
  have o1:l*u*c=2*(l*uT E F p):=by rw [Int.mul_assoc,eu];simp only [Int.mul_assoc,Int.mul_comm,Int.mul_left_comm]
  have o2:(l*u+u)*c=2*((l+1)*uT E F p):=by rw [Int.add_mul,o1,eu,Int.add_mul,Int.one_mul];omega
  obtain ⟨a15,a16,b1⟩:=lp (l*u) _ none none none (.inl rfl) o1
  obtain ⟨c15,c16,b2⟩:=lp (l*u+u) _ (some (.int (l*u))) a15 a16 (.inr rfl) o2
  have lf:forL 14 body [.int (l*u),.int (l*u+u)] [some (.tup [.int E,.int F]),some (.int d),some (.int f),some (.int p),some (.int st),some (.int u),some (.int sc),some (.bl e),some (.int x8),some (.int x9),some (.int x10),some (.lst [.int x9,.int x10]),some (.int (f*u)),some (.int (l*u)),none,none,none]
    = .nx [some (.tup [.int E,.int F]),some (.int d),some (.int f),some (.int p),some (.int st),some (.int u),some (.int sc),some (.bl e),some (.int x8),some (.int x9),some (.int x10),some (.lst [.int x9,.int x10]),some (.int (f*u)),some (.int (l*u)),some (.int (l*u+u)),c15,c16]:=by
   rw [d8,b1]
   show forL 14 body [.int (l*u+u)] _=_
   rw [d8,b2]
   rfl
  have k1:MulOk q 10:=by walk_at "mul"
  have k2:MulOk (q*10) u:=by walk_at "mul"
  have k3:MulOk l u:=by walk_at "mul"
  have k4:MulOk 10 x9:=by walk_at "mul"
  have k5:MulOk 10 x10:=by walk_at "mul"
  have k6:MulOk 10 x8:=by walk_at "mul"
  have nab:nb ((f*u - x8).natAbs:Int)<=300000:=by
   have:nb (f*u - x8)<=300000:=by walk_at "nbk"
   exact Nat.le_trans (iU (by omega)) this
  have k7:MulOk 10 ((f*u - x8).natAbs:Int):=by walk_at "mul"
  obtain ⟨kk,w4,hk⟩:=qw (a:=10*x9) (b:=10*x10) (x:=9*u) (e:=e)
  have fin:f=1->kk=true->10*((f*u - x8).natAbs:Int)<=((9*u - 10*x8).natAbs:Int):=fun z1 z2=>by
   have hw:=hk.mp z2
   rw [hP,uH hc,Int.mul_assoc 10 x9,e9,Int.mul_assoc 10 x10,e10,Int.mul_assoc 9 u,eu] at hw
   have:=G.nine S ef ep h10 z1 (by
    rw [show 9*(2*uT E F p)=2*(9*uT E F p) by omega] at hw
    exact hw)
   have a1:(10*(f*u - x8))*c=2*(10*(uT E F p - vT F d)):=by
    rw [Int.mul_assoc,Int.sub_mul,e8,Int.mul_assoc,eu,z1]
    omega
   have a2:(9*u - 10*x8)*c=2*(9*uT E F p - 10*vT F d):=by
    rw [Int.sub_mul,Int.mul_assoc,eu,Int.mul_assoc,e8]
    omega
   obtain ⟨b1,_⟩:=BV hc a2 a1
   exact CL this b1
  have a1:bQ (bin oGt (var 2) (con (.int 9))) (call au [var 11,var 7,var 13]) [some (.tup [.int E,.int F]),some (.int d),some (.int f),some (.int p),some (.int st),some (.int u),some (.int sc),some (.bl e),some (.int x8),some (.int x9),some (.int x10),some (.lst [.int x9,.int x10]),some (.int (f*u)),some (.int (q*10*u)),none,none,none]=.ok (.bl false):=by
   by_cases g9:f>9
   ·simp_arith [g9,w2 g9]
   ·simp_arith [g9]
  have a2:bQ (bin oGt (var 2) (con (.int 9))) (call au [var 11,var 7,bin aX (var 13) (bin dY (con (.int 10)) (var 5))]) [some (.tup [.int E,.int F]),some (.int d),some (.int f),some (.int p),some (.int st),some (.int u),some (.int sc),some (.bl e),some (.int x8),some (.int x9),some (.int x10),some (.lst [.int x9,.int x10]),some (.int (f*u)),some (.int (q*10*u)),none,none,none]=.ok (.bl false):=by
   by_cases g9:f>9
   ·simp_arith [g9,w3 g9,ak m6]
   ·simp_arith [g9]
  generalize bQ (bin oGt (var 2) (con (.int 9))) (call au [var 11,var 7,var 13])=A1 at *
  generalize bQ (bin oGt (var 2) (con (.int 9))) (call au [var 11,var 7,bin aX (var 13) (bin dY (con (.int 10)) (var 5))])=A2 at *
  generalize htail:seq (ifs (or_ (bin oNe (var 2) (con (.int 1))) _) _ _) _=tail
  have tl:tail [some (.tup [.int E,.int F]),some (.int d),some (.int f),some (.int p),some (.int st),some (.int u),some (.int sc),some (.bl e),some (.int x8),some (.int x9),some (.int x10),some (.lst [.int x9,.int x10]),some (.int (f*u)),some (.int (l*u)),some (.int (l*u+u)),c15,c16]=.rt (.bl true):=by
   subst htail
   by_cases g1:f=1
   ·cases kk with
    | true=>simp_arith [eq_true g1,ak k4,ak k5,ak m6',w4,hB,ak k6,ak k7,show ((9*u - 10*x8).natAbs:Int)>=10*((f*u - x8).natAbs:Int) from fin g1 rfl]
    | false=>simp_arith [eq_true g1,ak k4,ak k5,ak m6',w4]
   ·simp_arith [g1]
  simp_arith [he,v0,v1,vm,ak m1,hX8,hX9,hX10,ak m2,ak m3,ak m4,ak m5,w1,ak m6,cT d2',D2,ak k1,ak k2,a1,a2,cT d1',D1,ak k3,lf,tl]
 have sh:cO (.int 1) (.int (-(lo E F)+1))=.ok (.int (pw (-(lo E F)+1))):=jK (by omega) (by omega)
 have nk:nb (pw (-(lo E F)))<=20001:=kR (by omega)
 have hK:=ai (-(lo E F))
 by_cases gp:p<0
 ·have ew:=iv 19 (-p) (by omega) (by omega) (by omega)
  have nx:=lR (p := -p) (by omega)
  have x0:=aV (-p).toNat
  rw [show 19+1=20 from rfl] at ew
  have ke:=key (pw (-(lo E F)+1)) (10^(-p).toNat) (10^(p+9000).toNat) (-(lo E F)) (aV _) (by unfold uT;rw [eK,Int.mul_assoc]) (by rw [<- Int.pow_add];congr 1;omega) (ai _) x0 (by rw [eK];walk_at "nbk") (Nat.le_trans nx (by decide))
  generalize ar 20=A at *
  simp_arith [jK (k:=E - 1) (by omega) (by omega),es,sh,gp,ew,ke]
 ·have ew:=iv 19 p (by omega) (by omega) (by omega)
  have nx:=lR (p:=p) (by omega)
  have x0:=aV p.toNat
  rw [show 19+1=20 from rfl] at ew
  have ke:=key (pw (-(lo E F)+1)*10^p.toNat) 1 (10^9000) (-(lo E F)) p9 (by
   unfold uT
   rw [eK,show (p+9000).toNat=p.toNat+9000 by omega,Int.pow_add]
   generalize (10:Int)^9000=z
   simp only [Int.mul_assoc]) (Int.one_mul _) (Int.mul_pos (ai _) x0) (by decide) (by
   rw [eK]
   generalize (10:Int)^p.toNat=x at *
   have:nb (2*pw (-(lo E F))*x)<=110000:=by walk_at "nbk"
   have a:nb (2*pw (-(lo E F)))<=19999:=Nat.le_trans (eV (a:=2) (b:=16502) (by decide) (kR (c:=16501) (by
    have:=l8 h
    unfold lo
    omega))) (by decide)
   exact Nat.le_trans (eV a nx) (by decide)) (by decide)
  have mu:MulOk (pw (-(lo E F)+1)) (10^p.toNat):=by
   rw [eK]
   generalize (10:Int)^p.toNat=x at *
   walk_at "mul"
  generalize ar 20=A at *
  simp_arith [jK (k:=E - 1) (by omega) (by omega),es,sh,gp,ew,ak mu,ke]
theorem d45:PySem.Str.ofString "-"=st [45]:=by decide
theorem d43:PySem.Str.ofString "+"=st [43]:=by decide
theorem d46:PySem.Str.ofString "."=st [46]:=by decide
theorem Hz:PySem.Str.ofString "e"=st [101]:=by decide
theorem d32:PySem.Str.ofString " "=st [32]:=by decide
theorem d0:PySem.Str.ofString ""=st []:=by decide
theorem jT {l:List Nat} (h:l.length<=100000):aE [.str (st l)]=.ok (.bl (kT l)):=by
 have hi:itS (var 0) [some (.str (st l))]=.ok (l.map fun c=>D.str ⟨#[c]⟩):=by
  show asS (.str (st l))=_
  rw [BO (by rw [lS];exact h),jJ]
 have hc:comp (itS (var 0)) [] (bin oIn (var 0) (con (.str "0123456789"))) [some (.str (st l))]=.ok (.lst (l.map fun c=>D.bl (decide (48<=c/\c<=57)))):=by
  unfold comp iD
  rw [hi]
  show (if (l.map fun c=>D.str ⟨#[c]⟩).length<=100000 then _ else _)=_
  rw [if_pos (by rw [List.length_map];exact h),oJ (l:=l) (f:=fun c=>decide (48<=c/\c<=57)) (fun c=>rN)]
  show uk _=_
  unfold uk
  rw [if_pos (wL _ l)]
 have ha:=Kb (l:=l) (f:=fun c=>decide (48<=c/\c<=57))
 unfold aE dX
 generalize comp (itS (var 0)) [] (bin oIn (var 0) (con (.str "0123456789")))=C at *
 unfold kT nC
 by_cases g:l=[]
 ·subst g
  simp_arith [d0,gN]
  try rfl
 ·simp_arith [d0,gN,g,hc,ha]
  try simp
theorem fv {l:List Nat} (h:l.length<=400):bh [.str (st l)]=.ok (.str (st (bare l))):=by
 unfold bh d6
 simp_arith [bF (a:=l) (by omega),show ¬ (400:Int)<l.length by omega,yA,d32,Cf (l:=l) (by omega)]
theorem sv {l:List Nat} (h:400<l.length) (h2:l.length<=1000000):bh [.str (st l)]=.ex "NoText":=by
 unfold bh d6
 simp_arith [bF (a:=l) h2,show (400:Int)<l.length by omega]
theorem dq {l:List Nat} (h:l.length<=1000000):aD [.str (st l)]=.ok (.tup [.int (signOf l).1,.str (st (signOf l).2)]):=by
 have s1:=gM (l:=l) (c:=45)
 have s2:=gM (l:=l) (c:=43)
 unfold aD cG
 cases l with
 | nil =>
  simp_arith [yA,d45,d43,s1,s2,List.head?_nil,show ¬ (none:Option Nat)=some 45 by decide,show ¬ (none:Option Nat)=some 43 by decide]
  try rfl
 | cons c r =>
  have b1:=qG (a:=c::r) (k:=1) (by decide) (by simp;omega) h
  rw [show ((1:Int).toNat)=1 from rfl,show (c::r).drop 1=r from rfl] at b1
  rw [List.head?_cons] at s1 s2
  by_cases g1:c=45
  ·subst g1
   generalize hx:st (45::r)=x at *
   simp_arith [yA,d45,s1,j7,dt,b1]
   try rfl
  ·by_cases g2:c=43
   ·subst g2
    generalize hx:st (43::r)=x at *
    simp_arith [yA,d45,d43,s1,s2,show ¬ (some 43:Option Nat)=some 45 by decide,j7,dt,b1]
    try rfl
   ·rw [oh g1 g2]
    simp_arith [yA,d45,d43,s1,s2,show ¬ (some c:Option Nat)=some 45 by simpa using g1,show ¬ (some c:Option Nat)=some 43 by simpa using g2]
theorem uo {l:List Nat} (h:l.length<=1000):cE [.str (st l)]=match exL l with | some e=>.ok (.int e) | none=>.ex "NoText":=by
 have sw:=dq (l:=l) (by omega)
 have sl:=ve l
 have fo:=jT (l:=(signOf l).2) (by omega)
 have bl:=bF (a:=(signOf l).2) (by omega)
 unfold exL
 generalize signOf l=sg at *
 obtain ⟨s,r⟩:=sg
 simp only at *
 unfold cE dW
 by_cases g:kT r=true
 ·obtain ⟨g1,g2⟩:=aB.mp g
  by_cases g3:r.length<=4
  ·rw [if_pos ⟨g,g3⟩]
   have it:=pW g1 g2 (by omega)
   by_cases g4:s=1
   ·rw [if_pos g4]
    simp_arith [sw,fo,g,bl,show ¬ (4:Int)<r.length by omega,eq_true g4,it]
   ·rw [if_neg g4]
    simp_arith [sw,fo,g,bl,show ¬ (4:Int)<r.length by omega,g4,it]
  ·rw [if_neg (fun z=>g3 z.2)]
   simp_arith [sw,fo,g,bl,show (4:Int)<r.length by omega]
 ·rw [if_neg (fun z=>g z.1)]
  simp_arith [sw,fo,Bool.eq_false_iff.mpr g]
theorem xM {l:List Nat} (h:l.length<=1000000):fF [.str (st l)]=match spL l with | some (s,f,p)=>.ok (.tup [.int s,.int f,.int p]) | none=>.ex "NoText":=by
 unfold spL
 by_cases g:l.length<=400
 ·rw [if_pos g]
  have bo:=fv g
  have bl:=lO l
  have so:=dq (l:=bare l) (by omega)
  have sl:=ve (bare l)
  generalize signOf (bare l)=sg at *
  obtain ⟨s,w⟩:=sg
  simp only at *
  have p1:=pO (l:=w) (c:=101) (by omega)
  obtain ⟨l1,_,l2,_⟩:=vz 101 w
  have eo:=uo (l:=(aS 101 w).2.2) (by omega)
  have p2:=pO (l:=(aS 101 w).1) (c:=46) (by omega)
  obtain ⟨m1,_,m2,m3⟩:=vz 46 (aS 101 w).1
  have pn:=yc (c:=46) (l:=(aS 101 w).1)
  unfold Kn
  generalize aS 101 w=q at *
  obtain ⟨h0,h1,h2⟩:=q
  simp only at *
  generalize aS 46 h0=q at *
  obtain ⟨b0,b1,b2⟩:=q
  simp only at *
  have f0:=jT (l:=b0) (by omega)
  have f2:=jT (l:=b2) (by omega)
  have ad:=ub (a:=b0) (b:=b2) (by omega)
  have ln:=bF (a:=b2) (by omega)
  have rest:∀ ex:Int,∀ z:D,(seq (ifs (iA (call aE [bin oIx (var 4) (con (.int 0))])) (raise "NoText") (ao))
 (seq (ifs (bQ (bin oEq (bin oIx (var 4) (con (.int 1))) (con (.str "."))) (iA (call aE [bin oIx (var 4) (con (.int 2))]))) (raise "NoText") (ao))
 (ret (iP [bin oIx (var 1) (con (.int 0)),call mT [bin aX (bin oIx (var 4) (con (.int 0))) (bin oIx (var 4) (con (.int 2)))],bin cM (var 3) (call nD [bin oIx (var 4) (con (.int 2))])])))
   [some (.str (st l)),some (.tup [.int s,.str (st w)]),some z,some (.int ex),some (.tup [.str (st b0),.str (st b1),.str (st b2)])]).res =
   match (if kT b0=true/\(b1=[46]->kT b2=true) then some (s,(dv (b0++b2):Int),ex - (b2.length:Int)) else none) with
   | some (s,f,p)=>.ok (.tup [.int s,.int f,.int p]) | none=>.ex "NoText":=by
   intro ex z
   by_cases c0:kT b0=true
   ·by_cases c1:b1=[46]
    ·by_cases c2:kT b2=true
     ·rw [if_pos ⟨c0,fun _=>c2⟩]
      obtain ⟨x1,x2⟩:=aB.mp c0
      obtain ⟨y1,y2⟩:=aB.mp c2
      have it:=pW (l:=b0++b2) (by rw [lL,x1,y1];rfl) (by simp [x2]) (by rw [List.length_append];omega)
      subst c1
      generalize b0++b2=b at *
      simp_arith [f0,c0,d46,f2,c2,ad,it,ln]
     ·rw [if_neg (fun z=>c2 (z.2 c1))]
      subst c1
      simp_arith [f0,c0,d46,f2,Bool.eq_false_iff.mpr c2]
    ·rw [if_pos ⟨c0,fun z=>absurd z c1⟩]
     have e2:=pn c1
     obtain ⟨x1,x2⟩:=aB.mp c0
     subst e2
     have it:=pW (l:=b0++[]) (by rw [List.append_nil];exact x1) (by simp [x2]) (by rw [List.length_append];simp;omega)
     generalize b0++[]=b at *
     simp_arith [f0,c0,d46,gN,c1,ad,it,ln]
   ·rw [if_neg (fun z=>c0 z.1)]
    simp_arith [f0,Bool.eq_false_iff.mpr c0]
  unfold fF gY
  generalize hrest:seq (ifs (iA (call aE [bin oIx (var 4) (con (.int 0))])) (raise "NoText") (ao)) _=X at *
  by_cases c:h1=[101]
  ·rw [if_pos c]
   subst c
   cases he:exL h2 with
   | none =>
    rw [he] at eo
    simp_arith [bo,so,yA,Hz,p1,eo]
    try rfl
   | some ex =>
    rw [he] at eo
    simp_arith [bo,so,yA,Hz,p1,eo,d46,p2,rest]
    try rfl
  ·rw [if_neg c]
   simp_arith [bo,so,yA,Hz,p1,gN,c,d46,p2,rest]
   try rfl
 ·rw [if_neg g]
  unfold fF gY
  simp_arith [sv (l:=l) (by omega) h]
theorem Hb:PySem.Str.ofString "endless"=st [101,110,100,108,101,115,115]:=by decide
theorem Hy:PySem.Str.ofString "none"=st [110,111,110,101]:=by decide
theorem vr {E F s f P:Int} {l:List Nat} (w:Wy) (hl:l.length<=400) (hsp:spL l=some (s,f,P)) (hw:∃ c,(signOf (bare l)).2.head? = some c/\c<=57) (p0 : -20000<=P) (p1:P<=20000) (nf:nb f<=500000) :
  gT [.tup [.int E,.int F],.str w.s,.str (st l)]=aK [.tup [.int E,.int F],.str w.s,.int s,.int (tnT f P),.int (tnB 1 P)]:=by
 have bo:=fv hl
 have bl:=lO l
 have so:=dq (l:=bare l) (by omega)
 have sp:=xM (l:=l) (by omega)
 rw [hsp] at sp
 simp only at sp
 have te:=ig (t:=f) (n:=1) p0 p1 nf (by decide)
 obtain ⟨c,hc,hc2⟩:=hw
 generalize signOf (bare l)=sg at *
 obtain ⟨sg1,wd⟩:=sg
 simp only at *
 have n1:¬ wd=[101,110,100,108,101,115,115]:=fun z=>by rw [z] at hc;cases hc;omega
 have n2:¬ wd=[110,111,110,101]:=fun z=>by rw [z] at hc;cases hc;omega
 unfold gT oG
 cases hr:aK [.tup [.int E,.int F],.str w.s,.int s,.int (tnT f P),.int (tnB 1 P)] with
 | ok d=>simp_arith [gm w,bo,so,Hb,Hy,gN,n1,n2,sp,te,hr]
 | ex C=>simp_arith [gm w,bo,so,Hb,Hy,gN,n1,n2,sp,te,hr]
 | bad =>
  simp_arith [gm w,bo,so,Hb,Hy,gN,n1,n2,sp,te,hr]
  rfl
theorem FP (l:List Nat):0<=(signOf l).1/\(signOf l).1<=1:=by
 unfold signOf
 split<;>simp
theorem Cs {E F:Int} {l:List Nat} (w:Wy) (h:Sz E F) (hl:l.length<=400) (n1:(signOf (bare l)).2=[101,110,100,108,101,115,115]) :
  gT [.tup [.int E,.int F],.str w.s,.str (st l)]=.ok (.tup [.int ((signOf (bare l)).1*pw (E+F)+(pw E - 1)*pw F),.int 0]):=by
 have bo:=fv hl
 have bl:=lO l
 have so:=dq (l:=bare l) (by omega)
 have s01:=FP (bare l)
 generalize signOf (bare l)=sg at *
 obtain ⟨sg1,wd⟩:=sg
 simp only at *
 subst n1
 unfold gT oG
 simp_arith [gm w,bo,so,Hb,gN,bD h,fD (c:=(pw E - 1)*pw F) h s01]
theorem Ae {E F:Int} {l:List Nat} (w:Wy) (h:Sz E F) (hl:l.length<=400) (n1:(signOf (bare l)).2=[110,111,110,101]) :
  gT [.tup [.int E,.int F],.str w.s,.str (st l)]=.ok (.tup [.int ((pw E - 1)*pw F+pw (F - 1)),.int 0]):=by
 have bo:=fv hl
 have bl:=lO l
 have so:=dq (l:=bare l) (by omega)
 generalize signOf (bare l)=sg at *
 obtain ⟨sg1,wd⟩:=sg
 simp only at *
 subst n1
 unfold gT oG
 simp_arith [gm w,bo,so,Hb,Hy,gN,show ¬ [110,111,110,101]=[101,110,100,108,101,115,115] by decide,rm h]
theorem G2 {E F s n t:Int} (w:Wy) (h:Sz E F) (hs:0<=s/\s<=1) (ht:0<t) (hn:0<n) (n1:nb t<=1000000) (n2:nb n<=1000000) :
  ∃ x,aK [.tup [.int E,.int F],.str w.s,.int s,.int t,.int n]=.ok (.tup x)/\aF [.tup [.int E,.int F],.str w.s,.int s,.int (t*pw (-(lo E F))),.int n,.tup x]=.ok (.bl true):=by
 obtain ⟨s1,s2,s3,s4⟩:=lN h ht hn
 have l:=mq h
 have hB:=jq (p:=bR E F t n) hn
 have hA:=p8 (p:=bR E F t n) (Int.le_of_lt ht)
 have w0:0<=jr (bR E F t n) t / gK (bR E F t n) n:=Int.ediv_nonneg hA (Int.le_of_lt hB)
 have w1:jr (bR E F t n) t / gK (bR E F t n) n<2*pw F:=Int.ediv_lt_of_lt_mul hB s3
 have w2:lo E F<bR E F t n->pw F<=jr (bR E F t n) t / gK (bR E F t n) n:=fun q=>Int.le_ediv_of_mul_le hB (s4 q)
 have l0:=Int.emod_nonneg (jr (bR E F t n) t) (show gK (bR E F t n) n≠0 by omega)
 have l1:=Int.emod_lt_of_pos (jr (bR E F t n) t) hB
 have b:=between h hn s1 w0 w1 w2 l0 l1 (Int.ediv_mul_add_emod _ _).symm
 have c0:=(qc h s1 w0 w1 w2).1
 have nT:nb (t*pw (-(lo E F)))<=10000000:=by
  have:=eV n1 (kR (k := -(lo E F)) (c:=20000) (by omega))
  omega
 refine ⟨_,oj w h hs ht hn n1 n2,C9 w h hs hn nT (by omega) c0 b.1 (fun _=>b.2.1) ?_⟩
 exact wx b l0
theorem tL {c n:Int} (n0:0<=n):∃ E F,bU [.int c,.int n]=.ok (.tup [.int E,.int F])/\Sz E F:=by
 unfold bU df Sz
 by_cases g1:4<n
 ·by_cases g2:12<n
  ·by_cases g3:24<n
   ·exact ⟨2+c%14,1+c / 14%4,by simp_arith [g1,g2,g3],by omega⟩
   ·exact ⟨2+c%14,1+c / 14%10,by simp_arith [g1,g2,g3],by omega⟩
  ·exact ⟨2+c%14,1+c / 14%23,by simp_arith [g1,g2,show ¬ 24<n by omega],by omega⟩
 ·exact ⟨2+c%14,1+c / 14%112,by simp_arith [g1,show ¬ 12<n by omega,show ¬ 24<n by omega],by omega⟩
theorem Bw {E F c:Int} (h:Sz E F) (hc:nb c<=2^20):∃ d,bO [.tup [.int E,.int F],.int c]=.ok (.tup [.int (c%2),.int d])/\0<=d/\d<pw (E+F):=by
 obtain ⟨k1,k2,k3,k4⟩:=id h
 have hh:=bE h
 have hQ:=oq k3
 have eM:=end_is h
 have hE2:=fE h
 have hE4:=gQ k1
 have sE:=jK (k:=E) (by omega) (by omega)
 have sF:=jK (k:=F) (by omega) (by omega)
 have nE:nb (pw E - 1)<=17:=bS (by omega) (by omega)
 have s3:=ay (i:=pw E - 1) (j:=F) (by omega) (by omega)
 obtain ⟨x,ex,x0,x1⟩:=yq (c:=c / 2) h (wt (by decide) hc)
 have m0:=Int.emod_nonneg (c / 2 / 17) (show pw F - 1≠0 by omega)
 have m1:=Int.emod_lt_of_pos (c / 2 / 17) (show 0<pw F - 1 by omega)
 have hm:=mf (i:=c / 2 / 17) (show 0<pw F - 1 by omega)
 generalize c / 2 / 17%(pw F - 1)=y at *
 unfold bO dU
 by_cases g1:c / 2%17=5
 ·exact ⟨(pw E - 1)*pw F,by simp_arith [sE,s3,ex,g1],by omega,by omega⟩
 by_cases g2:c / 2%17=11
 ·exact ⟨(pw E - 1)*pw F+1+y,by simp_arith [sE,s3,ex,g2,sF,hm],by omega,by omega⟩
 ·exact ⟨x,by simp_arith [sE,s3,ex,g1,g2],x0,by omega⟩
theorem wU {l:List Nat} (hf:kT l=true) (hl:l.length<=80):bz [.str (st l)]=.ok (.int (dv l)):=by
 obtain ⟨f1,f2⟩:=aB.mp hf
 have bl:=bF (a:=l) (by omega)
 have it:asS (.str (st l))=.ok (l.map fun c=>D.str ⟨#[c]⟩):=by rw [BO (by rw [lS];omega),jJ]
 have il:=pW f1 f2 (by omega)
 have loop:∀ (r:List Nat),(∀ c∈r,48<=c/\c<=57)->∀ z:Option D,∃ z',forL 1 (ifs (bin eR (var 1) (con (.str "0123456789"))) (ret (un lA (con (.int 1)))) (ao)) (r.map fun c=>D.str ⟨#[c]⟩) [some (.str (st l)),z]=.nx [some (.str (st l)),z']:=by
  intro r
  induction r with
  | nil=>exact fun _ z=>⟨z,rfl⟩
  | cons c r ih =>
   intro hr z
   obtain ⟨z',e⟩:=ih (fun c hc=>hr c (by simp [hc])) (some (.str ⟨#[c]⟩))
   refine ⟨z',?_⟩
   have hi:eR (.str ⟨#[c]⟩) (.str "0123456789")=.ok (.bl false):=by
    unfold eR
    rw [rN,decide_eq_true (hr c (by simp))]
    rfl
   rw [List.map_cons,d8]
   simp_arith [hi,e]
 obtain ⟨z',e⟩:=loop l (dm.mp f1) none
 unfold bz dh
 simp_arith [d0,gN,f2,bl,show ¬ (80:Int)<l.length by omega,Kx,it,e,il]
theorem FK {t:Int} (h0 : -9999<=t) (h1:t<=9999):∃ m,∃ s:Int,∃ c,nW [.int t]=.ok (.str (st (m++c)))/\((m=[]/\s=0)\/(m=[45]/\s=1))/\kT c=true/\c.length<=4/\(if s=1 then -(dv c:Int) else dv c)=t/\(dv c:Int)<=9999:=by
 have hn:nb t<=1900:=Nat.le_trans (iB (k:=14).mpr (by omega)) (by decide)
 by_cases g:0<=t
 ·refine ⟨[],(0:Int),dg t.toNat,mR g hn,.inl ⟨rfl,rfl⟩,um _,(km (by decide)).mpr (by omega),?_,by rw [Bo];omega⟩
  rw [if_neg (by decide),Bo]
  omega
 ·obtain ⟨m,rfl⟩:∃ m,t=Int.negSucc m:=by
   cases t with
   | ofNat n=>exact absurd (Int.natCast_nonneg n) g
   | negSucc m=>exact ⟨m,rfl⟩
  refine ⟨[45],(1:Int),dg (m+1),FL hn,.inr ⟨rfl,rfl⟩,um _,(km (by decide)).mpr (by omega),?_,by rw [Bo];omega⟩
  rw [if_pos rfl,Bo]
  omega
def Tl2 (tl:List Nat) (e:Int):Prop:=(tl=[]/\e=0)\/∃ m,∃ s:Int,∃ c,((m=[]/\s=0)\/(m=[45]/\s=1))/\kT c=true/\c.length<=4/\(dv c:Int)<=9999/\tl=101::(m++c)/\e=if s=(1:Int) then -(dv c:Int) else dv c
theorem Ia {tl:List Nat} {e:Int} (h:Tl2 tl e):Tl tl e:=by
 rcases h with h | ⟨m,s,c,h1,h2,h3,_,h4,h5⟩
 ·exact .inl h
 ·refine .inr ⟨m,s,c,?_,h2,h3,h4,h5⟩
  rcases h1 with ⟨rfl,rfl⟩ | ⟨rfl,rfl⟩
  ·exact .inl ⟨rfl,rfl⟩
  ·exact .inr (.inl ⟨rfl,rfl⟩)
theorem PC {s:Int} {h:List Nat} (hs:0<=s/\s<=1) (eh:h=if s=1 then [45] else []):Mk h s:=by
 rw [eh]
 rcases (show s=0\/s=1 by omega) with e | e<;>subst e
 ·exact .inl ⟨rfl,rfl⟩
 ·exact .inr (.inl ⟨rfl,rfl⟩)
theorem dvi (n:Int) (h:0<=n):(dv (dg n.toNat):Int)=n:=by rw [Bo];omega
theorem yi {s f p:Int} {h:List Nat} (hs:0<=s/\s<=1) (eh:h=if s=1 then [45] else []) (f0:0<f) (f1:f<1000000000000000000000000000000000000000000000000000000000000) (p0 : -9000<=p) (p1:p<=9000) :
  ∃ a pt b tl e,∃ k:Nat,ka [.int s,.int f,.int p]=.ok (.str (st (h++(a++(pt++tl)))))/\bK [.int s,.int f,.int p]=.ok (.str (st (h++(a++(pt++tl)))))/\kT a=true/\Pt pt b/\Tl2 tl e/\(a++b).length<=80/\(h++(a++(pt++tl))).length<=200 /\
   (dv (a++b):Int)=f*10^k/\e - b.length=p - k/\(k=0\/(p=k/\k<=20)):=by
 obtain ⟨es,l0,l1⟩:=LH (Int.le_of_lt f0) f1
 have vf:=dvi f (Int.le_of_lt f0)
 have ff:=um f.toNat
 have hl:h.length<=1:=by rw [eh];split<;>decide
 obtain ⟨m,sg,c,he,hm,fc,lc,ec,lm⟩:=FK (t:=p+(dg f.toNat).length - 1) (by omega) (by omega)
 have ml:m.length<=1:=by rcases hm with ⟨rfl,_⟩ | ⟨rfl,_⟩<;>decide
 have hx:oIx (.lst [.str (st []),.str (st [45])]) (.int s)=.ok (.str (st h)):=by
  rw [eh]
  rcases (show s=0\/s=1 by omega) with e | e<;>subst e<;>rfl
 have la:=GK (s:=s) (p:=p) eh f0 f1 he (by rw [List.length_append];omega) (by omega) (by omega)
 have ly:=A0 (s:=s) (p:=p) hx hl f0 f1 he (by rw [List.length_append];omega) (by omega) (by omega)
 generalize dg f.toNat=l at *
 obtain ⟨fl,ln⟩:=aB.mp ff
 clear f0 f1 p0 p1 hs eh hx he es ff
 by_cases g : -5<=p+(l.length:Int) - 1/\p+(l.length:Int) - 1<=20
 ·rw [if_pos g] at la ly
  unfold kS at la ly
  by_cases g2:0<=p
  ·rw [if_pos g2] at la ly
   have z2:=wM p.toNat
   have z3:=E7 p.toNat
   have z1:(List.replicate p.toNat 48).length=p.toNat:=List.length_replicate
   generalize List.replicate p.toNat 48=z at *
   rw [show ap h (ap l z)=h++((l++z)++([]++[])) by unfold ap;simp] at la ly
   refine ⟨l++z,[],[],[],0,p.toNat,la,ly,aB.mpr ⟨by rw [lL,fl,z2];rfl,by simp [ln]⟩,.inl ⟨rfl,rfl⟩,.inl ⟨rfl,rfl⟩,by simp;omega,by simp;omega,?_,by simp;omega,?_⟩
   ·rw [List.append_nil,rV,z3,z1,Nat.add_zero,Int.natCast_mul,vf]
    congr 1
   ·omega
  ·rw [if_neg g2] at la ly
   by_cases g3:0<=p+(l.length:Int) - 1
   ·rw [if_pos g3] at la ly
    have t1:(l.take (p+(l.length:Int) - 1+1).toNat).length=(p+(l.length:Int) - 1+1).toNat:=by rw [List.length_take];omega
    have t2:(l.drop (p+(l.length:Int) - 1+1).toNat).length=(-p).toNat:=by rw [List.length_drop];omega
    have td:=List.take_append_drop (p+(l.length:Int) - 1+1).toNat l
    have ft:nC (l.take (p+(l.length:Int) - 1+1).toNat)=true:=lK (fun c hc=>List.mem_of_mem_take hc) fl
    have fd:nC (l.drop (p+(l.length:Int) - 1+1).toNat)=true:=lK (fun c hc=>List.mem_of_mem_drop hc) fl
    generalize l.take (p+(l.length:Int) - 1+1).toNat=x at *
    generalize l.drop (p+(l.length:Int) - 1+1).toNat=y at *
    have nx:x≠[]:=fun z=>by rw [z] at t1;simp at t1;omega
    have ny:y≠[]:=fun z=>by rw [z] at t2;simp at t2;omega
    rw [show ap h (ap (ap x [46]) y)=h++(x++(46::y++[])) by unfold ap;simp] at la ly
    exact ⟨x,46::y,y,[],0,0,la,ly,aB.mpr ⟨ft,nx⟩,.inr ⟨aB.mpr ⟨fd,ny⟩,rfl⟩,.inl ⟨rfl,rfl⟩,by rw [td];omega,by simp;omega,by rw [td,vf];simp,by omega,.inl rfl⟩
   ·rw [if_neg g3] at la ly
    have z1:(List.replicate (-(p+(l.length:Int) - 1) - 1).toNat 48).length=(-(p+(l.length:Int) - 1) - 1).toNat:=List.length_replicate
    have z2:=wM (-(p+(l.length:Int) - 1) - 1).toNat
    have z3:=E7 (-(p+(l.length:Int) - 1) - 1).toNat
    generalize List.replicate (-(p+(l.length:Int) - 1) - 1).toNat 48=z at *
    rw [show ap h (ap (ap [48,46] z) l)=h++([48]++(46::(z++l)++[])) by unfold ap;simp] at la ly
    refine ⟨[48],46::(z++l),z++l,[],0,0,la,ly,by decide,.inr ⟨aB.mpr ⟨by rw [lL,z2,fl];rfl,by simp [ln]⟩,rfl⟩,.inl ⟨rfl,rfl⟩,by simp;omega,by simp;omega,?_,by rw [List.length_append];omega,.inl rfl⟩
    rw [rV,rV,z3,Int.pow_zero,Int.mul_one]
    show ((0*_+_:Nat):Int)=_
    omega
 ·rw [if_neg g] at la ly
  unfold iY at la ly
  have tl:Tl2 (101::(m++c)) (p+(l.length:Int) - 1):=.inr ⟨m,sg,c,hm,fc,lc,lm,rfl,ec.symm⟩
  have t1:(l.take 1).length=1:=by rw [List.length_take];omega
  have t2:(l.drop 1).length=l.length - 1:=by rw [List.length_drop]
  have td:=List.take_append_drop 1 l
  have ft:nC (l.take 1)=true:=lK (fun c hc=>List.mem_of_mem_take hc) fl
  have fd:nC (l.drop 1)=true:=lK (fun c hc=>List.mem_of_mem_drop hc) fl
  generalize l.take 1=x at *
  generalize l.drop 1=y at *
  have nx:x≠[]:=fun z=>by rw [z] at t1;simp at t1
  by_cases g1:l.length>1
  ·rw [if_pos g1] at la ly
   have ny:y≠[]:=fun z=>by rw [z] at t2;simp at t2;omega
   rw [show ap h (ap (ap (ap x (ap [46] y)) [101]) (m++c))=h++(x++(46::y++101::(m++c))) by unfold ap;simp] at la ly
   exact ⟨x,46::y,y,101::(m++c),p+(l.length:Int) - 1,0,la,ly,aB.mpr ⟨ft,nx⟩,.inr ⟨aB.mpr ⟨fd,ny⟩,rfl⟩,tl,by rw [td];omega,by simp;omega,by rw [td,vf];simp,by omega,.inl rfl⟩
  ·rw [if_neg g1] at la ly
   have ny:y=[]:=List.eq_nil_of_length_eq_zero (by omega)
   subst ny
   rw [show ap h (ap (ap (ap x []) [101]) (m++c))=h++(x++([]++101::(m++c))) by unfold ap;simp] at la ly
   exact ⟨x,[],[],101::(m++c),p+(l.length:Int) - 1,0,la,ly,aB.mpr ⟨ft,nx⟩,.inl ⟨rfl,rfl⟩,tl,by rw [td];omega,by simp;omega,by rw [td,vf];simp,by simp;omega,.inl rfl⟩
theorem xK {a0 a1 a2 a3 a5:Option D} {f P:Int} {k:Nat} (f0:0<f) (h10:f%10≠0):dn (bQ (bin oGt (var 4) (con (.int 0))) (bin oEq (bin oMod (var 4) (con (.int 10))) (con (.int 0)))) (seq (assign 4 (bin oDiv (var 4) (con (.int 10)))) (assign 6 (bin aX (var 6) (con (.int 1)))))
  [a0,a1,a2,a3,some (.int (f*10^k)),a5,some (.int P)]=.nx [a0,a1,a2,a3,some (.int f),a5,some (.int (P+k))]:=by
 obtain ⟨δ',e1,⟨j,hj,e2⟩,e3⟩:=iX (c:=bQ (bin oGt (var 4) (con (.int 0))) (bin oEq (bin oMod (var 4) (con (.int 10))) (con (.int 0)))) (b:=seq (assign 4 (bin oDiv (var 4) (con (.int 10)))) (assign 6 (bin aX (var 6) (con (.int 1)))))
  (fun δ=>∃ j,j<=k/\δ=[a0,a1,a2,a3,some (.int (f*10^j)),a5,some (.int (P+k - j))]) (fun δ=>match δ with | [_,_,_,_,_,_,some (.int q)]=>(P+k - q).toNat | _=>0) (fun δ ⟨j,hj,e⟩=>by
   subst e
   have tp:(0:Int)<10^j:=aV j
   have fp:0<f*10^j:=Int.mul_pos f0 tp
   cases j with
   | zero =>
    refine .inl ?_
    rw [Int.pow_zero,Int.mul_one]
    simp_arith [f0,h10]
   | succ j =>
    have e10:f*10^(j+1)=f*10^j*10:=by rw [Int.pow_succ,Int.mul_assoc]
    rw [e10]
    rw [e10] at fp
    refine .inr ⟨?_,[a0,a1,a2,a3,some (.int (f*10^j)),a5,some (.int (P+k - j))],?_,⟨j,by omega,rfl⟩,?_⟩
    ·simp_arith [fp,show f*10^j*10%10=0 by omega]
    ·simp_arith [show f*10^j*10 / 10=f*10^j by omega,show P+(k:Int) - ((j+1:Nat):Int)+1=P+k - j by omega]
    ·show (P+k - (P+k - j)).toNat<(P+k - (P+k - ((j+1:Nat):Int))).toNat
     omega) [a0,a1,a2,a3,some (.int (f*10^k)),a5,some (.int P)] ⟨k,Nat.le_refl _,by rw [show P+(k:Int) - k=P by omega]⟩
 have j0:j=0:=by
  cases j with
  | zero=>rfl
  | succ j =>
   exfalso
   rw [e2] at e3
   have tp:(0:Int)<10^j:=aV j
   have e10:f*10^(j+1)=f*10^j*10:=by rw [Int.pow_succ,Int.mul_assoc]
   have fp:0<f*10^j:=Int.mul_pos f0 tp
   rw [e10] at e3
   revert e3
   simp_arith [show 0<f*10^j*10 by omega,show f*10^j*10%10=0 by omega]
   try simp
 subst j0
 rw [e1,e2]
 simp
theorem tK {h a pt b tl:List Nat} {s e f p:Int} {k:Nat} (hh:(h=[]/\s=0)\/(h=[45]/\s=1)) (ha:kT a=true) (hp:Pt pt b) (ht:Tl2 tl e) (l80:(a++b).length<=80) (ll:(h++(a++(pt++tl))).length<=200) (f0:0<f) (h10:f%10≠0)
  (ev1:(dv (a++b):Int)=f*10^k) (ev2:e - b.length=p - k):aA [.str (st (h++(a++(pt++tl))))]=.ok (.tup [.int f,.int p]):=by
 obtain ⟨a1,a2⟩:=aB.mp ha
 have n101:(101:Nat)∉a++pt:=by
  have x2:=f9 (c:=101) a1 (by decide)
  have x3:=wa (c:=101) hp (by decide) (by decide)
  simp [x2,x3]
 have n46:(46:Nat)∉a:=f9 a1 (by decide)
 have fb:nC b=true:=by
  rcases hp with ⟨_,rfl⟩ | ⟨z,_⟩
  ·rfl
  ·exact (aB.mp z).1
 have hda:∀ x:List Nat,(a++x).head? ≠ some 45:=fun x z=>by
  cases a with
  | nil=>exact absurd rfl a2
  | cons c r =>
   have:=dm.mp a1 c (by simp)
   simp at z
   omega
 have first:∃ j:Int,BL [.bl (decide ((h++(a++(pt++tl))).head? = some 45))]=.ok (.int j)/\Ax (.str (st (h++(a++(pt++tl))))) (some j) none=.ok (.str (st (a++(pt++tl)))):=by
  rcases hh with ⟨rfl,_⟩ | ⟨rfl,_⟩
  ·refine ⟨0,?_,?_⟩
   ·rw [List.nil_append,decide_eq_false (hda _)];rfl
   ·exact qG (a:=[]++(a++(pt++tl))) (k:=0) (by decide) (by omega) (by omega)
  ·refine ⟨1,rfl,?_⟩
   exact qG (a:=[45]++(a++(pt++tl))) (k:=1) (by decide) (by simp;omega) (by omega)
 obtain ⟨j,ej,sj⟩:=first
 have sw:=gM (l:=h++(a++(pt++tl))) (c:=45)
 have p2:aS 46 (a++pt)=(a,if pt=[] then [] else [46],b):=by
  rcases hp with ⟨rfl,rfl⟩ | ⟨h,rfl⟩
  ·rw [List.append_nil,jQ n46]
   rfl
  ·rw [iw n46,if_neg (by simp)]
 simp only [List.length_append] at ll
 have q2:=pO (l:=a++pt) (c:=46) (by simp only [List.length_append];omega)
 rw [p2] at q2
 simp only at q2
 have ab:=ub (a:=a) (b:=b) (by rw [List.length_append] at l80;omega)
 have cn:=wU (l:=a++b) (aB.mpr ⟨by rw [lL,a1,fb];rfl,by simp [a2]⟩) l80
 have ln:=bF (a:=b) (by rw [List.length_append] at l80;omega)
 rw [ev1] at cn
 have fk:0<f*10^k:=Int.mul_pos f0 (aV k)
 have q1:=pO (l:=a++(pt++tl)) (c:=101) (by simp only [List.length_append];omega)
 unfold aA bP
 generalize (if pt=[] then [] else [46]:List Nat)=pd at *
 generalize decide ((h++(a++(pt++tl))).head? = some 45)=kk at *
 generalize hw:dn _ _=W
 have wl:=fun (a0 a1 a2 a3 a5:Option D) (P:Int)=>xK (a0:=a0) (a1:=a1) (a2:=a2) (a3:=a3) (a5:=a5) (f:=f) (P:=P) (k:=k) f0 h10
 rw [hw] at wl
 have fin:p - (k:Int)+k=p:=by omega
 rcases ht with ⟨rfl,rfl⟩ | ⟨m2,s2,c,h1,h2,h3,h4,rfl,rfl⟩
 ·rw [List.append_nil] at q1 sj sw ⊢
  rw [jQ n101] at q1
  simp only at q1
  have se:=gM (l:=[]) (c:=45)
  have se':decide (([]:List Nat).head? = some 45)=false:=rfl
  rw [se'] at se
  generalize h++(a++pt)=M0 at *
  generalize a++pt=M at *
  generalize a++b=M3 at *
  generalize f*10^k=G at *
  simp_arith [yA,j7,dt,d45,sw,ej,sj,Hz,q1,d46,q2,ab,cn,gN,show ¬ ([]:List Nat)=[101] by decide,show ¬ G<0 by omega,se,ln,ev2,wl,fin]
 ·rw [show a++(pt++101::(m2++c))=(a++pt)++101::(m2++c) by simp,iw n101] at q1
  simp only at q1
  obtain ⟨c1,c2⟩:=aB.mp h2
  have lm:m2.length<=1:=by rcases h1 with ⟨rfl,_⟩ | ⟨rfl,_⟩<;>simp
  have cc:=wU h2 (by omega)
  have hdc:¬ c.head? = some 45:=fun z=>by
   have:=dm.mp c1 45 (List.mem_of_mem_head? z)
   omega
  have sw2:=gM (l:=m2++c) (c:=45)
  rw [show a++(pt++101::(m2++c))=(a++pt)++101::(m2++c) by simp] at sj sw ⊢
  rcases h1 with ⟨rfl,rfl⟩ | ⟨rfl,rfl⟩
  ·rw [if_neg (by decide)] at ev2
   rw [List.nil_append] at q1 sw2 sj sw ⊢
   rw [decide_eq_false hdc] at sw2
   have s2:=qG (a:=c) (k:=0) (by decide) (by omega) (by omega)
   rw [show (0:Int).toNat=0 from rfl,List.drop_zero] at s2
   have b0:BL [.bl false]=.ok (.int 0):=rfl
   generalize h++(a++pt++101::c)=M0 at *
   generalize a++pt++101::c=M1 at *
   generalize a++pt=M at *
   generalize a++b=M3 at *
   generalize f*10^k=G at *
   simp_arith [yA,j7,dt,d45,sw,ej,sj,Hz,q1,d46,q2,ab,cn,sw2,b0,s2,cc,show ¬ G<0 by omega,show ¬ ((dv c:Nat):Int)<0 by omega,show ¬ 9999<((dv c:Nat):Int) by omega,ln,ev2,wl,fin]
  ·rw [if_pos rfl] at ev2
   have hd1:([45]++c).head? = some 45:=rfl
   rw [decide_eq_true hd1] at sw2
   have s2:=qG (a:=[45]++c) (k:=1) (by decide) (by simp;omega) (by simp;omega)
   have dr:([45]++c).drop 1=c:=rfl
   rw [show (1:Int).toNat=1 from rfl,dr] at s2
   have b0:BL [.bl true]=.ok (.int 1):=rfl
   generalize h++(a++pt++101::([45]++c))=M0 at *
   generalize a++pt++101::([45]++c)=M1 at *
   generalize [45]++c=M5 at *
   generalize a++pt=M at *
   generalize a++b=M3 at *
   generalize f*10^k=G at *
   simp_arith [yA,j7,dt,d45,sw,ej,sj,Hz,q1,d46,q2,ab,cn,sw2,b0,s2,cc,show ¬ G<0 by omega,show ¬ ((dv c:Nat):Int)<0 by omega,show ¬ 9999<((dv c:Nat):Int) by omega,ln,ev2,wl,fin]
theorem tV {E F s d f p:Int} (h:Sz E F) (hs:0<=s/\s<=1) (d0:0<d) (d1:d<pw (E+F) - pw F) (f0:0<=f) (nf:nb f<=500000) (p0 : -9000<=p) (p1:p<=9000) (hw:Wn (aT F d) (bT F d) (d%2=0) (2*(f*uT E F p))) :
  ∃ fl,aK [.tup [.int E,.int F],.str Wy.even.s,.int s,.int (tnT f p),.int (tnB 1 p)]=.ok (.tup [.int (s*pw (E+F)+d),.int fl]):=by
 obtain ⟨z1,z2,z3,z4⟩:=lQ (t:=f) (n:=1) (p:=p) (by omega) (by omega) f0 (by decide) nf (by decide)
 obtain ⟨c,r,e,a⟩:=l7 h z1 z2 z3 z4
 have e:=e .even s hs
 have k:stK .even E F s c r=d:=by
  refine (A4 z2 a (by omega) d1).mpr ?_
  have key:JJ F (tnT f p*pw (-(lo E F))) (tnB 1 p) d↔Wn (aT F d) (bT F d) (d%2=0) (2*(f*uT E F p)):=by
   unfold tnT tnB at *
   by_cases g:0<=p
   ·rw [if_pos g,if_pos g] at *
    refine wA (c:=10^9000) d0 p9 ?_ ?_ ?_ (by decide)
    ·rw [Int.mul_one];rfl
    ·rw [Int.mul_one];rfl
    ·unfold uT
     rw [show (p+9000).toNat=p.toNat+9000 by omega,Int.pow_add]
     generalize (10:Int)^9000=z
     simp only [Int.mul_assoc,Int.mul_comm,Int.mul_left_comm]
   ·rw [if_neg g,if_neg g] at *
    have x:(10:Int)^(-p).toNat*10^(p+9000).toNat=10^9000:=by rw [<- Int.pow_add];congr 1;omega
    refine wA (c:=10^(p+9000).toNat) d0 (aV _) ?_ ?_ ?_ (by omega)
    ·unfold aT
     rw [<- x]
     simp only [Int.one_mul,Int.mul_assoc]
    ·unfold bT
     rw [<- x]
     simp only [Int.one_mul,Int.mul_assoc]
    ·unfold uT
     simp only [Int.mul_assoc,Int.mul_comm,Int.mul_left_comm]
  exact key.mpr hw
 rw [k] at e
 exact ⟨_,e⟩
structure Fin3 (E F s d:Int) (T:List Nat) (f p:Int):Prop where
 sh:ck [.tup [.int E,.int F],.int (s*pw (E+F)+d)]=.ok (.str (st T))
 sp:aA [.str (st T)]=.ok (.tup [.int f,.int p])
 ly:bK [.int s,.int f,.int p]=.ok (.str (st T))
 best:bN [.tup [.int E,.int F],.int d,.int f,.int p]=.ok (.bl true)
 f0:0<f
 p0 : -9000<=p
 p1:p<=9000
 nf:nb f<=200
 rd:∀ w:Wy,gT [.tup [.int E,.int F],.str w.s,.str (st T)]=aK [.tup [.int E,.int F],.str w.s,.int s,.int (tnT f p),.int (tnB 1 p)]
 back:∃ fl,aK [.tup [.int E,.int F],.str Wy.even.s,.int s,.int (tnT f p),.int (tnB 1 p)]=.ok (.tup [.int (s*pw (E+F)+d),.int fl])
theorem Sy {E F s d:Int} (h:Sz E F) (hs:0<=s/\s<=1) (d0:0<d) (d1:d<pw (E+F) - pw F):∃ T f p,Fin3 E F s d T f p:=by
 obtain ⟨f,p,g,q0,g0,k,es,G,ef,ep,h10,fb,pb,gb⟩:=tN h hs d0 d1
 have S:=zQ (E:=E) (F:=F) d0
 obtain ⟨eU,f0,cs⟩:=G.bare S ef ep h10
 have hi:=G.hi
 have p130:pw 130=2^130:=rfl
 have f1:f<1000000000000000000000000000000000000000000000000000000000000:=by
  rcases cs with ⟨_,y,_⟩ | ⟨_,y,_,_⟩<;>omega
 have pl : -9000<=p/\p<=9000:=by
  rcases cs with ⟨_,_,y⟩ | ⟨_,_,y,_⟩<;>omega
 have nf:nb f<=200:=iB.mpr (by omega)
 have eb:=Hi h d0 d1 G ef ep h10 fb pb gb
 have hh:((if s=1 then [45] else []:List Nat)=[]/\s=0)\/((if s=1 then [45] else []:List Nat)=[45]/\s=1):=by
  rcases (show s=0\/s=1 by omega) with e | e<;>subst e
  ·exact .inl ⟨rfl,rfl⟩
  ·exact .inr ⟨rfl,rfl⟩
 have mk:=PC hs rfl
 obtain ⟨a,pt,b,tl,e,j,la,ly,fa,hP,hT,l80,ll,v1,v2,v3⟩:=yi (p:=p) hs rfl f0 f1 pl.1 pl.2
 generalize (if s=1 then [45] else []:List Nat)=hd at *
 have so:=tK hh fa hP hT l80 ll f0 h10 v1 v2
 have h5:=bE h
 have hQ:=ai F
 have ki:=mv (c:=d) h hs (by omega) (by omega)
 have kc:=(gW (c:=d) h (by omega) (by omega)).2.2.2 d0 d1
 have sp:=zM mk fa hP (Ia hT) (Nat.le_trans ll (by decide))
 have nw:=v7 (i:=0) (j:=0) mk fa hP (Ia hT)
 simp only [List.replicate_zero,List.nil_append,List.append_nil] at nw
 rw [v1,v2] at sp
 have nk:nb (f*10^j)<=500000:=by
  have a1:=eV nf (kd j)
  omega
 have rd:=fun w=>vr (E:=E) (F:=F) w (Nat.le_trans ll (by decide)) sp nw (by omega) (by omega) nk
 have sw:tnT (f*10^j) (p - j)=tnT f p/\tnB 1 (p - j)=tnB 1 p:=by
  rcases v3 with z | ⟨z1,z2⟩
  ·subst z
   simp
  ·unfold tnT tnB
   rw [show p - (j:Int)=0 by omega,if_pos (by decide),if_pos (by omega),if_pos (by decide),if_pos (by omega),show p.toNat=j by omega]
   simp
 rw [sw.1,sw.2] at rd
 have wn:Wn (aT F d) (bT F d) (d%2=0) (2*(f*uT E F p)):=by
  rw [eU]
  exact G.rd
 have bk:=tV h hs d0 d1 (Int.le_of_lt f0) (Nat.le_trans nf (by decide)) pl.1 pl.2 wn
 refine ⟨_,f,p,?_,so,ly,eb,f0,pl.1,pl.2,nf,rd,bk⟩
 generalize s*pw (E+F)+d=bb at *
 unfold ck gZ
 rcases kc with z | z
 ·rw [z] at ki
  simp_arith [ki,es,la]
 ·rw [z] at ki
  simp_arith [ki,es,la]
theorem l2 (a b:D):oIx (.lst [a,b]) (.int 0)=.ok a/\oIx (.lst [a,b]) (.int 1)=.ok b:=⟨rfl,rfl⟩
theorem dE1:PySem.Str.ofString "-endless"=st [45,101,110,100,108,101,115,115]:=by decide
def LW (E F s d:Int) (T:List Nat):Prop:=ck [.tup [.int E,.int F],.int (s*pw (E+F)+d)]=.ok (.str (st T))/\aG [.tup [.int E,.int F],.int s,.int d,.str (st T)]=.ok (.bl true) /\
 ∀ w:Wy,aH [.tup [.int E,.int F],.int s,.int d,.str w.s,.str (st T)]=.ok (.bl true)
theorem mO {l:List Nat} (h0:l≠[]) (h:32∉l):bare l=l:=by
 have:=uu (i:=0) (j:=0) (l:=l) h0 (fun z=>h (List.mem_of_mem_head? z)) (fun z=>h (List.mem_of_getLast? z))
 simpa using this
theorem mW {E F s d K:Int} {T:List Nat} (w:Wy) (h:Sz E F) (hs:0<=s/\s<=1) (hd:d=0\/(pw E - 1)*pw F<=d) (k1:d<=(pw E - 1)*pw F->s*pw (E+F)+d=K) (k2:(pw E - 1)*pw F<d->(pw E - 1)*pw F+pw (F - 1)=K)
  (rd:gT [.tup [.int E,.int F],.str w.s,.str (st T)]=.ok (.tup [.int K,.int 0])):aH [.tup [.int E,.int F],.int s,.int d,.str w.s,.str (st T)]=.ok (.bl true):=by
 obtain ⟨j1,j2,j3,j4⟩:=id h
 have hE2:=fE h
 have hE4:=gQ j1
 have sE:=jK (k:=E) (by omega) (by omega)
 have sF1:=jK (k:=F - 1) (by omega) (by omega)
 have nE:nb (pw E - 1)<=17:=bS (by omega) (by omega)
 have s3:=ay (i:=pw E - 1) (j:=F) (by omega) (by omega)
 have ns1:nb s<=1:=bS hs.1 (by omega)
 have sS:=ay (i:=s) (j:=E+F) (by omega) (by omega)
 unfold aH bw
 have i1:ifs (bin oGt (var 2) (var 6)) (assign 7 (bin aX (var 6) (bin cO (con (.int 1)) (bin cM (bin oIx (var 0) (con (.int 1))) (con (.int 1)))))) ao [some (.tup [.int E,.int F]),some (.int s),some (.int d),some (.str w.s),some (.str (st T)),some (.tup [.int K,.int 0]),some (.int ((pw E - 1)*pw F)),some (.int (s*pw (E+F)+d)),none,none]=.nx [some (.tup [.int E,.int F]),some (.int s),some (.int d),some (.str w.s),some (.str (st T)),some (.tup [.int K,.int 0]),some (.int ((pw E - 1)*pw F)),some (.int K),none,none]:=by
  by_cases g:(pw E - 1)*pw F<d
  ·simp_arith [g,sF1,k2 g]
  ·simp_arith [g,k1 (by omega)]
 have o1:or_ (bin oEq (var 2) (con (.int 0))) (bin oGe (var 2) (var 6)) [some (.tup [.int E,.int F]),some (.int s),some (.int d),some (.str w.s),some (.str (st T)),some (.tup [.int K,.int 0]),some (.int ((pw E - 1)*pw F)),some (.int K),none,none]=.ok (.bl true):=by
  by_cases g:d=0
  ·simp_arith [eq_true g]
  ·simp_arith [g,show (pw E - 1)*pw F<=d by omega]
 have o2:bQ (bin oEq (var 3) (con (.str "even"))) (bin oNe (bin oIx (var 5) (con (.int 0))) (var 7)) [some (.tup [.int E,.int F]),some (.int s),some (.int d),some (.str w.s),some (.str (st T)),some (.tup [.int K,.int 0]),some (.int ((pw E - 1)*pw F)),some (.int K),none,none]=.ok (.bl false):=by
  by_cases we:w.s=PySem.Str.ofString "even"
  ·simp_arith [eq_true we]
  ·simp_arith [we]
 generalize or_ (bin oEq (var 2) (con (.int 0))) (bin oGe (var 2) (var 6))=O1 at *
 generalize bQ (bin oEq (var 3) (con (.str "even"))) (bin oNe (bin oIx (var 5) (con (.int 0))) (var 7))=O2 at *
 generalize ifs (bin oGt (var 2) (var 6)) (assign 7 (bin aX (var 6) (bin cO (con (.int 1)) (bin cM (bin oIx (var 0) (con (.int 1))) (con (.int 1)))))) ao=I1 at *
 simp_arith [rd,sE,s3,sS,i1,dZ,o1,o2]
theorem SJ {E F s d:Int} (h:Sz E F) (hs:0<=s/\s<=1) (d0:0<=d) (d1:d<pw (E+F)):∃ T,LW E F s d T:=by
 obtain ⟨k1,k2,k3,k4⟩:=id h
 have hh:=bE h
 have hQ:=oq k3
 have eM:=end_is h
 have hE2:=fE h
 have hE4:=gQ k1
 have sE:=jK (k:=E) (by omega) (by omega)
 have sF1:=jK (k:=F - 1) (by omega) (by omega)
 have nE:nb (pw E - 1)<=17:=bS (by omega) (by omega)
 have s3:=ay (i:=pw E - 1) (j:=F) (by omega) (by omega)
 have ns1:nb s<=1:=bS hs.1 (by omega)
 have sS:=ay (i:=s) (j:=E+F) (by omega) (by omega)
 unfold LW
 rcases Int.lt_trichotomy d (pw (E+F) - pw F) with g | g | g
 ·by_cases gz:d=0
  ·-- nought
   subst gz
   have sz:=xO h hs rfl
   have mk:=PC hs rfl
   have he:∃ hd:List Nat,(if s=1 then [45] else []:List Nat)=hd/\oIx (.lst [.str "0",.str "-0"]) (.int s)=.ok (.str (st (hd++[48])))/\hd.length<=1:=by
    rcases (show s=0\/s=1 by omega) with e | e<;>subst e
    ·exact ⟨[],rfl,rfl,by decide⟩
    ·exact ⟨[45],rfl,rfl,by decide⟩
   obtain ⟨hd,e1,e2,e3⟩:=he
   rw [e1] at sz mk
   have sp:=zM (a:=[48]) (pt:=[]) (b:=[]) (tl:=[]) mk (by decide) (.inl ⟨rfl,rfl⟩) (.inl ⟨rfl,rfl⟩) (by simp;omega)
   have nw:=v7 (i:=0) (j:=0) (a:=[48]) (pt:=[]) (b:=[]) (tl:=[]) mk (by decide) (.inl ⟨rfl,rfl⟩) (.inl ⟨rfl,rfl⟩)
   simp only [List.replicate_zero,List.nil_append,List.append_nil] at nw sp
   rw [show ((dv [48]:Nat):Int)=0 from rfl,show (0:Int) - (([]:List Nat).length:Int)=0 from rfl] at sp
   have rd:=fun w=>vr (E:=E) (F:=F) w (show (hd++[48]).length<=400 by simp;omega) sp nw (by decide) (by decide) (by decide)
   have t0:tnT 0 0=0:=rfl
   have t1:tnB 1 0=1:=rfl
   rw [t0,t1] at rd
   refine ⟨hd++[48],sz,?_,fun w => ?_⟩
   ·generalize hd++[48]=T at *
    unfold aG aO
    simp_arith [sE,s3,show ¬ (pw E - 1)*pw F<0 by omega,show ¬ 0=(pw E - 1)*pw F by omega,e2]
   ·have r2:=rd w
    rw [j8 w h hs (by decide)] at r2
    exact mW w h hs (.inl rfl) (fun _=>Int.add_zero _) (fun z=>absurd z (by omega)) r2
  ·-- finite
   obtain ⟨T,f,p,R⟩:=Sy h hs (show 0<d by omega) g
   refine ⟨T,R.sh,?_,fun w => ?_⟩
   ·have f0:=R.f0
    unfold aG aO
    simp_arith [sE,s3,show ¬ (pw E - 1)*pw F<d by omega,show ¬ d=(pw E - 1)*pw F by omega,gz,R.sp,show ¬ f=0 by omega,R.ly,R.best]
   ·have f0:=R.f0
    have p0:=R.p0
    have p1:=R.p1
    have nf:=R.nf
    have l:=mq h
    have sE1:=jK (k:=E - 1) (by omega) (by omega)
    have e1:pw (E - 1) - 2+F = -(lo E F):=by unfold lo;omega
    obtain ⟨z1,z2,z3,z4⟩:=lQ (t:=f) (n:=1) (p:=p) (by omega) (by omega) (Int.le_of_lt f0) (by decide) (Nat.le_trans nf (by decide)) (by decide)
    have tp:0<tnT f p:=by
     unfold tnT
     split
     ·exact Int.mul_pos f0 (aV _)
     ·omega
    obtain ⟨y,y1,y2⟩:=G2 w h hs tp z2 z3 z4
    have rd:=R.rd w
    rw [y1] at rd
    obtain ⟨u,fl,ey,ue⟩:∃ u fl,y=[.int u,.int fl]/\(w.s=PySem.Str.ofString "even"->u=s*pw (E+F)+d):=by
     obtain ⟨c,r,ee,_⟩:=l7 h z1 z2 z3 z4
     have ee:=ee w s hs
     rw [y1] at ee
     injection ee with ee
     injection ee with ee
     refine ⟨_,_,ee,fun we => ?_⟩
     obtain ⟨fl,bk⟩:=R.back
     have w2:w=.even:=by
      cases w with
      | even=>rfl
      | away=>exact absurd we (by decide)
      | nought=>exact absurd we (by decide)
      | up=>exact absurd we (by decide)
      | down=>exact absurd we (by decide)
     subst w2
     rw [bk] at y1
     injection y1 with y1
     injection y1 with y1
     rw [ee] at y1
     injection y1 with y1 _
     injection y1 with y1
     exact y1.symm
    subst ey
    have hp:pw ((19:Nat):Int)=524288:=rfl
    have sp:=R.sp
    unfold aH bw
    have o1:or_ (bin oEq (var 2) (con (.int 0))) (bin oGe (var 2) (var 6)) [some (.tup [.int E,.int F]),some (.int s),some (.int d),some (.str w.s),some (.str (st T)),some (.tup [.int u,.int fl]),some (.int ((pw E - 1)*pw F)),some (.int (s*pw (E+F)+d)),none,none]=.ok (.bl false):=by
     simp_arith [gz,show ¬ (pw E - 1)*pw F<=d by omega]
    have o2:bQ (bin oEq (var 3) (con (.str "even"))) (bin oNe (bin oIx (var 5) (con (.int 0))) (var 7)) [some (.tup [.int E,.int F]),some (.int s),some (.int d),some (.str w.s),some (.str (st T)),some (.tup [.int u,.int fl]),some (.int ((pw E - 1)*pw F)),some (.int (s*pw (E+F)+d)),none,none]=.ok (.bl false):=by
     by_cases we:w.s=PySem.Str.ofString "even"
     ·simp_arith [eq_true we,eq_true (ue we)]
     ·simp_arith [we]
    generalize hO1:or_ (bin oEq (var 2) (con (.int 0))) (bin oGe (var 2) (var 6))=O1 at *
    generalize hO2:bQ (bin oEq (var 3) (con (.str "even"))) (bin oNe (bin oIx (var 5) (con (.int 0))) (var 7))=O2 at *
    generalize htl:seq (ifs (bin oLt (bin oIx (var 8) (con (.int 1))) (con (.int 0))) _ _) _=tl
    have et:tl [some (.tup [.int E,.int F]),some (.int s),some (.int d),some (.str w.s),some (.str (st T)),some (.tup [.int u,.int fl]),some (.int ((pw E - 1)*pw F)),some (.int (s*pw (E+F)+d)),some (.tup [.int f,.int p]),some (.int (-(lo E F)))]=.rt (.bl true):=by
     subst htl
     clear rd sE sF1 s3 sS sE1 o1 o2 hO1 hO2 sp
     by_cases gp:p<0
     ·have u1:tnT f p=f:=by unfold tnT;rw [if_neg (by omega)]
      have u2:tnB 1 p=10^(-p).toNat:=by unfold tnB;rw [if_neg (by omega),Int.one_mul]
      rw [u1,u2] at y2
      have pk:=iv 19 (-p) (by omega) (by omega) (by omega)
      have sh:=ay (i:=f) (j := -(lo E F)) (by omega) (by omega)
      generalize ar 20=A at *
      generalize (10:Int)^(-p).toNat=v at *
      simp_arith [gp,sh,pk,y2]
     ·have u1:tnT f p=f*10^p.toNat:=by unfold tnT;rw [if_pos (by omega)]
      have u2:tnB 1 p=1:=by unfold tnB;rw [if_pos (by omega)]
      rw [u1,u2] at y2
      have pk:=iv 19 p (by omega) (by omega) (by omega)
      have nu:=lR (p:=p) (by omega)
      rw [u1] at z3
      generalize ar 20=A at *
      generalize (10:Int)^p.toNat=v at *
      have mu:MulOk f v:=MulOk.of nf nu (by decide)
      have sh:=ay (i:=f*v) (j := -(lo E F)) (by omega) (by omega)
      simp_arith [gp,ak mu,sh,pk,y2]
    simp_arith [rd,sE,s3,sS,show ¬ (pw E - 1)*pw F<d by omega,dZ,o1,o2,sp,sE1,e1,et]
 ·-- endless
  have e0:d=(pw E - 1)*pw F:=by omega
  have key:∀ T:List Nat,oIx (.lst [.str "endless",.str "-endless"]) (.int s)=.ok (.str (st T))->T.length<=8->(signOf (bare T)).1=s->(signOf (bare T)).2=[101,110,100,108,101,115,115]->ck [.tup [.int E,.int F],.int (s*pw (E+F)+d)]=.ok (.str (st T))->∃ T,LW E F s d T:=fun T t1 t2 t3 t4 t5=>by
   refine ⟨T,t5,?_,fun w => ?_⟩
   ·unfold aG aO
    simp_arith [sE,s3,show ¬ (pw E - 1)*pw F<d by omega,eq_true e0,t1]
   ·have rd:=Cs (l:=T) w h (by omega) t4
    rw [t3,<-e0] at rd
    exact mW w h hs (.inr (by omega)) (fun _=>rfl) (fun z=>absurd z (by omega)) rd
  rcases (show s=0\/s=1 by omega) with e | e
  ·subst e
   have b:=mO (l:=[101,110,100,108,101,115,115]) (by decide) (by decide)
   refine key [101,110,100,108,101,115,115] (by rw [Hb];rfl) (by decide) (by rw [b];rfl) (by rw [b];rfl) ?_
   have:=xQ h
   rw [Hb] at this
   rw [Int.zero_mul,Int.zero_add,e0]
   exact this
  ·subst e
   have b:=mO (l:=[45,101,110,100,108,101,115,115]) (by decide) (by decide)
   refine key [45,101,110,100,108,101,115,115] (by rw [dE1];rfl) (by decide) (by rw [b];rfl) (by rw [b];rfl) ?_
   have:=xP h
   rw [dE1] at this
   rw [Int.one_mul,e0]
   exact this
 ·-- no number
  have sn:=shown_none h hs g d1
  rw [Hy] at sn
  refine ⟨_,sn,?_,fun w => ?_⟩
  ·unfold aG aO
   simp_arith [sE,s3,show (pw E - 1)*pw F<d by omega,Hy]
  ·have b:=mO (l:=[110,111,110,101]) (by decide) (by decide)
   have rd:=Ae (l:=[110,111,110,101]) w h (by decide) (by rw [b];rfl)
   exact mW w h hs (.inr (by omega)) (fun z=>absurd z (by omega)) (fun _=>rfl) rd
theorem P2 {ns:List Int}:EV.cut (ns.map D.int) (some 1) (some 64)=((ns.drop 1).take (min 64 ns.length - min 1 ns.length)).map D.int:=by
 unfold EV.cut sIx
 simp only [if_neg (show ¬ (64:Int)<0 by decide),if_neg (show ¬ (1:Int)<0 by decide),List.length_map,show (64:Int).toNat=64 from rfl,show (1:Int).toNat=1 from rfl]
 rw [List.map_take,List.map_drop]
 by_cases g:1<=ns.length
 ·rw [show min 1 ns.length=1 by omega]
 ·have:ns=[]:=List.eq_nil_of_length_eq_zero (by omega)
  subst this
  rfl
theorem CT:Good CD:=by
 intro ns hl hb
 unfold CD C5
 have q0:=He (ns:=ns) (j:=0) (by decide)
 simp only [show (0:Int).toNat=0 from rfl] at q0
 have mem:∀ c∈(ns.drop 1).take (min 64 ns.length - min 1 ns.length),c∈ns:=fun c hc=>List.mem_of_mem_drop (List.mem_of_mem_take hc)
 have c1:=P2 (ns:=ns)
 have ml:((ns.drop 1).take (min 64 ns.length - min 1 ns.length)).length<=63:=by rw [List.length_take,List.length_drop];omega
 generalize (ns.drop 1).take (min 64 ns.length - min 1 ns.length)=cs at *
 obtain ⟨E,F,eS,h⟩:=tL (c:=ns.getD 0 0) (n:=(cs.length:Int)) (by omega)
 generalize ns.getD 0 0=x0 at *
 generalize hbody:seq (assign 4 (call bO [var 2,var 3])) _=body
 obtain ⟨δ,e,_⟩:=wI (i:=3) (body:=body) (fun δ=>∃ z3 z4 z5,δ=[some (.lst (ns.map .int)),some (.lst (cs.map .int)),some (.tup [.int E,.int F]),z3,z4,z5]) (cs.map D.int) (fun d hd δ ⟨z3,z4,z5,hz⟩=>by
  obtain ⟨c,hc,rfl⟩:=List.mem_map.mp hd
  subst hz
  have nc:=hb c (mem c hc)
  obtain ⟨d,ed,d0,d1⟩:=Bw h nc
  obtain ⟨T,t1,t2,t3⟩:=SJ (s:=c%2) h (by omega) d0 d1
  obtain ⟨w,ew⟩:=yU (c*48271%2147483647)
  have mm:MulOk c 48271:=MulOk.of nc (b:=200) (iB.mpr (by decide)) (by decide)
  have sS:=ay (i:=c%2) (j:=E+F) (by have:=h.1;have:=h.2.2.1;omega) (by
   have:=h.2.1
   have:=h.2.2.2
   have:nb (c%2)<=1:=bS (by omega) (by omega)
   omega)
  rw [Int.add_comm] at t1
  have te:=t3 .even
  rw [show Wy.even.s=PySem.Str.ofString "even" from rfl] at te
  refine ⟨[some (.lst (ns.map .int)),some (.lst (cs.map .int)),some (.tup [.int E,.int F]),some (.int c),some (.tup [.int (c%2),.int d]),some (.str (st T))],.inl ?_,_,_,_,rfl⟩
  rw [<- hbody]
  simp_arith [ed,sS,t1,t2,te,ak mm,ew,t3 w]) [some (.lst (ns.map .int)),some (.lst (cs.map .int)),some (.tup [.int E,.int F]),none,none,none] ⟨_,_,_,rfl⟩
 obtain ⟨z3,z4,z5,rfl⟩:∃ z3 z4 z5,δ=[some (.lst (ns.map .int)),some (.lst (cs.map .int)),some (.tup [.int E,.int F]),z3,z4,z5]:=by assumption
 simp_arith [c1,q0,eS,e]
end T
open PySem PySem.W PyProof.Rows
set_option maxHeartbeats 0 in
theorem PySem.Challenge.cw_roundmill_k57_whole_shown_and_read_holds : PySem.Challenge.rw_roundmill_k57_whole_shown_and_read.Holds := by
 w_on;o_law
 refine holds_open (q:=H.q) (loose:=[]) (Xt:=H.Xt) (XP:=XL H.q []) (Yf:=(kHook H.K H.as H.he).obs) (Ya:=(kHook H.K H.as H.he).val) (YP:=(kHook H.K H.as H.he).says) (N:=7402) H.left (kHook H.K H.as H.he).of (kHook H.K H.as H.he).keeps (fun s e=>xl_of s (Bool.and_eq_true_iff.mp e).1) XL.keeps (by rfl) (by rfl) (by rfl) (fun s e=>recFacts_of (Bool.and_eq_true_iff.mp e).2) (by rfl) (by first | assumption | decide +kernel) (by decide +kernel) ⟨rfl,rfl,rfl,rfl,rfl,by decide +kernel⟩ ?hw ?hc
 (case hw=>w_witness2)
 k_fill
 refine ES.Cd (l:=PySem.Challenge.rw_roundmill_k57_whole_shown_and_read) (k:=27) (x:="_law_script") (f:=T.CD) T.CT rfl rfl ⟨rfl,by decide,by decide⟩ (fun w h Y=>PySem.W.kIn_of Y) ?F
 case F =>
  intro w mg fa h KX GG hmg
  refine' T.all_mk KX GG hmg ?n_Way ?pg_Way ?hd_Way ?po_Way ?sa_Way ?na_Way ?aIWay ?uIWay ?mm_Way ?kc_Way ?lIWay ?eIWay ?kIWay ?q1 ?q2 ?q3 ?q4 ?q5 ?q6 ?q7 ?q8 ?q9 ?q10 ?q11 ?q12 ?q13 ?q14 ?a15 ?l15 ?e15 ?k15 ?q16 ?q17 ?q18 ?q19 ?q20 ?q21 ?q22 ?q23 ?q24 ?q25 ?q26 ?q27 ?q28 ?q29 ?a30 ?u30 ?l30 ?e30 ?k30 ?a31 ?u31 ?l31 ?e31 ?k31 ?a32 ?u32 ?l32 ?e32 ?k32 ?q33 ?q34 ?q35 ?q36 ?q37 ?q38 ?q39 ?q40 ?q41 ?q42 ?q43 ?a44 ?l44 ?e44 ?k44 ?q45 ?q46 ?q47 ?q48 ?q49 ?q50 ?q51 ?q52 ?q53 ?q54 ?q55 ?q56 ?q57 ?q58 ?q59 ?q60 ?q61 ?q62 ?a63 ?l63 ?e63 ?k63 ?z_len ?z_max ?z_str ?z_int ?z_abs ?z_isinstance ?z_all ?z_bool ?z_tuple ?y_NAMES ?yl_NAMES ?y_INEXACT ?y_GREAT ?y_SMALL ?y_LONGEST_LINE ?y_FIGURES ?y_LONGEST_EXPONENT ?n_MillError ?n_NoBits ?n_NotFinite ?n_NoWay ?n_NoFraction ?n_NoText ?xi_NoBits ?xi_NotFinite ?xi_NoWay ?xi_NoFraction ?xi_NoText ?v_MillError ?w_NoSize ?v_NoBits ?w_NoParts ?w_NoRank ?v_NotFinite ?v_NoWay ?w_NoFlags ?v_NoFraction ?w_Unlike ?w_Empty ?w_NoLeft ?v_NoText ?w_NoRow ?w_NoName ?w_Stopped ?i_str_NoneType ?i_str_bool ?i_str_int ?i_str_str ?i_str_tuple ?i_str_list ?i_int_NoneType ?i_int_bool ?i_int_int ?i_int_str ?i_int_tuple ?i_int_list ?i_bool_NoneType ?i_bool_bool ?i_bool_int ?i_bool_str ?i_bool_tuple ?i_bool_list ?i_tuple_NoneType ?i_tuple_bool ?i_tuple_int ?i_tuple_str ?i_tuple_tuple ?i_tuple_list
  (case n_Way | pg_Way | hd_Way | po_Way | sa_Way | na_Way | aIWay | uIWay | mm_Way | kc_Way | lIWay | eIWay | kIWay=>k_is)
  (case q1 | q2 | q3 | q4 | q5 | q6 | q7 | q8 | q9 | q10 | q11 | q12 | q13 | q14=>exact ES.De (by k_is) (by k_is) (by k_is) (by k_is))
  (case a15 | l15 | e15 | k15=>k_is)
  (case q16 | q17 | q18 | q19 | q20 | q21 | q22 | q23 | q24 | q25 | q26 | q27 | q28 | q29=>exact ES.De (by k_is) (by k_is) (by k_is) (by k_is))
  (case a30 | u30 | l30 | e30 | k30 | a31 | u31 | l31 | e31 | k31 | a32 | u32 | l32 | e32 | k32=>k_is)
  (case q33 | q34 | q35 | q36 | q37 | q38 | q39 | q40 | q41 | q42 | q43=>exact ES.De (by k_is) (by k_is) (by k_is) (by k_is))
  (case a44 | l44 | e44 | k44=>k_is)
  (case q45 | q46 | q47 | q48 | q49 | q50 | q51 | q52 | q53 | q54 | q55 | q56 | q57 | q58 | q59 | q60 | q61 | q62=>exact ES.De (by k_is) (by k_is) (by k_is) (by k_is))
  (case a63 | l63 | e63 | k63 | z_len | z_max | z_str | z_int | z_abs | z_isinstance | z_all | z_bool | z_tuple | y_NAMES | yl_NAMES | y_INEXACT | y_GREAT | y_SMALL | y_LONGEST_LINE | y_FIGURES | y_LONGEST_EXPONENT | n_MillError | n_NoBits | n_NotFinite | n_NoWay | n_NoFraction | n_NoText=>k_is)
  (case xi_NoBits | xi_NotFinite | xi_NoWay | xi_NoFraction | xi_NoText=>k_exc)
  (case v_MillError=>exact ⟨by k_is,by k_is,by k_is,by k_is,by k_is,⟨_,by k_is⟩⟩)
  (case w_NoSize=>k_is)
  (case v_NoBits=>exact ⟨by k_is,by k_is,by k_is,by k_is,by k_is,⟨_,by k_is⟩⟩)
  (case w_NoParts | w_NoRank=>k_is)
  (case v_NotFinite | v_NoWay=>exact ⟨by k_is,by k_is,by k_is,by k_is,by k_is,⟨_,by k_is⟩⟩)
  (case w_NoFlags=>k_is)
  (case v_NoFraction=>exact ⟨by k_is,by k_is,by k_is,by k_is,by k_is,⟨_,by k_is⟩⟩)
  (case w_Unlike | w_Empty | w_NoLeft=>k_is)
  (case v_NoText=>exact ⟨by k_is,by k_is,by k_is,by k_is,by k_is,⟨_,by k_is⟩⟩)
  (case w_NoRow | w_NoName | w_Stopped=>k_is)
  (case i_str_NoneType | i_str_bool | i_str_int | i_str_str | i_str_tuple | i_str_list | i_int_NoneType | i_int_bool | i_int_int | i_int_str | i_int_tuple | i_int_list | i_bool_NoneType | i_bool_bool | i_bool_int | i_bool_str | i_bool_tuple | i_bool_list | i_tuple_NoneType | i_tuple_bool | i_tuple_int | i_tuple_str | i_tuple_tuple | i_tuple_list=>kit_is)
#print axioms PySem.Challenge.cw_roundmill_k57_whole_shown_and_read_holds
