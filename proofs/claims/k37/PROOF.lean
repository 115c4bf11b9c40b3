import PyProof.Rows.All
import Wide.All
import OpenK.AllK
import Wide.FinOn
import Lean
import PyProof.EqAt
import PyProof.EqKinds
import PyProof.TupleCall
import PySem.Challenge.RW_roundmill_k37_gathered_in_any_order
set_option Elab.async false
set_option linter.all false
set_option genSizeOf false
set_option maxRecDepth 100000
local macro_rules (kind:=Lean.Parser.Command.declaration)
 | s=>if (s[1].isOfKind ``Lean.Parser.Command.definition||s[1].isOfKind ``Lean.Parser.Command.abbrev)&&s[0][4].getNumArgs == 0&&s[1][1][0].getId != `bmV then pure (s.setArg 0 (s[0].setArg 4 (Lean.mkNullNode #[Lean.mkNode ``Lean.Parser.Command.noncomputable #[Lean.mkAtom "noncomputable"]]))) else Lean.Macro.throwUnsupported
set_option hygiene false
local macro_rules | `(tactic| omega)=>`(tactic| first | lia | omega +splitNatSub)
local macro_rules | `(⋯)=>`(by omega)
local macro_rules | `(⇑$x)=>`(con (.int $x))
local macro_rules | `(↥$n:num)=>match n.getNat with | 0=>`(PySem.W.fnOf x qual (dF st) (ag st) (aa st) .none kV doc pm an cdv ct) | 1=>`(by decide) | 2=>`(Life.mk [] [] [] 0 [] [] false #[] [] 0 false false false 0 [2000,10,10] false 0 true [] [] 0 false) | 3=>`(model prog w) | 4=>`(model X.prog X.w) | 5=>`(importedModules (Program.main PySem.Challenge.pw_roundmill_k37_gathered_in_any_order).body) | 6=>`(Addr×Obj) | 7=>`(cxU X xs ksn sc C fp s H W) | 8=>`(Shared.mk (hf w.params) ⟨[]⟩ (Drawn.mk 0 0 0 0) 780 os) | 9=>`(E+F) | 10=>`(.type "tuple") | 11=>`(bin oIx (var 0) ⇑1) | 12=>`(.tup [.int E,.int F]) | 13=>`(cxU X xs ksn sc s3.heap.objs.size fp s3 H3 WW) | 14=>`((xs.map (nI E F)).map .int) | 15=>`(Nat.le_refl _) | 16=>`(by simpa using g1) | 17=>`(cxU X [x] ksn sc C fp s H W) | 18=>`(Int×Int) | 19=>`(vS "roundmill.errors" 187) | 20=>`(.lst (cs.map .int)) | 21=>`(dR I q (by simp)) | 22=>`(bin oIx (var 0) ⇑0) | 23=>`(m4 E F t n) | 24=>`(aq.refl _) | 25=>`(arrOf st') | 26=>`(hide H os) | 27=>`((false,eval e X.env)) | 28=>`(ps.map (ptp E F)++xs.map (xt E F)) | 29=>`(.bl true) | 30=>`((∀ c o,c≠z->c≠i1->c≠i2->s.heap.get? c=some o->h'.get? c=some o)) | 31=>`((((0:Int),(0:Int)),((0:Int),(0:Int)))) | 32=>`(s.heap.objs.size+1) | 33=>`(.ListComp elt [⟨tg,iter,ifs,0⟩] sc pos) | 34=>`((∀ y∈xs,(cxU X xs ksn sc C fp s H W).env.scope.names.lookup y=some .local)) | 35=>`(x == ("__debug__":Str)) | 36=>`(.Pass ⟨0,0,0,0⟩) | 37=>`(gE af (aF (P.y 0) (P.y 0))) | 38=>`(fun fin s'=>match fin with | .done f=>R (.ok f) s' | .again c'=>c'.quiet=true/\codeAny ↥3 A c' R s') | 39=>`(.type "builtin_function_or_method") | 40=>`(.builtin "object.__class__") | 41=>`(by decide +kernel) | 42=>`(Heap.lt_size e) | 43=>`((∃ g,st'=setG st g)) | 44=>`((i,a)::os.filter fun p=>p.1 != i) | 45=>`((∀ b o,s.heap.get? b=some o->h'.get? b=some o)) | 46=>`((∃ r,c.1=some r/\Fn a b r)) | 47=>`(MF (cn:="Way") (f:="name") fl_Way_name (P.v 0)) | 48=>`(bin gf ⇑1 (bin bH ↥22 ↥11)) | 49=>`(SharedT.mk (t_0 w.params) 15 ↥2 ⟨[]⟩ (Drawn.mk 0 0 0 0) 187 os) | 50=>`(gE af (P.y 0)) | 51=>`(.builtin "object.__init_subclass__") | 52=>`(.ref C) | 53=>`(sIx items.size items.size hi - sIx items.size 0 lo) | 54=>`(.int (pw ↥9)) | 55=>`(.Call (.Name x p) (e::es) [] pos) | 56=>`(.bl false) | 57=>`(.ref s.heap.objs.size) | 58=>`(.type "BaseException") | 59=>`(kD hr (P.v 4) af) | 60=>`(at5 X P w K mg base) | 61=>`(cxL X x ksn sc F cd C s H) | 62=>`(kla_fn "<lambda>" (X.env.qual++"<lambda>") args body sc (sG X.env sc.names []) pm cd ct) | 63=>`(.type "code") | 64=>`(ha pins s σ H _ I h) | 65=>`(starEach es X.env) | 66=>`(view δ) | 67=>`(xs.map some++ks.map fun k=>δ.getD k none) | 68=>`(Nat.ne_of_lt (Nat.lt_of_lt_of_le hc (Nat.le_add_right _ _))) | 69=>`(pd (cY S' 0 rfl) af) | 70=>`(EP X pins σ Q) | 71=>`(some (.builtin "ValueError.__new__")) | 72=>`(nI E F) | 73=>`(.type "dict") | 74=>`(List.take_sublist _ _) | 75=>`(.bool true) | 76=>`(arrOf st) | 77=>`(aZ (P.v 5) af) | 78=>`(fun c u hc q=>(Heap.SameBut.update ..).extBut c u hc q) | 79=>`(P.v 1) | 80=>`(by simp) | 81=>`(ps.map (pD E F)) | 82=>`(.Call (.Name "sorted" p) [a] [⟨some "key",.Lambda args body sc pl,kp⟩] pos) | 83=>`(a1 (P.v 0)) | 84=>`(fun k=>N.getD k "") | 85=>`(Obj.mapSeq (fun _=>(#[]:Array Value))) | 86=>`(fun w hw=>t8 rx fx r fs w (by simpa using hw)) | 87=>`(-(lo E F)) | 88=>`(fun z=>⟨δ,hσ.mono s,z⟩) | 89=>`(List.drop_sublist _ _) | 90=>`(s*pw ↥9+c) | 91=>`(.type "object") | 92=>`(Pos.mk 0 0 0 0) | 93=>`((∀ x c,X.env.cells.lookup x=some c->c≠b)) | 94=>`((ys.map ↥72).map .int) | 95=>`(call bb [var 1,bin oIx (var 0) ⇑0,bin oIx (var 0) ⇑1]) | 96=>`(P.v 2) | 97=>`(stG pt gc ge ks δ) | 98=>`(.tup [.str "even",.str "away",.str "nought",.str "up",.str "down"]) | 99=>`((∀ y∈G,Gb ↥7 y)) | 100=>`(P - lo E F) | 101=>`(.builtin "type.__call__" ⟨.ref C::us,kw⟩) | 102=>`(fI ↥4 X.A X.xe use Qf (.ref D) s3.heap.objs.size X.env.frame) | 103=>`(pw ↥9 - pw F) | 104=>`(ao _) | 105=>`(Nat.lt_of_lt_of_le ↥42 I.ok.above) | 106=>`(bin gf ⇑1 ↥11) | 107=>`(Option Value) | 108=>`(δ.set i (some d)) | 109=>`(Option.some.inj e) | 110=>`(by simpa using g2) | 111=>`(aF af (aZ (dS ↥96 af) af)) | 112=>`((xs.map ↥72).map D.int) | 113=>`(noOwn δ) | 114=>`(.ref a) | 115=>`(fun z=>nomatch z) | 116=>`(gE af (b7 (P.y 0) af)) | 117=>`(vS "roundmill.ways" 456) | 118=>`(b∈X.ex\/X.s₀.heap.objs.size<=b) | 119=>`(Nat.ne_of_lt (Nat.lt_of_lt_of_le ↥42 (I.ok.cab x c hfn hc))) | 120=>`(.lst ds) | 121=>`((false,eval (Expr.Call (.Name "zip" p2) [a,b] [] pos2) X.env)) | 122=>`(en P "__loader__" 168 (.builtin "__main__.__loader__#opaque")) | 123=>`(.int i) | 124=>`(var 2) | 125=>`((false,eval a X.env)) | 126=>`(.lst (fsD E F ps)) | 127=>`(aL hp _) | 128=>`((bj H os).trans s') | 129=>`(CU (CXF P w) P w K mg base N qual sc f cdv A outer s H E) | 130=>`(by walk_at "C") | 131=>`(.lst xs) | 132=>`(h kV doc pm an cdv ct) | 133=>`(con ↥29) | 134=>`(fun v z=>by cases z) | 135=>`(un (CK "Way" "name") (var 0)) | 136=>`(Ne.symm hj) | 137=>`(.type "ValueError") | 138=>`((ps.map fun p=>nI E F p.1).map D.int) | 139=>`((ps.map fun p=>nI E F p.2).map D.int) | 140=>`(var 3) | 141=>`(fun _ z=>nomatch z) | 142=>`(CU CX P w K mg base N qual scope f cdv A outer s H E) | 143=>`(wpAny_pure ⟨_,rfl,wpAny_pure h⟩) | 144=>`(EK) | 145=>`(bin oMod ↥124 ⇑4) | 146=>`(P.v 0) | 147=>`(HT.sIx xs.length xs.length hi - HT.sIx xs.length 0 lo) | 148=>`((some X.env.locals).elim Value.none fun f=>rawInt f) | 149=>`(.ListComp elt [⟨.Name x px,iter,ifs,0⟩] sc pos) | _=>Lean.Macro.throwUnsupported
set_option hygiene true
open PySem.Challenge renaming pw_roundmill_k37_gathered_in_any_order→À
open List renaming length_map→Á,getElem?_eq_getElem→Â,length_append→Æ,mem_append_right→Ç,mem_append→È,getElem?_eq_some_iff→É,map_cons→Ê,getElem?_map→Ë,size_toArray→Ì,getD_eq_getElem?_getD→Î,getElem?_set_ne→Ï,length_cons→Ò,mem_cons→Ö,replicate→Û,getElem?_set_self→Ý,pairwise_append→ß,mem_map→å,length_take→é,mem_of_getElem?→ê,lookup_cons→î,mem_singleton→ï,mem_append_left→ð,map_map→ô,length_drop→ú,getElem?_append_right→û,getElem?_append_left→ý,mem_cons_of_mem→ÿ,getElem?_eq_none→Ą,append_assoc→Ć,getElem?_drop→Ĉ,getElem?_take_of_lt→Ċ,range→č,take_of_length_le→ď,drop_eq_getElem_cons→đ,length_set→Ĕ,replicate_succ→ğ,length_reverse→Ġ,getD_cons_zero→ġ,map_append→ģ,length_replicate→ĥ,take_append_drop→Ħ,getElem_mem→ħ,mem_filter→Ĭ,append_nil→ĭ,filterMap_cons→İ,lookup→Ĵ,all_cons→ĵ,mem_filterMap→Ĺ,drop_zero→ĺ,pairwise_iff_getElem→Ľ,extract_eq_take_drop→ľ,nil_append→Ł,flatten_cons→ń,mem_of_mem_take→Ņ,any_cons→ŉ,getElem?_replicate→Ŏ,map_nil→ő,getElem?_toArray→ŕ,perm_append_comm→Ŗ,mem_range→ŝ,mem_of_mem_drop→ş,take_take→š,getElem_of_mem→Ũ,reverse_append→ũ,reverse_cons→Ÿ,cons_append→Ž,not_mem_nil→ž,nodup_cons→Àe,of_mem_zip→Àf,forIn_cons→Àg,getElem?_range→Áe,map_congr_left→Áf,mem_cons_self→Âd,take_zero→Ãb,drop_take→Ãd,length→Äe,length_range→Äh,mem_reverse→Æa,foldl→Çe,drop_eq_nil_of_le→Çg,length_zip→Èb,forIn_nil→Éa,drop_drop→Éb,reverse_reverse→Éc,getD_cons_succ→Êe,zipWith→Ëf
open Array renaming length_toList→Ã,getElem?_eq_getElem→ë,getElem?_toList→ì,toList_append→õ,size_push→Ď,mem_toList_iff→ł,toList_push→ņ,mem_of_getElem?→ŗ,size_append→ś,toList_extract→Š,toList_reverse→Ţ,forIn_toList→Ãc,toList_setIfInBounds→Ãe,getElem?_push→Êb,toList_modify→Êd
open PySem.Heap renaming get?_push_of_some→Ä,get?_push_size→Ú,lt_size→à,get?_update_other→ç,get?_update_self→Č,SameBut→Ę,size_push→ŵ
open False renaming elim→Å
open Bool renaming false_ne_true→Í,false_eq_true→Ô,and_eq_true→ò,beq_eq_decide_eq→ą,eq_iff_iff→œ,false_xor→Ş,true_xor→ū,and_self→Àc,not_eq_true'→Äg,or_false→Åc,and_eq_true_iff→Éf
open Nat renaming le_trans→Ð,ne_of_lt→æ,lt_of_lt_of_le→è,le_refl→ñ,zero_le→Ā,lt_irrefl→ĉ,le_of_lt→ı,le_of_eq→Ń,lt_succ_self→Ż,le_max_right→Àa,pow_le_pow_right→Àd,min_eq_left→Áa,le_max_left→Áb,ne_of_gt→Ág,zero_add→Âa,not_le_of_lt→Æc,not_lt_of_le→Æd,two_pow_pos→Èc,succ→Ëd
open PySem.Str renaming ofString→Ñ,ofString→Ø,ofString_eq_toList→Į,ofString_eq_toList→Çf
open Option renaming some→Ó
open PySem.W renaming mg_none_of→Õ,mg_of→ć,emptyDict→Ē,hideAll→ē,instObj→ī,hideAll_get→į,fnOf→Ĳ,kia_one→ŀ,keepIn→ŏ,plainGet_of→Ád,of_hideAll→Âc,callWith_K→Âh,methodObj→Äc,cellsFrom_some→Çb,hideAll_none→Èf,lookIn→Èg,clsIn→Êf
open Int renaming mul_assoc→Ù,mul_le_mul_of_nonneg_right→Ü,le_of_lt→Þ,emod_lt_of_pos→ã,emod_nonneg→ä,le_refl→í,mul_comm→ö,mul_lt_mul_of_pos_right→ø,zero_mul→ā,ediv_nonneg→ĕ,mul_nonneg→Ĝ,ediv_eq_zero_of_lt→ĝ,emod_eq_of_lt→Ğ,mul_one→Ģ,one_mul→Ĥ,mul_le_mul_of_nonneg_left→Ī,sub_mul→ĸ,ediv_lt_of_lt_mul→Ļ,mul_neg_of_neg_of_pos→Ŀ,le_trans→Œ,mul_ediv_add_emod→Ř,add_mul_ediv_left→ř,mul_pos→ţ,add_mul_emod_self_left→Ť,eq_of_mul_eq_mul_right→ť,add_mul→Ų,le_ediv_of_mul_le→ź,mul_eq_zero→Ác,add_mul_emod_self_right→Âb,sub_eq_add_neg→Ãh,lt_of_mul_lt_mul_right→Äa,ediv_ediv_of_nonneg→Æf,eq_ofNat_of_zero_le→Æg,sub_self→Çh,add_zero→Èa,ediv_mul_add_emod→Èe,mul_add→Ée,add_assoc→Êh,sub_zero→Ëe,add_comm→Ëg,neg_mul→Ìa
open Classical renaming byContradiction→á
open PySem.Value renaming ref→â,«type»→Ň,none→Ŝ,bool→Ŭ,int→ű,builtin→Àb,str→Ég
open PySem.Builtin.List renaming listUpdate→ó,listExtendWith→ă,listItems→ĳ,listTooLong→ŋ,listSameRef→Åe
open PySem.W.Fast renaming te14364793385576792824→ù,te10110043849684766642→ķ,te5923862056798008813→ů,te3399658132070893891→Ű,te821141287760084731→Ŵ
open PySem renaming mem_of_lookup→ü,boot_len→ě,Str→ų,call→ż
open ForInStep renaming yield→þ,done→Ő
open PyProof.Rows renaming callWith_type1→Ă,slot_tuple_getitem→Ō
open PySem.NameKind renaming free→ċ,«local»→Ãa
open PySem.F renaming plain_min_loop→Đ,plain_extend_loop→ō,entry_min_loop→ŷ,slot_zip_next→Àh,args_tuple_add_2→Åb,slot_list_extend→Åd,entry_tuple_add→Åg,plainAttrs_list→Æb,slot_tuple_add→Çc,typeOf_object_class→Èd,entry_extend_loop→Êc
open PySem.Around renaming under_plainId→Ė,under→Ëb
open Ne renaming symm→ė
open PySem.Obj renaming mapSeq→ę,mk→Ź,mapFields→Êg
open Char renaming toNat→Ě
open PySem.PyData renaming canLay0→Ĩ,canLayAll0→Ś
open Eq renaming trans→ĩ
open PySem.Builtin.SmallTypes renaming ownedTupleIsFree→Ķ,nextOf→ļ
open PySem.Builtin.Tuple renaming tupleExact→ň
open PySem.AutoSeq1 renaming wpAny_loadPart'→Ŋ,wpAny_loadPart'→ſ
open List.Perm renaming trans→Ŕ
open PySem.ClassData renaming mk→Ŧ
open PySem.Builtin.Int renaming intBits→ŧ
open Prod renaming ext→Ū
open PySem.ScopeKind renaming function→ŭ
open PySem.Data renaming plain→Ů,cls→Æe
open List.Pairwise renaming nil→Ŷ
open PySem.Builtin.Builtins renaming bindParams→Áh
open PySem.Calls renaming Name_function_global→Âe,spliced_cons→Âg,spliced_nil→Äd,callWith_builtin→Çd,evalArgs_plain→Èh
open True renaming intro→Âf
open PySem.Drawn renaming mk→Ãf
open PySem.W.SharedT renaming mk→Ãg,abs→Éd
open PySem.Builtin.Slice renaming slicePlaces→Äb
open String renaming toList_inj→Äf
open PySem.W.R renaming mapR_eq→Åa
open PySem.Builtin.Str renaming occurrences→Åf
open PySem.W.WData renaming weightAll→Åh
open Sum renaming inl→Æh,inr→Ça
open PySem.Expr renaming Call→Éh
open PySem.Flow renaming next→Êa
open PyProof.Rows.SortSt renaming mk'→Ëa
open PySem.Code renaming isFrame→Ëc
open PySem.Shared renaming mk→Ëh
namespace L2
open PySem PySem.Spec PyProof.Rows
abbrev Key:=Sum Int Str
def JJ:Key->Value->Bool
 | .inl k,v=>Value.isInt k v
 | .inr x,v=>Value.isStrOf x v
def Q5 (w:World):Key->Int
 | .inl k=>hashInt k
 | .inr x=>hashStr w x
theorem aT:∀ {k:Key} {v:Value},JJ k v=true->(∃ i t,k=Æh i/\v=ű i t)\/(∃ x t,k=Ça x/\v=Ég x t)
 | .inl i,v,h=>by
  obtain ⟨t,e⟩:=Value.isInt_shape (k:=i) (v:=v) h
  exact .inl ⟨i,t,rfl,e⟩
 | .inr x,v,h=>by
  obtain ⟨t,e⟩:=Value.isStrOf_shape (x:=x) (v:=v) h
  exact .inr ⟨x,t,rfl,e⟩
theorem JI (a b:Int):decide ((Æh a:Key)=Æh b)=(a == b):=by
 by_cases e:a=b
 ·subst e;simp
 ·have h:¬ (Æh a:Key)=Æh b:=fun q=>e (Æh.inj q)
  rw [decide_eq_false h]
  exact (beq_eq_false_iff_ne.mpr e).symm
theorem JF (a b:Str):decide ((Ça a:Key)=Ça b)=decide (a=b):=by
 by_cases e:a=b
 ·subst e;simp
 ·have h:¬ (Ça a:Key)=Ça b:=fun q=>e (Ça.inj q)
  rw [decide_eq_false h,decide_eq_false e]
theorem JH (a:Int) (b:Str):decide ((Æh a:Key)=Ça b)=false:=decide_eq_false (fun q=>nomatch q)
theorem JG (a:Str) (b:Int):decide ((Ça a:Key)=Æh b)=false:=decide_eq_false (fun q=>nomatch q)
def yb (prog:Program) (w:World):PySem.KeyKind prog w Key where
 is:=JJ
 hash:=Q5 w
 inj:=fun v a b ha hb=>by
  rcases aT ha with ⟨i,t,rfl,rfl⟩ | ⟨x,t,rfl,rfl⟩
  ·rcases aT hb with ⟨j,u,rfl,e⟩ | ⟨y,u,rfl,e⟩
   ·injection e with e1 _;rw [e1]
   ·exact nomatch e
  ·rcases aT hb with ⟨j,u,rfl,e⟩ | ⟨y,u,rfl,e⟩
   ·exact nomatch e
   ·injection e with e1 _;rw [e1]
 byValue:=fun k v h=>by
  rcases aT h with ⟨i,t,rfl,rfl⟩ | ⟨x,t,rfl,rfl⟩<;>rfl
 pyHash:=fun hv h=>by
  rcases aT hv with ⟨i,t,rfl,rfl⟩ | ⟨x,t,rfl,rfl⟩
  ·exact wpAny_pyHash_int h
  ·exact wpAny_pyHash_str h
 eqBool:=fun hu hv h=>by
  rcases aT hu with ⟨i,t,rfl,rfl⟩ | ⟨x,t,rfl,rfl⟩
  ·rcases aT hv with ⟨j,u,rfl,rfl⟩ | ⟨y,u,rfl,rfl⟩
   ·rw [JI] at h;exact wpAny_eqBool_int h
   ·rw [JH] at h;exact SeqAt.EqAt.int_str i t y u _ _ _ _ h
  ·rcases aT hv with ⟨j,u,rfl,rfl⟩ | ⟨y,u,rfl,rfl⟩
   ·rw [JG] at h;exact SeqAt.EqAt.str_int x t j u _ _ _ _ h
   ·rw [JF] at h;exact wpAny_eqBool_str h
 «strs»:=fun k x t v h=>by
  rcases aT h with ⟨i,u,rfl,e⟩ | ⟨y,u,rfl,e⟩
  ·exact nomatch e
  ·injection e with e1 _
   subst e1
   cases v<;>rfl
end L2
namespace L2
open PySem PySem.Spec PyProof.Rows
inductive V where
 | non | bl (b:Bool) | int (i:Int) | str (x:Str) | byt (b:Array UInt8) | flt (b:UInt64) | ref (a:Addr) | ty (n:String)
 deriving DecidableEq
def RelV:V->Value->Prop
 | .non,u=>u=Ŝ
 | .bl b,u=>u=Ŭ b
 | .int i,u=>∃ t,u=ű i t
 | .str x,u=>∃ t,u=Ég x t
 | .byt b,u=>∃ t,u=Value.bytes b t
 | .flt b,u=>∃ t,u=Value.float b t
 | .ref a,u=>u=â a
 | .ty n,u=>u=Ň n
abbrev Vals:List V->List Value->Prop:=Paired RelV
theorem Vals.length {xs:List V} {us:List Value} (r:Vals xs us):xs.length=us.length:=Paired.length r
theorem Vals.get:∀ {xs:List V} {us:List Value} {i:Nat} {x:V},Vals xs us->xs[i]? = some x->∃ u,us[i]? = some u/\RelV x u
 | _,_,_,_,.nil,e=>by simp at e
 | _,_,0,_,.cons r _,e=>by simp at e;subst e;exact ⟨_,rfl,r⟩
 | _,_,i+1,x,.cons _ t,e=>by
  obtain ⟨u,h1,h2⟩:=Vals.get (i:=i) (x:=x) t (by simpa using e)
  exact ⟨u,by simpa using h1,h2⟩
theorem Vals.append:∀ {xs ys:List V} {us ws:List Value},Vals xs us->Vals ys ws->Vals (xs++ys) (us++ws)
 | _,_,_,_,.nil,s=>s
 | _,_,_,_,.cons r t,s=>.cons r (Vals.append t s)
theorem Vals.take:∀ {xs:List V} {us:List Value} (n:Nat),Vals xs us->Vals (xs.take n) (us.take n)
 | _,_,0,_=>.nil
 | _,_,_+1,.nil=>.nil
 | _,_,n+1,.cons r t=>.cons r (Vals.take n t)
theorem Vals.drop:∀ {xs:List V} {us:List Value} (n:Nat),Vals xs us->Vals (xs.drop n) (us.drop n)
 | _,_,0,r=>r
 | _,_,_+1,.nil=>.nil
 | _,_,n+1,.cons _ t=>Vals.drop n t
def zF:Option V->Option Value->Prop
 | some v,some u=>RelV v u
 | none,none=>True
 | _,_=>False
def KV {κ:Type}:List (κ×V)->List (κ×Value)->Prop:=Paired fun (p:κ×V) (q:κ×Value)=>p.1=q.1/\RelV p.2 q.2
def kV:Key->V
 | .inl i=>.int i
 | .inr x=>.str x
inductive HO where
 /-- a list -/
 | lst (xs:List V)
 /-- a tuple (never changes) -/
 | tup (xs:List V)
 /-- a dict whose keys are ints and texts;one whose keys are tuples of ints and texts (the empty one is both) -/
 | dK (kvs:List (Key×V)) | dT (kvs:List (List Key×V))
 /-- a set of ints: its members,its size -/
 | set (S:Int->Bool) (n:Nat)
 /-- an instance of the class at C,its dict at dx,its attributes -/
 | ins (C dx:Addr) (fs:List (Str×V))
 /-- the dict of the instance at x -/
 | own (x:Addr)
 /-- the dict of an exception -/
 | xd (fs:List (Str×V))
 /-- a bound method,f of x -/
 | met (f x:Addr)
 /-- a range object lo,lo+1,.. below hi -/
 | rng (lo hi:Int)
 /-- a thing that is known to the object (the script;a dict while a loop walks it): read,never written while it is so -/
 | frz (o:Obj) (u:HO)
 /-- a code object's table -/
 | tbl (ps:Array Value)
 /-- any other thing,by what is true of its one object (a def of one's own: SetO a S n:=HO.ext fun h=>..) -/
 | ext (φ:Heap->Prop)
abbrev Hp:=Addr->Option HO
def upd (H:Hp) (a:Addr) (o:HO):Hp:=fun b=>if b=a then some o else H b
theorem au {H:Hp} {a:Addr} {o:HO}:upd H a o a=some o:=by unfold upd;rw [if_pos rfl]
theorem ar {H:Hp} {a b:Addr} {o:HO} (h:b≠a):upd H a o b=H b:=by unfold upd;rw [if_neg h]
theorem b9 {H:Hp} {a b:Addr} {o:HO} (h:H a=some o) (h':H b=none):a≠b:=by
 intro e;subst e;rw [h] at h';cases h'
section
variable (P:Program) (w:World)
def gI (H:Hp) (h:Heap) (a:Addr):HO->Prop
 | .lst xs=>xs.length<=sizeLine/\∃ (its:List Value) (n:Nat),Vals xs its/\h.get? a=some { cls:=.type "list",data:=.seq its.toArray n }
 | .tup xs=>xs.length<=sizeLine/\∃ its:List Value,Vals xs its/\IsTup h a its.toArray
 | .dK kvs=>kvs.length<=sizeLine/\(a == sysModules)=false/\∃ vs,KV kvs vs/\h.DictOf (yb P w) a vs
 | .dT kvs=>kvs.length<=sizeLine/\(a == sysModules)=false/\∃ xs:List (List Key×Addr×Value),
   Paired (fun (p:List Key×V) (q:List Key×Addr×Value)=>p.1=q.1/\H q.2.1=some (.tup (p.1.map kV))/\RelV p.2 q.2.2) kvs xs /\
   ∃ o es ep,h.get? a=some o/\o.ExactDict/\o.data=.dict es ep/\es.toList=xs.map (entryOfKey (tupleKind (yb P w)))/\(xs.map (·.1)).Nodup
 | .set S n=>h.SetOf (intKind P w) a S n
 | .ins C dx fs=>H dx=some (.own a)/\fs.length<=1000/\dx≠a/\h.get? a=some (ī C dx) /\
   ∃ mA,h.Ns1 dx mA/\(∀ f,zF (fs.lookup f) (mA f))/\PySem.Within mA (fs.map (·.1))
 | .own _=>∃ o,h.get? a=some o
 | .xd fs=>∃ mA,h.Ns1 a mA/\∀ f,zF (fs.lookup f) (mA f)
 | .rng lo hi=>∃ t u v,h.get? a=some { cls:=.type "range",data:=.fields #[.int lo t,.int hi u,.int 1 v] }
 | .frz o u=>h.get? a=some o/\gI H h a u
 | .tbl ps=>h.get? a=some { cls:=.none,data:=.fields ps }
 | .met f x=>h.get? a=some (Äc (.ref f) (.ref x))
 | .ext φ=>φ h/\(∃ o,h.get? a=some o)/\∀ h1 h2:Heap,φ h1->(∀ o,h1.get? a=some o->h2.get? a=some o)->φ h2
def HOk (H:Hp) (h:Heap):Prop:=∀ a o,H a=some o->gI P w H h a o
end
section
variable {P:Program} {w:World} {H H':Hp} {h h':Heap} {a:Addr} {o:HO}
theorem gI.lt (x:gI P w H h a o):a<h.objs.size:=by
 cases o with
 | lst xs=>obtain ⟨_,_,_,_,e⟩:=x;exact à e
 | tup xs=>obtain ⟨_,_,_,p⟩:=x;exact p.lt
 | dK kvs=>obtain ⟨_,_,_,_,o,_,_,e,_⟩:=x;exact à e
 | dT kvs=>obtain ⟨_,_,_,_,o,_,_,e,_⟩:=x;exact à e
 | set S n=>obtain ⟨o,_,_,_,e,_⟩:=x;exact à e
 | ins C dx fs=>obtain ⟨_,_,_,e,_⟩:=x;exact à e
 | own y=>obtain ⟨_,e⟩:=x;exact à e
 | xd fs=>obtain ⟨_,⟨_,_,_,e,_⟩,_⟩:=x;exact à e
 | rng lo hi=>obtain ⟨_,_,_,e⟩:=x;exact à e
 | frz ob u=>obtain ⟨e,_⟩:=x;exact à e
 | tbl ps=>exact à (show h.get? a=some _ from x)
 | met f y=>exact à (show h.get? a=some _ from x)
 | ext φ=>obtain ⟨_,⟨_,e⟩,_⟩:=x;exact à e
theorem Paired.mapP {α β:Type} {F G:α->β->Prop}:∀ {l₁:List α} {l₂:List β},Paired F l₁ l₂->(∀ a b,F a b->G a b)->Paired G l₁ l₂
 | _,_,.nil,_=>.nil
 | _,_,.cons r t,f=>.cons (f _ _ r) (Paired.mapP t f)
theorem gI.stay (x:gI P w H h a o) (k:∀ b u,(b=a\/H b=some (.own a))->h.get? b=some u->h'.get? b=some u)
  (ho:∀ b,H b=some (.own a)->H' b=some (.own a)) (ht:∀ b xs,H b=some (.tup xs)->H' b=some (.tup xs)):gI P w H' h' a o:=by
 induction o with
 | lst xs=>obtain ⟨z,its,n,r,e⟩:=x;exact ⟨z,its,n,r,k _ _ (.inl rfl) e⟩
 | tup xs=>obtain ⟨z,its,r,ob,e,c⟩:=x;exact ⟨z,its,r,ob,k _ _ (.inl rfl) e,c⟩
 | dK kvs=>obtain ⟨z,y,vs,r,ob,es,ep,e,c⟩:=x;exact ⟨z,y,vs,r,ob,es,ep,k _ _ (.inl rfl) e,c⟩
 | dT kvs =>
  obtain ⟨z,y,xs,r,ob,es,ep,e,c⟩:=x
  exact ⟨z,y,xs,Paired.mapP r fun p q z=>⟨z.1,ht _ _ z.2.1,z.2.2⟩,ob,es,ep,k _ _ (.inl rfl) e,c⟩
 | set S n=>obtain ⟨ob,es,ep,t,e,c⟩:=x;exact ⟨ob,es,ep,t,k _ _ (.inl rfl) e,c⟩
 | ins C dx fs =>
  obtain ⟨d,z,ne,e,mA,⟨od,es,ep,e2,c⟩,r⟩:=x
  exact ⟨ho _ d,z,ne,k _ _ (.inl rfl) e,mA,⟨od,es,ep,k _ _ (.inr d) e2,c⟩,r⟩
 | own y=>obtain ⟨ob,e⟩:=x;exact ⟨ob,k _ _ (.inl rfl) e⟩
 | xd fs=>obtain ⟨mA,⟨od,es,ep,e,c⟩,r⟩:=x;exact ⟨mA,⟨od,es,ep,k _ _ (.inl rfl) e,c⟩,r⟩
 | rng lo hi=>obtain ⟨t,u,v,e⟩:=x;exact ⟨t,u,v,k _ _ (.inl rfl) e⟩
 | frz ob u ih=>obtain ⟨e,q⟩:=x;exact ⟨k _ _ (.inl rfl) e,ih q⟩
 | tbl ps =>
  have e:h.get? a=some { cls:=.none,data:=.fields ps }:=x
  show h'.get? a=some { cls:=.none,data:=.fields ps }
  exact k a _ (.inl rfl) e
 | met f y =>
  have e:h.get? a=some (Äc (.ref f) (.ref y)):=x
  show h'.get? a=some (Äc (.ref f) (.ref y))
  exact k a _ (.inl rfl) e
 | ext φ=>obtain ⟨p,⟨o,e⟩,st⟩:=x;exact ⟨st _ _ p fun o q=>k _ _ (.inl rfl) q,⟨o,k _ _ (.inl rfl) e⟩,st⟩
theorem HOk.lt (x:HOk P w H h) (e:H a=some o):a<h.objs.size:=(x a o e).lt
theorem HOk.fresh (x:HOk P w H h) (e:h.objs.size<=a):H a=none:=by
 cases q:H a with
 | none=>rfl
 | some u=>exact absurd (è (x.lt q) e) (ĉ _)
theorem HOk.kept (x:HOk P w H h) (k:∀ b u,h.get? b=some u->h'.get? b=some u):HOk P w H h':=fun a o e =>
 (x a o e).stay (fun b u _ q=>k b u q) (fun _ q=>q) fun _ _ q=>q
theorem HOk.laid (x:HOk P w H h) (k:∀ b u,h.get? b=some u->h'.get? b=some u) (hp:h.objs.size<=a) (new:gI P w (upd H a o) h' a o):HOk P w (upd H a o) h':=fun b u e=>by
 have hn:=x.fresh hp
 by_cases hb:b=a
 ·subst hb;rw [au] at e;cases e;exact new
 ·rw [ar hb] at e
  exact (x b u e).stay (fun c v _ q=>k c v q) (fun c q=>by rw [ar (b9 q hn)];exact q) fun c xs q=>by rw [ar (b9 q hn)];exact q
end
def Rd (H:Hp) (a:Addr) (u:HO):Prop:=H a=some u\/∃ o,H a=some (.frz o u)
theorem Rd.ok {P:Program} {w:World} {H:Hp} {h:Heap} {a:Addr} {u:HO} (r:Rd H a u) (x:HOk P w H h):gI P w H h a u:=by
 rcases r with r | ⟨o,r⟩
 ·exact x a u r
 ·obtain ⟨_,q⟩:=x a _ r
  exact q
def Mut:Option HO->Prop
 | some (.lst _)=>True
 | some (.dK _)=>True
 | some (.dT _)=>True
 | some (.set _ _)=>True
 | some (.ins _ _ _)=>True
 | some (.ext _)=>True
 | _=>False
section
variable {P:Program} {w:World} {H:Hp} {h h':Heap} {x e:Addr} {o':HO}
theorem HOk.write (ok:HOk P w H h) (mu:Mut (H x)) (he:e=x\/H e=some (.own x)) (k:∀ b u,b≠e->h.get? b=some u->h'.get? b=some u) (heo:∃ u,h'.get? e=some u)
  (new:gI P w (upd H x o') h' x o'):HOk P w (upd H x o') h':=fun b u q=>by
 have nown:∀ c y,H c=some (.own y)->c≠x:=fun c y r z=>by subst z;rw [r] at mu;exact mu
 have ntup:∀ c xs,H c=some (.tup xs)->c≠x:=fun c xs r z=>by subst z;rw [r] at mu;exact mu
 by_cases hb:b=x
 ·subst hb;rw [au] at q;cases q;exact new
 ·rw [ar hb] at q
  by_cases hbe:b=e
  ·have q':H b=some (.own x):=by
    rcases he with z | z
    ·exact absurd (hbe.trans z) hb
    ·rw [hbe];exact z
   rw [q] at q';cases q'
   obtain ⟨v,hv⟩:=heo
   exact ⟨v,by rw [hbe];exact hv⟩
  ·refine (ok b u q).stay (fun c v hc r=>k c v ?_ r) (fun c r=>by rw [ar (nown c b r)];exact r) fun c xs r=>by rw [ar (ntup c xs r)];exact r
   rcases hc with rfl | hc
   ·exact hbe
   ·rintro rfl
    rcases he with z | z
    ·exact nown c b hc z
    ·rw [hc] at z;cases z;exact hb rfl
end
structure Un (fs ex:List Addr) (H H':Hp) (h h':Heap):Prop where
 keep:∀ b o,h.get? b=some o->H b=none->b∉fs->b∉ex->h'.get? b=some o
 slot:∀ b o,h.get? b=some o->H b=none->b∈fs->b∉ex->∃ sl,h'.get? b=some { o with slots:=sl }
 free:∀ b o,h.get? b=some o->H b=none->b∉ex->H' b=none
 there:∀ b o,h.get? b=some o->b∉ex->∃ o',h'.get? b=some o'
 tups:∀ b xs,H b=some (.tup xs)->H' b=some (.tup xs)
 frzs:∀ b o u,H b=some (.frz o u)->H' b=some (.frz o u)
 tbls:∀ b ps,H b=some (.tbl ps)->∃ more,H' b=some (.tbl (ps++more))
section
variable {fs fs' ex ex':List Addr} {H H1 H2:Hp} {h h1 h2 h':Heap} {a x e:Addr} {o:HO}
theorem Un.any (u:Un fs ex H H1 h h1) {b:Addr} {ob:Obj} (q:h.get? b=some ob) (n:H b=none) (hx:b∉ex):∃ sl,h1.get? b=some { ob with slots:=sl }:=by
 by_cases hb:b∈fs
 ·exact u.slot b ob q n hb hx
 ·exact ⟨ob.slots,u.keep b ob q n hb hx⟩
theorem Un.kept (k:∀ b u,h.get? b=some u->h'.get? b=some u):Un fs ex H H h h' :=
 ⟨fun b ob q _ _ _=>k b ob q,fun b ob q _ _ _=>⟨ob.slots,k b ob q⟩,fun _ _ _ n _=>n,fun b ob q _=>⟨ob,k b ob q⟩,fun _ _ q=>q,fun _ _ _ q=>q,fun _ ps q=>⟨#[],by rw [q];simp⟩⟩
theorem Un.refl:Un fs ex H H h h:=Un.kept fun _ _ q=>q
theorem Un.laid (k:∀ b u,h.get? b=some u->h'.get? b=some u) (hp:h.objs.size<=a) (hn:H a=none):Un fs ex H (upd H a o) h h' where
 keep:=fun b u q _ _ _=>k b u q
 slot:=fun b u q _ _ _=>⟨u.slots,k b u q⟩
 free:=fun b u q n _=>by rw [ar (æ (è (à q) hp))];exact n
 there:=fun b u q _=>⟨u,k b u q⟩
 tups:=fun b xs q=>by rw [ar (b9 q hn)];exact q
 frzs:=fun b u xs q=>by rw [ar (b9 q hn)];exact q
 tbls:=fun b ps q=>⟨#[],by rw [ar (b9 q hn),q];simp⟩
theorem Un.write (mu:Mut (H x)) (he:e=x\/H e=some (.own x)) (k:∀ b u,b≠e->h.get? b=some u->h'.get? b=some u) (heo:∃ u,h'.get? e=some u):Un fs ex H (upd H x o) h h':=by
 have hx:∀ b,H b=none->b≠x:=fun b n z=>by subst z;rw [n] at mu;exact mu
 have hb:∀ b,H b=none->b≠e:=fun b n z=>by
  subst z
  rcases he with r | r
  ·exact hx b n r
  ·rw [n] at r;cases r
 have hm:∀ b u,H b=some u->¬ Mut (some u)->b≠x:=fun b u q nm z=>by subst z;rw [q] at mu;exact nm mu
 refine ⟨fun b u q n _ _=>k b u (hb b n) q,fun b u q n _ _=>⟨u.slots,k b u (hb b n) q⟩,fun b u q n _=>by rw [ar (hx b n)];exact n,fun b u q _ => ?_,
  fun b xs q=>by rw [ar (hm b _ q fun z=>z)];exact q,fun b u xs q=>by rw [ar (hm b _ q fun z=>z)];exact q,fun b ps q=>⟨#[],by rw [ar (hm b _ q fun z=>z),q];simp⟩⟩
 by_cases hbe:b=e
 ·subst hbe;exact heo
 ·exact ⟨u,k b u hbe q⟩
end
def trk (h:Heap) (H:Hp):List Addr:=(č h.objs.size).filter fun a=>(H a).isSome
def BC (h:Heap) (H:Hp):Heap:=ē h (trk h H)
theorem yy (h:Heap) (H:Hp):(BC h H).objs.size=h.objs.size:=PySem.W.hideAll_size _ _
theorem j8 {h:Heap} {H:Hp} {b:Addr} {o:Obj} (e:h.get? b=some o) (n:H b=none):(BC h H).get? b=some o :=
 į _ e fun hm=>by
  have q:(H b).isSome=true:=(Ĭ.mp hm).2
  rw [n] at q;simp at q
theorem E3 {h:Heap} {H:Hp} {b:Addr} {o:Obj} (e:(BC h H).get? b=some o):h.get? b=some o/\H b=none:=by
 have e':h.get? b=some o:=Âc (trk h H) e
 refine ⟨e',?_⟩
 cases q:H b with
 | none=>rfl
 | some x =>
  have hm:b∈trk h H:=Ĭ.mpr ⟨ŝ.mpr (à e'),by simp [q]⟩
  have z:(BC h H).get? b=none:=Èf (trk h H) hm
  rw [z] at e;cases e
def GI (g h:Heap) (L:Addr):List ↥6:=(č h.objs.size).filterMap fun a=>if a=L\/(g.get? a).isSome=true then none else (h.get? a).map fun o=>(a,o)
def rest (g h:Heap) (L d:Addr):List ↥6:=(GI g h L).filter fun p=>decide (p.1≠d)
end L2
namespace L2
open PySem PySem.Spec PyProof.Rows
structure Mod (K:PySem.W.Frag) (mg:Str->Option Value) (base:Heap):Prop where
 kin:K.In base
 glob:base.Ns mainGlobals mg
 blt:∃ mb,base.Ns builtinsNs mb/\∀ x:Str,x≠"__name__"->mb x=bootBuiltins x
 nolimit:base.NoLimit
structure Cx where
 prog:Program
 w:World
 K:PySem.W.Frag
 mg:Str->Option Value
 base:Heap
 A:Around
 N:List Str
 s₀:Shared
 H₀:Hp
 env:Env
 outer:List Env
 stack:List Env
 ex:List Addr
 fn:Str->Bool
 calm:Bool
 pn:List ↥6
 xe:Value->Shared->Prop
def frs (l:List Env):List Addr:=l.filterMap (·.frame)
abbrev Cx.fs (X:Cx):List Addr:=frs X.outer
def Vis (sc:Scope) (x:Str):Prop:=sc.names.lookup x=some .local\/sc.names.lookup x=some .cell\/sc.names.lookup x=some .free
def Loc (sc:Scope) (x:Str):Prop:=sc.names.lookup x=some .local\/sc.names.lookup x=some .cell
def Look (env:Env) (h:Heap) (m:Str->Option Value) (x:Str) (u:Value):Prop :=
 (env.kindOf x=some .local/\m x=some u)\/((env.kindOf x=some .cell\/env.kindOf x=some .free)/\∃ c,env.cells.lookup x=some c/\h.IsCell c (some u))
structure Cx.Ok (X:Cx):Prop where
 mod:Mod X.K X.mg X.base
 kind:X.env.scope.kind=.function
 glob:X.env.globals=mainGlobals
 blt:X.env.builtins=builtinsNs
 above:X.s₀.heap.objs.size<=X.env.locals
 inj:∀ x y c,X.env.cells.lookup x=some c->X.env.cells.lookup y=some c->x=y
 has:∀ x,(X.env.kindOf x=some .cell\/X.env.kindOf x=some .free)->∃ c,X.env.cells.lookup x=some c
 cab:∀ x c,X.fn x=true->X.env.cells.lookup x=some c->X.s₀.heap.objs.size<=c
 hd:X.calm=true->X.A.handled=none
 frames:X.A.frames=some X.stack
 stk:X.stack=X.outer\/(X.stack=X.env::X.outer/\X.env.frame=some X.env.locals)
 exf:∀ b∈X.ex,b≠X.env.locals/\∀ x c,X.env.cells.lookup x=some c->c≠b
 bs:∀ b o,X.base.get? b=some o->X.s₀.heap.get? b=some o/\X.H₀ b=none
 bsz:X.base.objs.size<=X.s₀.heap.objs.size
 noex:∀ b o,X.base.get? b=some o->b∉X.ex
 exfs:∀ b∈X.ex,b∉X.fs
 funs:X.s₀.heap.FunFrames X.base X.outer
 frf:∀ b∈X.fs,X.H₀ b=none
structure Inv (X:Cx) (pins:List ↥6) (σ:List (Option V)) (H:Hp) (s:Shared):Prop where
 ok:X.Ok
 os:s.os=X.s₀.os
 bare:AllBare s.gens
 base:Un X.fs X.ex X.H₀ H X.s₀.heap s.heap
 loc:∃ m,s.heap.Ns X.env.locals m/\∀ (i:Nat) (x:Str) (v:V),X.N[i]? = some x->σ[i]? = some (some v)->Vis X.env.scope x->∃ u,RelV v u/\Look X.env s.heap m x u
 cell:∀ x c,X.env.cells.lookup x=some c->∃ v,s.heap.IsCell c v
 free:H X.env.locals=none
 freeC:∀ x c,X.env.cells.lookup x=some c->H c=none
 pin:∀ p∈X.pn++pins,s.heap.get? p.1=some p.2/\H p.1=none/\p.1≠X.env.locals/\p.1∉X.fs/\∀ v,p.2.data ≠ .cell v
 hok:HOk X.prog X.w H s.heap
 len:σ.length=X.N.length
section
variable {X:Cx} {pins:List ↥6} {σ:List (Option V)} {H H':Hp} {s:Shared} {h':Heap}
theorem Cx.Ok.nofr (ok:X.Ok) {b:Addr} {o:Obj} (e:X.base.get? b=some o):b∉X.fs:=fun hb=>by
 have:=(ok.funs.mem hb).1
 rw [e] at this;cases this
theorem Inv.bs (I:Inv X pins σ H s):∀ b o,X.base.get? b=some o->s.heap.get? b=some o/\H b=none:=fun b o e =>
 ⟨I.base.keep b o (I.ok.bs b o e).1 (I.ok.bs b o e).2 (I.ok.nofr e) (I.ok.noex b o e),I.base.free b o (I.ok.bs b o e).1 (I.ok.bs b o e).2 (I.ok.noex b o e)⟩
theorem Inv.bk (I:Inv X pins σ H s):∀ b o,X.base.get? b=some o->s.heap.get? b=some o:=fun b o e=>(I.bs b o e).1
theorem Inv.mod (I:Inv X pins σ H s):Mod X.K X.mg X.base:=I.ok.mod
theorem Inv.kIn (I:Inv X pins σ H s):X.K.In s.heap:=I.ok.mod.kin.keeps I.bk
theorem Inv.lt (I:Inv X pins σ H s):X.env.locals<s.heap.objs.size:=let ⟨_,hn,_⟩:=I.loc;hn.lt
theorem Inv.sz (I:Inv X pins σ H s):X.s₀.heap.objs.size<=s.heap.objs.size:=Ð I.ok.above (ı I.lt)
theorem Inv.nofs (I:Inv X pins σ H s) {a:Addr} (h:s.heap.objs.size<=a):a∉X.fs:=fun hb=>by
 obtain ⟨_,o,ho,_⟩:=I.ok.funs.mem hb
 exact absurd (è (à ho) (Ð I.sz h)) (ĉ _)
theorem Inv.cne (I:Inv X pins σ H s):∀ x c,X.env.cells.lookup x=some c->c≠X.env.locals:=fun x c e z=>by
 obtain ⟨v,o,ho,hd⟩:=I.cell x c e
 obtain ⟨m,⟨o',es,ep,ho',hd',_⟩,_⟩:=I.loc
 rw [z,ho'] at ho;cases ho;rw [hd'] at hd;cases hd
theorem Inv.funs (I:Inv X pins σ H s):s.heap.FunFrames X.base X.outer:=by
 have all:∀ (l:List Env),(∀ b∈frs l,b∈X.fs)->X.s₀.heap.FunFrames X.base l->s.heap.FunFrames X.base l:=by
  intro l
  induction l with
  | nil=>intro _ _;trivial
  | cons env r ih =>
   intro hs hl
   obtain ⟨hk,⟨L,o,hf,hn,ho,hd⟩,hr⟩:=hl
   have hL:L∈X.fs:=hs L (by unfold frs;rw [İ,hf];exact Âd)
   obtain ⟨sl,e⟩:=I.base.slot L o ho (I.ok.frf L hL) hL fun z=>I.ok.exfs L z hL
   exact ⟨hk,⟨L,_,hf,hn,e,hd⟩,ih (fun b hb=>hs b (by unfold frs;rw [İ,hf];exact ÿ _ hb)) hr⟩
 exact all X.outer (fun _ hb=>hb) I.ok.funs
theorem Inv.stack (I:Inv X pins σ H s):s.heap.FunFrames X.base X.stack:=by
 rcases I.ok.stk with e | ⟨e,hf⟩
 ·rw [e];exact I.funs
 ·rw [e]
  obtain ⟨m,hn,_⟩:=I.loc
  refine .cons (by rw [I.ok.kind];decide) hf hn ?_ I.funs
  exact Heap.get?_none_of_le (Ð I.ok.bsz I.ok.above)
theorem Inv.stkSub (I:Inv X pins σ H s):∀ b∈frs X.stack,b∈X.env.locals::X.fs:=fun b hb=>by
 rcases I.ok.stk with e | ⟨e,hf⟩
 ·rw [e] at hb;exact ÿ _ hb
 ·rw [e] at hb
  unfold frs at hb
  rw [İ,hf] at hb
  exact hb
theorem Inv.stkFree (I:Inv X pins σ H s):∀ b∈frs X.stack,H b=none:=fun b hb=>by
 rcases Ö.mp (I.stkSub b hb) with e | hb
 ·rw [e];exact I.free
 ·obtain ⟨_,o,ho,_⟩:=I.ok.funs.mem hb
  exact I.base.free b o ho (I.ok.frf b hb) fun z=>I.ok.exfs b z hb
theorem Inv.step {g':Array GenState} {t':Nat} {d':Drawn} {ch:List Addr} (I:Inv X pins σ H s)
  (hch:∀ b∈ch,↥118/\b≠X.env.locals/\↥93/\∀ p∈X.pn++pins,p.1≠b)
  (keep:∀ b o,b≠X.env.locals->b∉X.fs->b∉ch->s.heap.get? b=some o->H b=none->h'.get? b=some o)
  (slot:∀ b o,b≠X.env.locals->b∈X.fs->b∉ch->s.heap.get? b=some o->H b=none->∃ sl,h'.get? b=some { o with slots:=sl }) (free:∀ b o,b∉ch->s.heap.get? b=some o->H b=none->H' b=none)
  (there:∀ b o,b∉ch->s.heap.get? b=some o->∃ o',h'.get? b=some o')
  (tups:∀ b xs,H b=some (.tup xs)->H' b=some (.tup xs)) (frzs:∀ b o u,H b=some (.frz o u)->H' b=some (.frz o u)) (tbls:∀ b ps,H b=some (.tbl ps)->∃ more,H' b=some (.tbl (ps++more)))
  (ns:∀ m,s.heap.Ns X.env.locals m->h'.Ns X.env.locals m) (hok:HOk X.prog X.w H' h') (hg:AllBare g') :
  Inv X pins σ H' { s with heap:=h',gens:=g',drawn:=d',toks:=t' }:=by
 have neL:∀ b o,X.s₀.heap.get? b=some o->b≠X.env.locals:=fun b o e=>æ ↥105
 have neC:∀ b o,X.s₀.heap.get? b=some o->b∉X.ex->b∉ch:=fun b o e hx hb=>by
  rcases (hch b hb).1 with z | z
  ·exact hx z
  ·exact absurd (è ↥42 z) (ĉ _)
 have cellK:∀ x c,X.env.cells.lookup x=some c->∀ v,s.heap.IsCell c v->h'.IsCell c v:=fun x c e v ⟨o,ho,hd⟩=>by
  have nch:c∉ch:=fun z=>(hch c z).2.2.1 x c e rfl
  by_cases hc:c∈X.fs
  ·obtain ⟨sl,q⟩:=slot c o (I.cne x c e) hc nch ho (I.freeC x c e)
   exact ⟨_,q,hd⟩
  ·exact ⟨o,keep c o (I.cne x c e) hc nch ho (I.freeC x c e),hd⟩
 refine ⟨I.ok,I.os,hg,⟨fun b o e n hb hx => ?_,fun b o e n hb hx => ?_,fun b o e n hx => ?_,fun b o e hx => ?_,fun b xs e=>tups b xs (I.base.tups b xs e),fun b o xs e=>frzs b o xs (I.base.frzs b o xs e),fun b ps e => ?_⟩,?_,fun x c e => ?_,?_,fun x c e => ?_,fun p hp => ?_,hok,I.len⟩
 ·exact keep b o (neL b o e) hb (neC b o e hx) (I.base.keep b o e n hb hx) (I.base.free b o e n hx)
 ·obtain ⟨sl,e1⟩:=I.base.slot b o e n hb hx
  obtain ⟨sl',e2⟩:=slot b _ (neL b o e) hb (neC b o e hx) e1 (I.base.free b o e n hx)
  exact ⟨sl',e2⟩
 ·obtain ⟨o',e1⟩:=I.base.there b o e hx
  exact free b o' (neC b o e hx) e1 (I.base.free b o e n hx)
 ·obtain ⟨o',e1⟩:=I.base.there b o e hx
  exact there b o' (neC b o e hx) e1
 ·obtain ⟨m1,e1⟩:=I.base.tbls b ps e
  obtain ⟨m2,e2⟩:=tbls b _ e1
  exact ⟨m1++m2,by rw [e2,Array.append_assoc]⟩
 ·obtain ⟨m,hn,hl⟩:=I.loc
  refine ⟨m,ns m hn,fun i x v e1 e2 e3 => ?_⟩
  obtain ⟨u,r,l⟩:=hl i x v e1 e2 e3
  refine ⟨u,r,?_⟩
  rcases l with l | ⟨k,c,e,z⟩
  ·exact .inl l
  ·exact .inr ⟨k,c,e,cellK x c e _ z⟩
 ·obtain ⟨v,z⟩:=I.cell x c e
  exact ⟨v,cellK x c e v z⟩
 ·obtain ⟨m,⟨o,_,_,ho,_⟩,_⟩:=I.loc
  exact free _ o (fun z=>(hch _ z).2.1 rfl) ho I.free
 ·obtain ⟨v,o,ho,hd⟩:=I.cell x c e
  exact free c o (fun z=>(hch c z).2.2.1 x c e rfl) ho (I.freeC x c e)
 ·obtain ⟨e,n,ne,nf,d⟩:=I.pin p hp
  have nch:p.1∉ch:=fun z=>(hch p.1 z).2.2.2 p hp rfl
  exact ⟨keep p.1 p.2 ne nf nch e n,free p.1 p.2 nch e n,ne,nf,d⟩
theorem Inv.un {t':Nat} (I:Inv X pins σ H s) (u:Un X.fs [] H H' s.heap h') (hok:HOk X.prog X.w H' h'):Inv X pins σ H' { s with heap:=h',toks:=t' }:=by
 obtain ⟨m,⟨o,es,ep,ho,r⟩,_⟩:=id I.loc
 obtain ⟨sl,hL⟩:=u.any ho I.free ↥80
 exact I.step (g':=s.gens) (d':=s.drawn) (ch:=[]) ↥141 (fun b o _ hb _ e n=>u.keep b o e n hb ↥80) (fun b o _ hb _ e n=>u.slot b o e n hb ↥80) (fun b o _ e n=>u.free b o e n ↥80) (fun b o _ e=>u.there b o e ↥80) u.tups u.frzs u.tbls (fun m' hm=>by
  obtain ⟨o',es',ep',ho',r'⟩:=hm
  rw [ho] at ho';cases ho'
  exact ⟨_,es',ep',hL,r'⟩) hok I.bare
theorem Inv.call {g':Array GenState} {t':Nat} {d':Drawn} {ch:List Addr} (I:Inv X pins σ H s) (u:Un (frs X.stack) ch H H' s.heap h') (hok:HOk X.prog X.w H' h') (hg:AllBare g')
  (hch:∀ b∈ch,↥118/\b≠X.env.locals/\↥93/\∀ p∈X.pn++pins,p.1≠b) :
  Inv X pins σ H' { s with heap:=h',gens:=g',drawn:=d',toks:=t' }:=by
 obtain ⟨m,⟨o,es,ep,ho,r⟩,_⟩:=id I.loc
 obtain ⟨sl,hL⟩:=u.any ho I.free fun z=>(hch _ z).2.1 rfl
 exact I.step (ch:=ch) hch (fun b o hL hb hc e n=>u.keep b o e n (fun z=>(Ö.mp (I.stkSub b z)).elim hL hb) hc) (fun b o _ _ hc e n=>u.any e n hc) (fun b o hc e n=>u.free b o e n hc) (fun b o hc e=>u.there b o e hc) u.tups u.frzs u.tbls (fun m' hm=>by
  obtain ⟨o',es',ep',ho',r'⟩:=hm
  rw [ho] at ho';cases ho'
  exact ⟨_,es',ep',hL,r'⟩) hok hg
theorem Inv.turned {t':Nat} {it:Addr} (I:Inv X pins σ H s) (k:∀ b o,b≠it->s.heap.get? b=some o->h'.get? b=some o) (hn:H it=none) (hL:it≠X.env.locals)
  (h1:it∈X.ex\/X.s₀.heap.objs.size<=it) (h2:∀ x c,X.env.cells.lookup x=some c->c≠it) (h3:∀ p∈X.pn++pins,p.1≠it):Inv X pins σ H { s with heap:=h',toks:=t' }:=by
 have nit:∀ b u,H b=some u->b≠it:=fun b u e z=>by rw [z,hn] at e;cases e
 refine I.step (g':=s.gens) (d':=s.drawn) (ch:=[it]) (fun b hb => ?_) (fun b o _ _ hc e _=>k b o (fun z=>hc (by simp [z])) e) (fun b o _ _ hc e _=>⟨o.slots,k b o (fun z=>hc (by simp [z])) e⟩) (fun _ _ _ _ n=>n)
  (fun b o hc e=>⟨o,k b o (fun z=>hc (by simp [z])) e⟩) (fun _ _ e=>e) (fun _ _ _ e=>e) (fun b ps e=>⟨#[],by rw [e];simp⟩) (fun m hm => ?_) (fun b u e => ?_) I.bare
 ·have e:b=it:=by simpa using hb
  subst e
  exact ⟨h1,hL,h2,h3⟩
 ·obtain ⟨o,es,ep,ho,r⟩:=hm
  exact ⟨o,es,ep,k _ o (ė hL) ho,r⟩
 ·refine (I.hok b u e).stay (fun c v hc q=>k c v ?_ q) (fun _ q=>q) fun _ _ q=>q
  rcases hc with z | z
  ·rw [z];exact nit b u e
  ·exact nit c _ z
theorem Inv.tok (I:Inv X pins σ H s) (t:Nat):Inv X pins σ H { s with toks:=t }:=I.un (h':=s.heap) (t':=t) Un.refl I.hok
theorem Inv.kept {t':Nat} (I:Inv X pins σ H s) (k:∀ b u,s.heap.get? b=some u->h'.get? b=some u):Inv X pins σ H { s with heap:=h',toks:=t' }:=I.un (Un.kept k) (I.hok.kept k)
theorem Inv.laid {a:Addr} {o:HO} {t':Nat} (I:Inv X pins σ H s) (k:∀ b u,s.heap.get? b=some u->h'.get? b=some u) (hp:s.heap.objs.size<=a) (new:gI X.prog X.w (upd H a o) h' a o) :
  Inv X pins σ (upd H a o) { s with heap:=h',toks:=t' }:=I.un (Un.laid k hp (I.hok.fresh hp)) (I.hok.laid k hp new)
theorem Inv.write {x e:Addr} {o:HO} {t':Nat} (I:Inv X pins σ H s) (mu:Mut (H x)) (he:e=x\/H e=some (.own x)) (k:∀ b u,b≠e->s.heap.get? b=some u->h'.get? b=some u) (heo:∃ u,h'.get? e=some u)
  (new:gI X.prog X.w (upd H x o) h' x o):Inv X pins σ (upd H x o) { s with heap:=h',toks:=t' }:=I.un (Un.write mu he k heo) (I.hok.write mu he k heo new)
theorem Inv.pins_of {pins':List ↥6} (I:Inv X pins σ H s) (h:∀ p∈pins',s.heap.get? p.1=some p.2/\H p.1=none/\p.1≠X.env.locals/\p.1∉X.fs/\∀ v,p.2.data ≠ .cell v):Inv X pins' σ H s :=
 ⟨I.ok,I.os,I.bare,I.base,I.loc,I.cell,I.free,I.freeC,fun p hp=>(È.mp hp).elim (fun z=>I.pin p (ð _ z)) (h p),I.hok,I.len⟩
theorem tZ {N:List Str} (hN:N.Nodup) {i j:Nat} {x:Str} (a:N[i]? = some x) (b:N[j]? = some x):i=j:=by
 obtain ⟨h1,e1⟩:=É.mp a
 obtain ⟨h2,e2⟩:=É.mp b
 exact (List.getElem_inj hN).mp (e1.trans e2.symm)
theorem wL {M:Model} {A:Around} {E:Value->Shared->Prop} {i:Nat} {x:Str} {v:V} {u:Value} {Q:Unit->Shared->Prop} (I:Inv X pins σ H s) (hN:X.N.Nodup) (hi:X.N[i]? = some x) (hx:Loc X.env.scope x) (r:RelV v u)
  (h:∀ s',Inv X pins (σ.set i (some v)) H s'->(∃ a,Ę a s.heap s'.heap/\(a=X.env.locals\/X.env.cells.lookup x=some a))->Q () s') (hf:X.fn x=true\/X.env.scope.names.lookup x=some .local:=by first | exact .inl rfl | exact .inr rfl | assumption):wpAny M A (storeName X.env x u) Q E s:=by
 obtain ⟨m,hn,hl⟩:=id I.loc
 have hcls:(X.env.scope.kind == .class||(X.env.scope.kind == .module&&X.env.locals != X.env.globals))=false:=by rw [I.ok.kind];rfl
 have hiσ:i<σ.length:=by rw [I.len];exact (É.mp hi).1
 have cne:=I.cne
 have tracked:∀ {a:Addr} {h':Heap},(∃ o,s.heap.get? a=some o/\H a=none)->Ę a s.heap h'->HOk X.prog X.w H h':=fun {a h'} ha hs b ob e=>by
  obtain ⟨_,_,hfree⟩:=ha
  refine (I.hok b ob e).stay (fun c w' hc q=>(hs.2 c ?_).trans q) (fun _ q=>q) fun _ _ q=>q
  rintro rfl
  rcases hc with rfl | hc
  ·rw [hfree] at e;cases e
  ·rw [hfree] at hc;cases hc
 rcases hx with hk | hk
 ·refine wpAny_storeName_local hk hn (fun h' hn' hs => ?_) hcls
  obtain ⟨oL,_,_,hoL,_⟩:=id hn
  refine h _ ⟨I.ok,I.os,I.bare,⟨fun b o e n hb hx => ?_,fun b o e n hb hx => ?_,I.base.free,fun b o e hx => ?_,I.base.tups,I.base.frzs,I.base.tbls⟩,⟨_,hn',fun j y v' e1 e2 e3 => ?_⟩,fun y c e => ?_,I.free,I.freeC,fun p hp => ?_,tracked ⟨oL,hoL,I.free⟩ hs,by simpa using I.len⟩ ⟨_,hs,.inl rfl⟩
  ·exact (hs.2 b (æ ↥105)).trans (I.base.keep b o e n hb hx)
  ·obtain ⟨sl,e1⟩:=I.base.slot b o e n hb hx
   exact ⟨sl,(hs.2 b (æ ↥105)).trans e1⟩
  ·obtain ⟨o',e1⟩:=I.base.there b o e hx
   exact ⟨o',(hs.2 b (æ ↥105)).trans e1⟩
  ·by_cases hj:j=i
   ·subst hj
    rw [hi] at e1;cases e1
    rw [Ý hiσ] at e2
    cases e2
    exact ⟨u,r,.inl ⟨hk,by simp⟩⟩
   ·rw [Ï ↥136] at e2
    obtain ⟨u',r',q⟩:=hl j y v' e1 e2 e3
    refine ⟨u',r',?_⟩
    rcases q with ⟨k,e⟩ | ⟨k,c,e,z⟩
    ·refine .inl ⟨k,?_⟩
     have:y≠x:=fun e=>hj (tZ hN e1 (e▸hi))
     simp [this,e]
    ·exact .inr ⟨k,c,e,z.sameBut hs (cne y c e)⟩
  ·obtain ⟨w',z⟩:=I.cell y c e
   exact ⟨w',z.sameBut hs (cne y c e)⟩
  ·obtain ⟨e,n,ne,nf,d⟩:=I.pin p hp
   exact ⟨(hs.2 p.1 ne).trans e,n,ne,nf,d⟩
 ·have hfn:X.fn x=true:=by
   rcases hf with z | z
   ·exact z
   ·rw [z] at hk;cases hk
  obtain ⟨c,hc⟩:=I.ok.has x (.inl hk)
  obtain ⟨w',z⟩:=I.cell x c hc
  refine wpAny_storeName_cell I.ok.kind hk hc z (fun h' hc' hs => ?_)
  obtain ⟨oc,hoc,hocd⟩:=id z
  refine h { s with heap:=h' } ⟨I.ok,I.os,I.bare,⟨fun b o e n hb hx => ?_,fun b o e n hb hx => ?_,I.base.free,fun b o e hx => ?_,I.base.tups,I.base.frzs,I.base.tbls⟩,⟨m,hn.sameBut hs (ė (cne x c hc)),fun j y v' e1 e2 e3 => ?_⟩,fun y c' e => ?_,I.free,I.freeC,fun p hp => ?_,tracked ⟨oc,hoc,I.freeC x c hc⟩ hs,by simpa using I.len⟩ ⟨c,hs,.inr hc⟩
  ·exact (hs.2 b ↥119).trans (I.base.keep b o e n hb hx)
  ·obtain ⟨sl,e1⟩:=I.base.slot b o e n hb hx
   exact ⟨sl,(hs.2 b ↥119).trans e1⟩
  ·obtain ⟨o',e1⟩:=I.base.there b o e hx
   exact ⟨o',(hs.2 b ↥119).trans e1⟩
  ·by_cases hj:j=i
   ·subst hj
    rw [hi] at e1;cases e1
    rw [Ý hiσ] at e2
    cases e2
    exact ⟨u,r,.inr ⟨.inl hk,c,hc,hc'⟩⟩
   ·rw [Ï ↥136] at e2
    obtain ⟨u',r',q⟩:=hl j y v' e1 e2 e3
    refine ⟨u',r',?_⟩
    rcases q with q | ⟨k,c',e,z'⟩
    ·exact .inl q
    ·refine .inr ⟨k,c',e,z'.sameBut hs ?_⟩
     rintro rfl
     exact hj (tZ hN e1 (I.ok.inj _ _ _ e hc▸hi))
  ·by_cases hcc:c'=c
   ·subst hcc;exact ⟨_,hc'⟩
   ·obtain ⟨w2,z2⟩:=I.cell y c' e
    exact ⟨w2,z2.sameBut hs hcc⟩
  ·obtain ⟨e,n,ne,nf,d⟩:=I.pin p hp
   refine ⟨(hs.2 p.1 ?_).trans e,n,ne,nf,d⟩
   intro q
   rw [q,hoc] at e
   have q':oc=p.2:=Ó.inj e
   exact d w' (by rw [<- q'];exact hocd)
theorem nJ {M:Model} {A:Around} {E:Value->Shared->Prop} {i:Nat} {x:Str} {v:V} {u:Value} {Q:Unit->Shared->Prop} (I:Inv X pins σ H s) (hN:X.N.Nodup) (hi:X.N[i]? = some x) (hx:Loc X.env.scope x) (r:RelV v u)
  (h:∀ s',Inv X pins (σ.set i (some v)) H s'->Q () s') (hf:X.fn x=true\/X.env.scope.names.lookup x=some .local:=by first | exact .inl rfl | exact .inr rfl | assumption):wpAny M A (storeName X.env x u) Q E s :=
 wL I hN hi hx r (fun s' I' _=>h s' I') hf
theorem Inv.call' {s':Shared} {ch:List Addr} (I:Inv X pins σ H s) (ho:s'.os=s.os) (u:Un (frs X.stack) ch H H' s.heap s'.heap) (hok:HOk X.prog X.w H' s'.heap) (hg:AllBare s'.gens)
  (hch:∀ b∈ch,↥118/\b≠X.env.locals/\↥93/\∀ p∈X.pn++pins,p.1≠b):Inv X pins σ H' s':=by
 obtain ⟨h',g',d',t',o'⟩:=s'
 have e:o'=s.os:=ho
 subst e
 exact I.call (g':=g') (t':=t') (d':=d') u hok hg hch
end
abbrev XK:=Value->Option Addr->Hp->Prop
abbrev St:=List (Option V)
abbrev VK:=V->Hp->Prop
abbrev TE:=St->Hp->VK->Prop
abbrev TT:=St->Hp->(Bool->Hp->Prop)->Prop
abbrev TA:=St->Hp->(List V->Hp->Prop)->Prop
structure Ends where
 nx:St->Hp->Prop
 rt:VK
 bk:St->Hp->Prop:=fun _ _=>False
 ct:St->Hp->Prop:=fun _ _=>False
abbrev TS:=Ends->St->Hp->Prop
def EP (X:Cx) (pins:List ↥6) (σ:St) (Q:VK) (u:Value) (s':Shared):Prop:=∃ v H',Inv X pins σ H' s'/\RelV v u/\Q v H'
def TP (X:Cx) (pins:List ↥6) (σ:St) (Q:Bool->Hp->Prop) (b:Bool) (s':Shared):Prop:=∃ H',Inv X pins σ H' s'/\Q b H'
def AP (X:Cx) (pins:List ↥6) (σ:St) (Q:List V->Hp->Prop) (us:List Value) (s':Shared):Prop:=∃ vs H',Inv X pins σ H' s'/\Vals vs us/\Q vs H'
def SP (X:Cx) (pins:List ↥6) (D:Ends) (f:Flow) (s':Shared):Prop :=
 match f with
 | .next=>∃ σ' H',Inv X pins σ' H' s'/\D.nx σ' H'
 | .brk=>∃ σ' H',Inv X pins σ' H' s'/\D.bk σ' H'
 | .cont=>∃ σ' H',Inv X pins σ' H' s'/\D.ct σ' H'
 | .ret u=>∃ v σ' H',Inv X pins σ' H' s'/\RelV v u/\D.rt v H'
def PE (X:Cx) (e:Expr) (t:TE):Prop :=
 ∀ (pins:List ↥6) (s:Shared) (σ:St) (H:Hp) (Q:VK),Inv X pins σ H s->t σ H Q->wpAny ↥4 X.A (eval e X.env) ↥70 X.xe s
def PT (X:Cx) (e:Expr) (t:TT):Prop :=
 ∀ (pins:List ↥6) (s:Shared) (σ:St) (H:Hp) (Q:Bool->Hp->Prop),Inv X pins σ H s->t σ H Q->wpAny ↥4 X.A (isTrue e X.env (eval e X.env)) (TP X pins σ Q) X.xe s
def PW (X:Cx) (e:Expr) (t:TT):Prop :=
 ∀ (whole:Sem Value) (pins:List ↥6) (s:Shared) (σ:St) (H:Hp) (Q:Bool->Hp->Prop),Inv X pins σ H s->t σ H Q->wpAny ↥4 X.A (isTrue e X.env whole) (TP X pins σ Q) X.xe s
theorem PW.pt {X:Cx} {e:Expr} {t:TT} (h:PW X e t):PT X e t:=h _
def PA (X:Cx) (es:List Expr) (t:TA):Prop :=
 ∀ (pos:Pos) (pins:List ↥6) (s:Shared) (σ:St) (H:Hp) (Q:List V->Hp->Prop),Inv X pins σ H s->t σ H Q->wpAny ↥4 X.A (spliced (backTo pos ↥65)) (AP X pins σ Q) X.xe s
def PS (X:Cx) (st:Stmt) (t:TS):Prop :=
 ∀ (pins:List ↥6) (s:Shared) (σ:St) (H:Hp) (D:Ends),Inv X pins σ H s->t D σ H->wpAny ↥4 X.A (exec st X.env) (SP X pins D) X.xe s
def PSs (X:Cx) (st:List Stmt) (t:TS):Prop :=
 ∀ (pins:List ↥6) (s:Shared) (σ:St) (H:Hp) (D:Ends),Inv X pins σ H s->t D σ H->wpAny ↥4 X.A (execs st X.env) (SP X pins D) X.xe s
theorem thn {α:Type} {t:Sem α} {Q Q':α->Shared->Prop} {M:Model} {A:Around} {E:Value->Shared->Prop} {s:Shared} (h:wpAny M A t Q E s) (hQ:∀ a s,Q a s->Q' a s):wpAny M A t Q' E s:=wpAny_mono h hQ fun _ _ x=>x
end L2
namespace L2
open PySem PySem.Spec PyProof.Rows
section
variable {X:Cx}
theorem bin {a b:Expr} {ta tb:TE} (ha:PE X a ta) (hb:PE X b tb) {pins:List ↥6} {s:Shared} {σ:St} {H:Hp} {R:V->V->Hp->Prop} (I:Inv X pins σ H s) (h:ta σ H fun x H1=>tb σ H1 fun y H2=>R x y H2)
  {α:Type} {Q:α->Shared->Prop} {f:Value->Value->Sem α}
  (hf:∀ v u s2 x y H2,Inv X pins σ H2 s2->RelV x v->RelV y u->R x y H2->wpAny ↥4 X.A (f v u) Q X.xe s2) :
  wpAny ↥4 X.A (eval a X.env) (fun v s₁=>wpAny ↥4 X.A (eval b X.env) (fun u s₂=>wpAny ↥4 X.A (f v u) Q X.xe s₂) X.xe s₁) X.xe s:=by
 refine thn ↥64 fun v s1 ⟨x,H1,I1,r1,q1⟩ => ?_
 refine thn (hb pins s1 σ H1 _ I1 q1) fun u s2 ⟨y,H2,I2,r2,q2⟩ => ?_
 exact hf v u s2 x y H2 I2 r1 r2 q2
def Py (i:Nat):TE:=fun σ H Q=>∃ v,σ[i]? = some (some v)/\Q v H
def tC (v:V):TE:=fun _ H Q=>Q v H
theorem pV {i:Nat} {x:Str} {pos:Pos} (hN:X.N[i]? = some x) (hv:Vis X.env.scope x) (hd:↥35=false:=by decide) (hcd:(x == ("__classdict__":Str))=false:=by decide):PE X (.Name x pos) (Py i):=by
 intro pins s σ H Q I h
 obtain ⟨v,e,h⟩:=h
 obtain ⟨m,hn,hl⟩:=I.loc
 obtain ⟨u,r,l⟩:=hl i x v hN e hv
 have fin:EP X pins σ Q u s:=⟨v,H,I,r,h⟩
 rcases l with ⟨hk,hm⟩ | ⟨hk,c,hc,hcell⟩
 ·exact wpAny_Name (wpAny_loadName_local I.ok.kind hk hn hm fin) hd
 ·rcases hk with hk | hk
  ·exact wpAny_Name (wpAny_loadName_cell I.ok.kind hk hc hcell fin) hd
  ·exact wpAny_Name (wpAny_loadName_free I.ok.kind hk hc hcell fin hcd) hd
theorem IQ {i j pos}:PE X (.Constant ↥123 j pos) (tC ↥123):=fun _ _ _ H _ I h=>wpAny_Constant_int ⟨.int i,H,I.tok _,⟨_,rfl⟩,h⟩
theorem L9 {b j pos}:PE X (.Constant (.bool b) j pos) (tC (.bl b)):=fun _ _ _ H _ I h=>Constant_bool ⟨.bl b,H,I,rfl,h⟩
theorem IP {j pos}:PE X (.Constant .none j pos) (tC .non):=fun _ _ _ H _ I h=>Constant_none ⟨.non,H,I,rfl,h⟩
theorem CA {x j pos}:PE X (.Constant (.str x) j pos) (tC (.str x)):=fun _ _ _ H _ I h=>Calls.Constant_str ⟨.str x,H,I.tok _,⟨_,rfl⟩,h⟩
def Gl (X:Cx) (x:Str):Prop:=X.env.kindOf x=some .globalImplicit
theorem oy {E:Value->Shared->Prop} {pins:List ↥6} {s:Shared} {σ:St} {H:Hp} {x:Str} {u:Value} {pos:Pos} {Q:Value->Shared->Prop} (I:Inv X pins σ H s) (hg:Gl X x) (hm:X.mg x=some u) (h:Q u s)
  (hd:↥35=false:=by decide):wpAny ↥4 X.A (eval (.Name x pos) X.env) Q E s :=
 Âe I.ok.kind hg (Calls.loadGlobal_global (by rw [I.ok.glob];exact I.mod.glob.keeps I.bk) hm h) hd
theorem fF {E:Value->Shared->Prop} {pins:List ↥6} {s:Shared} {σ:St} {H:Hp} {x:Str} {u:Value} {pos:Pos} {Q:Value->Shared->Prop} (I:Inv X pins σ H s) (hg:Gl X x) (hm:X.mg x=none) (hv:bootBuiltins x=some u) (h:Q u s)
  (hn:x≠"__name__":=by decide) (hd:↥35=false:=by decide):wpAny ↥4 X.A (eval (.Name x pos) X.env) Q E s:=by
 obtain ⟨mb,h1,h2⟩:=I.mod.blt
 exact Âe I.ok.kind hg (Calls.loadGlobal_builtin (by rw [I.ok.glob];exact I.mod.glob.keeps I.bk) hm (by rw [I.ok.blt];exact h1.keeps I.bk) ((h2 x hn).trans hv) h) hd
theorem xr {x:Str} {v:V} {u:Value} {pos:Pos} (hg:Gl X x) (hm:X.mg x=some u) (r:RelV v u) (hd:↥35=false:=by decide):PE X (.Name x pos) (tC v) :=
 fun _ _ _ H _ I h=>oy I hg hm ⟨v,H,I,r,h⟩ hd
theorem EJ {x:Str} {v:V} {u:Value} {pos:Pos} (hg:Gl X x) (hm:X.mg x=none) (hv:bootBuiltins x=some u) (r:RelV v u) (hn:x≠"__name__":=by decide) (hd:↥35=false:=by decide):PE X (.Name x pos) (tC v) :=
 fun _ _ _ H _ I h=>fF I hg hm hv ⟨v,H,I,r,h⟩ hn hd
variable {a b:Expr} {ta tb:TE} {pos:Pos}
def tB (t:TE):TT:=fun σ H Q=>t σ H fun x H1=>∃ c,x=.bl c/\Q c H1
theorem Iz {e:Expr} {t:TE} (h:PE X e t) (he:∀ whole,isTrue e X.env whole=(do let v<-whole;standAt e.pos;holding [v] (truthy v)):=by intro _;rfl):PT X e (tB t):=by
 intro pins s σ H Q I hw
 refine isTrue_plain (thn (h pins s σ H _ I hw) fun v s1 ⟨x,H1,I1,r1,q1⟩ => ?_) (he _)
 obtain ⟨d,rfl,q⟩:=q1
 cases r1
 exact wpAny_truthy_bool ⟨H1,I1,q⟩
variable {tA tB':TT} {rest:List Expr}
def PQ (t u:TT):TT:=fun σ H Q=>t σ H fun c H1=>if c=true then u σ H1 Q else Q false H1
def tOr (t u:TT):TT:=fun σ H Q=>t σ H fun c H1=>if c=true then Q true H1 else u σ H1 Q
def PF (t:TT):TT:=fun σ H Q=>t σ H fun c H1=>Q (!c) H1
theorem EA (ha:PT X a tA):PW X (.BoolOp .And [a] pos) tA:=by
 intro wh pins s σ H Q I h
 refine isTrue_and (thn (ha pins s σ H Q I h) fun c s1 e => ?_)
 cases c with
 | true=>exact isTrue_and_nil e
 | false=>exact e
theorem Ir (ha:PT X a tA):PW X (.BoolOp .Or [a] pos) tA:=by
 intro wh pins s σ H Q I h
 refine isTrue_or (thn (ha pins s σ H Q I h) fun c s1 e => ?_)
 cases c with
 | false=>exact isTrue_or_nil e
 | true=>exact e
theorem Iu (ha:PT X a tA) (hb:PW X (.BoolOp .And (b::rest) pos) tB'):PW X (.BoolOp .And (a::b::rest) pos) (PQ tA tB'):=by
 intro wh pins s σ H Q I h
 refine isTrue_and (thn ↥64 fun c s1 ⟨H1,I1,q1⟩ => ?_)
 cases c with
 | true=>exact hb wh pins s1 σ H1 Q I1 q1
 | false=>exact ⟨H1,I1,q1⟩
theorem LP (ha:PT X a tA) (hb:PW X (.BoolOp .Or (b::rest) pos) tB'):PW X (.BoolOp .Or (a::b::rest) pos) (tOr tA tB'):=by
 intro wh pins s σ H Q I h
 refine isTrue_or (thn ↥64 fun c s1 ⟨H1,I1,q1⟩ => ?_)
 cases c with
 | true=>exact ⟨H1,I1,q1⟩
 | false=>exact hb wh pins s1 σ H1 Q I1 q1
theorem IA (ha:PT X a tA):PT X (.UnaryOp .Not a pos) (PF tA):=by
 intro pins s σ H Q I h
 exact isTrue_not (ha pins s σ H (fun c H1=>Q (!c) H1) I h)
def LD (ta tb:TE):TE:=fun σ H Q=>ta σ H fun x H1=>∃ c,x=.bl c/\if c=true then tb σ H1 Q else Q ↥56 H1
def PD (ta tb:TE):TE:=fun σ H Q=>ta σ H fun x H1=>∃ c,x=.bl c/\if c=true then Q ↥29 H1 else tb σ H1 Q
def Lw (ta:TE):TE:=fun σ H Q=>ta σ H fun x H1=>∃ c,x=.bl c/\Q (.bl (!c)) H1
theorem IL {op} {t:TE} (h:PE X a t):PE X (.BoolOp op [a] pos) t:=fun pins s σ H Q I hw=>BoolOp_one (h pins s σ H Q I hw)
theorem IW (ha:PE X a ta) (hb:PE X (.BoolOp .And (b::rest) pos) tb):PE X (.BoolOp .And (a::b::rest) pos) (LD ta tb):=by
 intro pins s σ H Q I h
 refine BoolOp_and (thn ↥64 fun v s1 ⟨x,H1,I1,r1,q1⟩ => ?_)
 obtain ⟨c,rfl,q1⟩:=q1
 cases r1
 refine wpAny_truthy_bool ?_
 cases c with
 | true=>exact hb pins s1 σ H1 Q I1 q1
 | false=>exact ⟨.bl false,H1,I1,rfl,q1⟩
theorem LZ (ha:PE X a ta) (hb:PE X (.BoolOp .Or (b::rest) pos) tb):PE X (.BoolOp .Or (a::b::rest) pos) (PD ta tb):=by
 intro pins s σ H Q I h
 refine BoolOp_or (thn ↥64 fun v s1 ⟨x,H1,I1,r1,q1⟩ => ?_)
 obtain ⟨c,rfl,q1⟩:=q1
 cases r1
 refine wpAny_truthy_bool ?_
 cases c with
 | false=>exact hb pins s1 σ H1 Q I1 q1
 | true=>exact ⟨.bl true,H1,I1,rfl,q1⟩
theorem IM (ha:PE X a ta):PE X (.UnaryOp .Not a pos) (Lw ta):=by
 intro pins s σ H Q I h
 refine UnaryOp_ (thn ↥64 fun v s1 ⟨x,H1,I1,r1,q1⟩ => ?_)
 obtain ⟨c,rfl,q1⟩:=q1
 cases r1
 exact not_of (wpAny_truthy_bool ⟨.bl (!c),H1,I1,rfl,q1⟩)
def tIf (t:TT) (ta tb:TE):TE:=fun σ H Q=>t σ H fun c H1=>if c=true then ta σ H1 Q else tb σ H1 Q
theorem AQ {c:Expr} (hc:PT X c tA) (ha:PE X a ta) (hb:PE X b tb):PE X (.IfExp c a b pos) (tIf tA ta tb):=by
 intro pins s σ H Q I h
 refine wpAny_IfExp (thn (hc pins s σ H _ I h) fun d s1 ⟨H1,I1,q1⟩ => ?_)
 cases d with
 | true=>exact ha pins s1 σ H1 Q I1 q1
 | false=>exact hb pins s1 σ H1 Q I1 q1
end
end L2
namespace L2
open PySem PySem.Spec PyProof.Rows
def SqL (K:PySem.W.Frag) (H:Hp) (a:Addr) (xs:List V):Prop :=
 Rd H a ↥131 \/
  ∃ (o:Obj) (its:Array Value) (n:Nat),K.lookup a=some o/\o.cls=.type "list"/\o.dict=none/\o.data=.seq its n/\its.size<=sizeLine/\Vals xs its.toList
def SqT (K:PySem.W.Frag) (H:Hp) (a:Addr) (xs:List V):Prop :=
 Rd H a (.tup xs) \/
  ∃ (o:Obj) (its:Array Value) (n:Nat),K.lookup a=some o/\o.cls=.type "tuple"/\o.data=.seq its n/\its.size<=sizeLine/\Vals xs its.toList
def Rz:Value->Option V
 | .none=>some .non
 | .bool b=>some (.bl b)
 | .int i _=>some ↥123
 | .str x _=>some (.str x)
 | .bytes b _=>some (.byt b)
 | .float b _=>some (.flt b)
 | .ref a=>some ↥114
 | .type n=>some (.ty n)
 | _=>none
theorem RelV.abs {x:V} {u:Value} (r:RelV x u):Rz u=some x:=by
 cases x with
 | non=>cases r;rfl
 | bl _=>cases r;rfl
 | int _=>obtain ⟨t,rfl⟩:=r;rfl
 | str _=>obtain ⟨t,rfl⟩:=r;rfl
 | byt _=>obtain ⟨t,rfl⟩:=r;rfl
 | flt _=>obtain ⟨t,rfl⟩:=r;rfl
 | ref _=>cases r;rfl
 | ty _=>cases r;rfl
theorem RelV.inj {x y:V} {u:Value} (r:RelV x u) (q:RelV y u):x=y:=Ó.inj (r.abs.symm.trans q.abs)
theorem Vals.inj:∀ {xs ys:List V} {us:List Value},Vals xs us->Vals ys us->xs=ys
 | _,_,_,.nil,.nil=>rfl
 | _,_,_,.cons r t,.cons r' t'=>by rw [r.inj r',Vals.inj t t']
section
variable {X:Cx} {pins:List ↥6} {σ:St} {H:Hp} {s:Shared} {a:Addr} {xs ys:List V}
theorem SqL.of {K:PySem.W.Frag} (h:H a=some ↥131):SqL K H a xs:=.inl (.inl h)
theorem SqT.of {K:PySem.W.Frag} (h:H a=some (.tup xs)):SqT K H a xs:=.inl (.inl h)
theorem Inv.list (I:Inv X pins σ H s) (h:SqL X.K H a xs):∃ its:List Value,Vals xs its/\PlainL s.heap a its.toArray/\xs.length<=sizeLine:=by
 rcases h with h | ⟨o,its,n,hk,hc,hd,hs,hz,r⟩
 ·obtain ⟨z,its,n,r,e⟩:=h.ok I.hok
  exact ⟨its,r,⟨_,n,e,rfl,rfl,rfl⟩,z⟩
 ·refine ⟨its.toList,r,⟨o,n,I.kIn a o hk,hc,hd,by simpa using hs⟩,?_⟩
  have e:=r.length
  simp only [Ã] at e
  omega
theorem Inv.tuple (I:Inv X pins σ H s) (h:SqT X.K H a xs):∃ its:List Value,Vals xs its/\IsTup s.heap a its.toArray/\xs.length<=sizeLine:=by
 rcases h with h | ⟨o,its,n,hk,hc,hs,hz,r⟩
 ·obtain ⟨z,its,r,p⟩:=h.ok I.hok
  exact ⟨its,r,p,z⟩
 ·refine ⟨its.toList,r,⟨o,I.kIn a o hk,hc,n,by simpa using hs⟩,?_⟩
  have e:=r.length
  simp only [Ã] at e
  omega
theorem Inv.list_inj (I:Inv X pins σ H s) (h:SqL X.K H a xs) (h':SqL X.K H a ys):xs=ys:=by
 obtain ⟨its,r,⟨o,n,e,_,_,d⟩,_⟩:=I.list h
 obtain ⟨its',r',⟨o',n',e',_,_,d'⟩,_⟩:=I.list h'
 rw [e] at e';cases e'
 rw [d] at d'
 injection d' with d1 _
 have:its=its':=by simpa using congrArg Array.toList d1
 subst this
 exact r.inj r'
theorem Inv.tuple_inj (I:Inv X pins σ H s) (h:SqT X.K H a xs) (h':SqT X.K H a ys):xs=ys:=by
 obtain ⟨its,r,⟨o,e,_,n,d⟩,_⟩:=I.tuple h
 obtain ⟨its',r',⟨o',e',_,n',d'⟩,_⟩:=I.tuple h'
 rw [e] at e';cases e'
 rw [d] at d'
 injection d' with d1 _
 have:its=its':=by simpa using congrArg Array.toList d1
 subst this
 exact r.inj r'
end
abbrev Cx.wish (X:Cx) (E:Value->Shared->Prop):Cx:={ X with xe:=E }
abbrev Cx.nox (X:Cx):Cx:=X.wish fun _ _=>False
theorem Cx.Ok.wish {X:Cx} (ok:X.Ok) (E:Value->Shared->Prop):(X.wish E).Ok :=
 ⟨ok.mod,ok.kind,ok.glob,ok.blt,ok.above,ok.inj,ok.has,ok.cab,ok.hd,ok.frames,ok.stk,ok.exf,ok.bs,ok.bsz,ok.noex,ok.exfs,ok.funs,ok.frf⟩
theorem Cx.Ok.unwish {X:Cx} {E:Value->Shared->Prop} (ok:(X.wish E).Ok):X.Ok :=
 ⟨ok.mod,ok.kind,ok.glob,ok.blt,ok.above,ok.inj,ok.has,ok.cab,ok.hd,ok.frames,ok.stk,ok.exf,ok.bs,ok.bsz,ok.noex,ok.exfs,ok.funs,ok.frf⟩
section
variable {X:Cx} {pins:List ↥6} {σ:St} {H:Hp} {s:Shared} {E:Value->Shared->Prop}
theorem Inv.wish (I:Inv X pins σ H s) (E:Value->Shared->Prop):Inv (X.wish E) pins σ H s:=⟨I.ok.wish E,I.os,I.bare,I.base,I.loc,I.cell,I.free,I.freeC,I.pin,I.hok,I.len⟩
theorem Inv.unwish (I:Inv (X.wish E) pins σ H s):Inv X pins σ H s:=⟨I.ok.unwish,I.os,I.bare,I.base,I.loc,I.cell,I.free,I.freeC,I.pin,I.hok,I.len⟩
theorem SP.unwish {D:Ends} {f:Flow} {s':Shared} (h:SP (X.wish E) pins D f s'):SP X pins D f s':=by
 cases f with
 | next=>obtain ⟨σ',H',I,q⟩:=h;exact ⟨σ',H',I.unwish,q⟩
 | brk=>obtain ⟨σ',H',I,q⟩:=h;exact ⟨σ',H',I.unwish,q⟩
 | cont=>obtain ⟨σ',H',I,q⟩:=h;exact ⟨σ',H',I.unwish,q⟩
 | ret u=>obtain ⟨v,σ',H',I,r,q⟩:=h;exact ⟨v,σ',H',I.unwish,r,q⟩
theorem PSs.nox {st:List Stmt} {t:TS} (h:PSs X.nox st t):PSs X st t:=fun pins s σ H D I hw =>
 wpAny_mono (h pins s σ H D (I.wish _) hw) (fun _ _ q=>q.unwish) fun _ _ z=>Å z
end
section
variable {X:Cx} {st:Stmt} {rest:List Stmt} {t u:TS} {e:Expr} {te:TE} {pos:Pos}
def Lx:TS:=fun D σ H=>D.nx σ H
def PB (t u:TS):TS:=fun D σ H=>t { D with nx:=u D } σ H
theorem EB:PSs X [] Lx:=fun _ _ σ H _ I h=>wpAny_execs_nil ⟨σ,H,I,h⟩
theorem oj (h1:PS X st t) (h2:PSs X rest u):PSs X (st::rest) (PB t u):=by
 intro pins s σ H D I h
 refine wpAny_execs_cons (thn (h1 pins s σ H { D with nx:=u D } I h) fun f s1 q => ?_)
 cases f with
 | next =>
  obtain ⟨σ',H',I',q⟩:=q
  exact h2 pins s1 σ' H' D I' q
 | ret v=>exact q
 | brk=>exact q
 | cont=>exact q
theorem xj (h1:PS X st t):PSs X [st] t:=by
 intro pins s σ H D I h
 refine wpAny_execs_cons (thn (h1 pins s σ H D I h) fun f s1 q => ?_)
 cases f with
 | next=>exact wpAny_execs_nil q
 | ret v=>exact q
 | brk=>exact q
 | cont=>exact q
theorem Inv.quiet {pins:List ↥6} {σ:St} {H:Hp} {s:Shared} (I:Inv X pins σ H s):interactive X.env=false:=by simp [interactive,I.ok.kind]
def Lz (te:TE):TS:=fun D σ H=>te σ H fun _ H1=>D.nx σ H1
theorem rA (he:PE X e te) (hs:swapsWith e none pos.line X.env=pure false:=by rfl):PS X (.Expr e pos) (Lz te):=by
 intro pins s σ H D I h
 exact wpAny_Expr_any (thn (he pins s σ H _ I h) fun v s1 ⟨x,H1,I1,r1,q1⟩=>⟨σ,H1,I1,q1⟩) I.quiet hs
def PC (te:TE):TS:=fun D σ H=>te σ H D.rt
theorem IB (he:PE X e te):PS X (.Return (some e) pos) (PC te):=by
 intro pins s σ H D I h
 exact wpAny_Return_some (thn (he pins s σ H _ I h) fun v s1 ⟨x,H1,I1,r1,q1⟩=>⟨x,σ,H1,I1,r1,q1⟩)
def PK (c:TT) (t u:TS):TS:=fun D σ H=>c σ H fun b H1=>if b=true then t D σ H1 else u D σ H1
theorem IC {c:Expr} {a b:List Stmt} {tc:TT} (hc:PT X c tc) (ha:PSs X a t) (hb:PSs X b u):PS X (.If c a b pos) (PK tc t u):=by
 intro pins s σ H D I h
 refine wpAny_If (thn (hc pins s σ H _ I h) fun d s1 ⟨H1,I1,q1⟩ => ?_)
 cases d with
 | true=>exact ha pins s1 σ H1 D I1 q1
 | false=>exact hb pins s1 σ H1 D I1 q1
end
abbrev TG:=V->St->Hp->(St->Hp->Prop)->Prop
abbrev TGs:=List V->St->Hp->(St->Hp->Prop)->Prop
def PG (X:Cx) (target:Expr) (t:TG):Prop :=
 ∀ (pins:List ↥6) (s:Shared) (σ:St) (H:Hp) (v:V) (u:Value) (Q:St->Hp->Prop),Inv X pins σ H s->RelV v u->t v σ H Q ->
  wpAny ↥4 X.A (assign target X.env u) (fun _ s'=>∃ σ' H',Inv X pins σ' H' s'/\Q σ' H') X.xe s
def PGs (X:Cx) (ts:List Expr) (t:TGs):Prop :=
 ∀ (pins:List ↥6) (s:Shared) (σ:St) (H:Hp) (vs:List V) (us:List Value) (Q:St->Hp->Prop),Inv X pins σ H s->Vals vs us->t vs σ H Q ->
  wpAny ↥4 X.A (assignInOrder ((assignEach ts X.env).map (·.2)) us) (fun _ s'=>∃ σ' H',Inv X pins σ' H' s'/\Q σ' H') X.xe s
section
variable {X:Cx} {pos:Pos}
def vF (i:Nat):TG:=fun v σ H Q=>Q (σ.set i (some v)) H
theorem kR {i:Nat} {x:Str} (hN:X.N.Nodup) (hi:X.N[i]? = some x) (hx:Loc X.env.scope x) (hf:X.fn x=true\/X.env.scope.names.lookup x=some .local:=by first | exact .inl rfl | exact .inr rfl | assumption):PG X (.Name x pos) (vF i):=by
 intro pins s σ H v u Q I r h
 exact wpAny_assign_Name (nJ I hN hi hx r (fun s' I'=>⟨_,H,I',h⟩) hf)
def Pe:TGs:=fun vs σ H Q=>vs=[]/\Q σ H
def JW (t:TG) (u:TGs):TGs:=fun vs σ H Q=>∃ v r,vs=v::r/\t v σ H fun σ' H'=>u r σ' H' Q
theorem EG:PGs X [] Pe:=by
 intro pins s σ H vs us Q I r h
 obtain ⟨e,h⟩:=h
 subst e
 cases r
 exact assignInOrder_nil ⟨σ,H,I,h⟩
theorem tP {e:Expr} {es:List Expr} {t:TG} {u:TGs} (h1:PG X e t) (h2:PGs X es u)
  (hs:(assignEach (e::es) X.env).map (·.2)=assign e X.env::(assignEach es X.env).map (·.2):=by rfl):PGs X (e::es) (JW t u):=by
 intro pins s σ H vs us Q I r h
 obtain ⟨v,vr,e1,h⟩:=h
 subst e1
 cases r with
 | cons r rr =>
  rw [hs]
  refine assignInOrder_cons (thn (h1 pins s σ H _ _ _ I r h) fun _ s1 ⟨σ1,H1,I1,q1⟩ => ?_)
  exact h2 pins s1 σ1 H1 _ _ Q I1 rr q1
def Ri (K:PySem.W.Frag) (n:Nat) (t:TGs):TG:=fun v σ H Q=>∃ a xs,v=.ref a/\SqT K H a xs/\xs.length=n/\t xs σ H Q
theorem II {es:List Expr} {k:Nat} {t:TGs} {n:Nat} (hc:X.calm=true) (h:PGs X es t)
  (hn:(assignEach es X.env).length=n:=by rfl) (hst:(assignEach es X.env).findIdx? (·.1)=none:=by rfl):PG X (.Tuple es k pos) (Ri X.K n t):=by
 intro pins s σ H v u Q I r hw
 obtain ⟨a,xs,e1,hq,hl,hw⟩:=hw
 subst e1
 cases r
 obtain ⟨its,rv,ht,hz⟩:=I.tuple hq
 refine assign_Tuple_tuple (I.ok.hd hc) ht (by simp [hn,<-hl,rv.length]) hst fun h' hx => ?_
 have I1:Inv X pins σ H { s with heap:=h' }:=I.kept (t':=s.toks) fun b o e=>hx b o (æ ↥42) e
 exact h pins _ σ H xs _ Q I1 (by simpa using rv) hw
def M4 (te:TE) (g:TG):TS:=fun D σ H=>te σ H fun x H1=>g x σ H1 D.nx
theorem IG {tg e:Expr} {te:TE} {g:TG} (he:PE X e te) (hg:PG X tg g) (hs:swapsWithSole [tg] e pos.line X.env=pure false:=by rfl) (hw:swappedStores [tg] e X.env=pure none:=by rfl)
  (h1:(assignEach [tg] X.env).map (·.2)=[assign tg X.env]:=by rfl):PS X (.Assign [tg] e pos) (M4 te g):=by
 intro pins s σ H D I h
 refine wpAny_Assign_stores (thn (he pins s σ H _ I h) fun v s1 ⟨x,H1,I1,r1,q1⟩ => ?_) hs hw
 rw [h1]
 exact thn (hg pins s1 σ H1 x v _ I1 r1 q1) fun _ s2 q=>q
theorem xk {i:Nat} {x:Str} {e:Expr} {te:TE} {pos':Pos} (hN:X.N.Nodup) (hi:X.N[i]? = some x) (hx:Loc X.env.scope x) (he:PE X e te) (hs:swapsWith e (some (.Name x pos')) pos.line X.env=pure false:=by rfl) (hf:X.fn x=true\/X.env.scope.names.lookup x=some .local:=by first | exact .inl rfl | exact .inr rfl | assumption) :
  PS X (.Assign [.Name x pos'] e pos) (M4 te (vF i)):=by
 intro pins s σ H D I h
 refine wpAny_Assign_Name (thn (he pins s σ H _ I h) fun v s1 ⟨y,H1,I1,r1,q1⟩ => ?_) hs
 exact nJ I1 hN hi hx r1 (fun s2 I2=>⟨_,H1,I2,q1⟩) hf
end
section
variable {X:Cx} {pos:Pos}
end
structure It where
 go:Nat->Hp->Prop
 yld:Nat->Hp->V->Hp->Prop
 stop:Nat->Hp->Prop
def vU (X:Cx) (pins:List ↥6) (H:Hp) (b:Addr):Prop :=
 H b=none/\b≠X.env.locals/\b∉X.fs/\↥118/\↥93/\∀ p∈X.pn++pins,p.1≠b
theorem Inv.fpOk {X:Cx} {pins:List ↥6} {σ:St} {H H':Hp} {s:Shared} {b:Addr} (I:Inv X pins σ H s) (hb:s.heap.objs.size<=b) (hn:H' b=none):vU X pins H' b:=by
 refine ⟨hn,Ág (è I.lt hb),I.nofs hb,.inr (Ð I.sz hb),fun x c e z => ?_,fun p hp z => ?_⟩
 ·obtain ⟨v,q⟩:=I.cell x c e
  exact absurd (è q.lt (by rw [z];exact hb)) (ĉ _)
 ·exact absurd (è (à (I.pin p hp).1) (by rw [z];exact hb)) (ĉ _)
structure Turn (P:Program) (w:World) (K:PySem.W.Frag) (tg:Expr) (J:It) (fp:List Addr) (it:Addr) (tn:Nat->Heap->Prop):Prop where
 mem:it∈fp
 obj:∀ i h,tn i h->∀ b∈fp,∃ o,h.get? b=some o/\∀ v,o.data ≠ .cell v
 keep:∀ i h h',tn i h->(∀ b∈fp,∀ o,h.get? b=some o->h'.get? b=some o)->tn i h'
 item:∀ (X:Cx),X.prog=P->X.w=w->X.K=K->X.calm=true->∀ (i:Nat) (pins:List ↥6) (s:Shared) (σ:St) (H:Hp) (E:Value->Shared->Prop),Inv X pins σ H s->(∀ b∈fp,vU X pins H b)->tn i s.heap->J.go i H ->
  wpAny (model P w) X.A (pyNext (.ref it)) (fun r s1=>∃ u,r=some u /\
   wpAny (model P w) X.A (letOwnedTupleGo tg (.ref it) u) (fun _ s2=>∃ x H',Inv X pins σ H' s2/\RelV x u/\J.yld i H x H'/\tn (i+1) s2.heap/\∀ b∈fp,H' b=none) E s1) E s
 done:∀ (X:Cx),X.prog=P->X.w=w->X.K=K->X.calm=true->∀ (i:Nat) (pins:List ↥6) (s:Shared) (σ:St) (H:Hp) (E:Value->Shared->Prop),Inv X pins σ H s->(∀ b∈fp,vU X pins H b)->tn i s.heap->J.stop i H ->
  wpAny (model P w) X.A (pyNext (.ref it)) (fun r s1=>r=none/\Inv X pins σ H s1) E s
 self:∀ (A:Around) (i:Nat) (s:Shared) (Q:Value->Shared->Prop) (E:Value->Shared->Prop),tn i s.heap->Q (.ref it) s->wpAny (model P w) A (pyIter (.ref it)) Q E s
abbrev TI:=St->Hp->(It->Hp->Prop)->Prop
def PIE (X:Cx) (pins:List ↥6) (σ:St) (tg:Expr) (R:It->Hp->Prop) (itv:Value) (s2:Shared):Prop :=
 ∃ (it:Addr) (fp:List Addr) (tn:Nat->Heap->Prop) (J:It) (H':Hp),itv=.ref it/\Inv X pins σ H' s2/\Turn X.prog X.w X.K tg J fp it tn/\tn 0 s2.heap/\(∀ b∈fp,vU X pins H' b)/\R J H'
def PI (X:Cx) (tg iter:Expr) (wi:TI):Prop :=
 ∀ (pins:List ↥6) (s:Shared) (σ:St) (H:Hp) (R:It->Hp->Prop),Inv X pins σ H s->wi σ H R ->
  wpAny ↥4 X.A (eval iter X.env) (fun v s1=>wpAny ↥4 X.A (pyIter v) (PIE X pins σ tg R) X.xe s1) X.xe s
theorem FG {M:Model} {A:Around} {E:Value->Shared->Prop} {s:Shared} {tg:Expr} {it:Addr} {u:Value} {o:Obj} {n:String} {vs:Array Value} {Q:Unit->Shared->Prop} (ho:s.heap.get? it=some o) (hc:o.cls=.type n) (hd:o.data=.fields vs)
  (hn:["enumerate","zip","dict_itemiterator","dict_reverseitemiterator","odict_iterator","itertools.zip_longest","itertools.pairwise"].contains n=false) (hQ:Q () s):wpAny M A (letOwnedTupleGo tg (.ref it) u) Q E s:=by
 unfold letOwnedTupleGo
 cases tg<;>first
  | exact wpAny_pure hQ
  | (cases u<;>first
    | exact wpAny_pure hQ
    | (refine wpAny_bind (wpAny_load ho ?_)
       rw [hc,hd]
       show wpAny M A (if (["enumerate","zip","dict_itemiterator","dict_reverseitemiterator","odict_iterator","itertools.zip_longest","itertools.pairwise"].contains n&&vs[0]? == some (rawInt _))=true then _ else _) Q E s
       rw [if_neg (by intro h;rw [hn,Bool.false_and] at h;cases h)]
       exact wpAny_pure hQ))
def Itl (K:PySem.W.Frag) (a:Addr):It :=
 ⟨fun i H=>∃ xs x,SqL K H a xs/\xs[i]? = some x,fun i H x H'=>H'=H/\∀ xs,SqL K H a xs->xs[i]? = some x,fun i H=>∃ xs,SqL K H a xs/\xs.length<=i⟩
def Itt (K:PySem.W.Frag) (a:Addr):It :=
 ⟨fun i H=>∃ xs x,SqT K H a xs/\xs[i]? = some x,fun i H x H'=>H'=H/\∀ xs,SqT K H a xs->xs[i]? = some x,fun i H=>∃ xs,SqT K H a xs/\xs.length<=i⟩
def Itr (lo:Int) (n:Nat):It:=⟨fun i _=>i<n,fun i H x H'=>H'=H/\x=.int (lo+i),fun i _=>n<=i⟩
theorem wC {P:Program} {w:World} {K:PySem.W.Frag} {tg:Expr} (a it:Addr):Turn P w K tg (Itl K a) [it] it (fun i h=>h.IsListIter it a i) where
 mem:=by simp
 obj:=fun i h st b hb=>by
  have e:b=it:=by simpa using hb
  subst e
  obtain ⟨o,e,c,d⟩:=st
  exact ⟨o,e,fun v z=>by rw [d] at z;cases z⟩
 keep:=fun i h h' st k=>st.at fun o e=>k it ↥80 o e
 item:=by
  intro X hP hw hK hc i pins s σ H E I hf st hg
  subst hP hw hK
  obtain ⟨xs,x,hq,hx⟩:=hg
  obtain ⟨its,rv,p,hz⟩:=I.list hq
  obtain ⟨u,hu,ru⟩:=rv.get hx
  obtain ⟨f0,f1,f2,f3,f4,f5⟩:=hf it ↥80
  refine wpAny_pyNext_list_item st p.isList (x:=u) (by simpa using hu) fun h' st' sb => ?_
  have I1:Inv X pins σ H { s with heap:=h' }:=I.turned (t':=s.toks) (fun b o hb e=>(sb.2 b hb).trans e) f0 f1 f3 f4 f5
  obtain ⟨o,e,c,d⟩:=id st'
  exact ⟨u,rfl,FG (s:={ s with heap:=h' }) e c d ↥1 ⟨x,H,I1,ru,⟨rfl,fun ys hy=>by rw [I.list_inj hy hq];exact hx⟩,st',fun b hb=>(hf b hb).1⟩⟩
 done:=by
  intro X hP hw hK hc i pins s σ H E I hf st hg
  subst hP hw hK
  obtain ⟨xs,hq,hx⟩:=hg
  obtain ⟨its,rv,p,hz⟩:=I.list hq
  obtain ⟨f0,f1,f2,f3,f4,f5⟩:=hf it ↥80
  have hl:=rv.length
  exact wpAny_pyNext_list_end (I.ok.hd hc) st p.isList (by simp;omega) fun h' eb=>⟨rfl,I.turned (t':=s.toks) (fun b o hb e=>eb b o hb e) f0 f1 f3 f4 f5⟩
 self:=fun _ _ _ _ _ st h=>wpAny_pyIter_listiter st h
theorem uZ {P:Program} {w:World} {K:PySem.W.Frag} {tg:Expr} (a it:Addr):Turn P w K tg (Itt K a) [it] it (fun i h=>h.IsTupleIter it a i) where
 mem:=by simp
 obj:=fun i h st b hb=>by
  have e:b=it:=by simpa using hb
  subst e
  obtain ⟨o,e,c,d⟩:=st
  exact ⟨o,e,fun v z=>by rw [d] at z;cases z⟩
 keep:=fun i h h' st k=>st.at fun o e=>k it ↥80 o e
 item:=by
  intro X hP hw hK hc i pins s σ H E I hf st hg
  subst hP hw hK
  obtain ⟨xs,x,hq,hx⟩:=hg
  obtain ⟨its,rv,p,hz⟩:=I.tuple hq
  obtain ⟨u,hu,ru⟩:=rv.get hx
  obtain ⟨f0,f1,f2,f3,f4,f5⟩:=hf it ↥80
  refine wpAny_pyNext_tuple_item st (show s.heap.IsTuple a its.toArray from p) (x:=u) (by simpa using hu) fun h' st' sb => ?_
  have I1:Inv X pins σ H { s with heap:=h' }:=I.turned (t':=s.toks) (fun b o hb e=>(sb.2 b hb).trans e) f0 f1 f3 f4 f5
  obtain ⟨o,e,c,d⟩:=id st'
  exact ⟨u,rfl,FG (s:={ s with heap:=h' }) e c d ↥1 ⟨x,H,I1,ru,⟨rfl,fun ys hy=>by rw [I.tuple_inj hy hq];exact hx⟩,st',fun b hb=>(hf b hb).1⟩⟩
 done:=by
  intro X hP hw hK hc i pins s σ H E I hf st hg
  subst hP hw hK
  obtain ⟨xs,hq,hx⟩:=hg
  obtain ⟨its,rv,p,hz⟩:=I.tuple hq
  obtain ⟨f0,f1,f2,f3,f4,f5⟩:=hf it ↥80
  have hl:=rv.length
  exact wpAny_pyNext_tuple_end (I.ok.hd hc) st (show s.heap.IsTuple a its.toArray from p) (by simp;omega) fun h' eb=>⟨rfl,I.turned (t':=s.toks) (fun b o hb e=>eb b o hb e) f0 f1 f3 f4 f5⟩
 self:=fun _ _ _ _ _ st h=>wpAny_pyIter_tupleiter st h
theorem u3 {P:Program} {w:World} {K:PySem.W.Frag} {tg:Expr} (it:Addr) (lo:Int) (n:Nat):Turn P w K tg (Itr lo n) [it] it (fun i h=>IsRangeIter h it (lo+(i:Nat)*1) ((n:Int) - (i:Nat)) 1) where
 mem:=by simp
 obj:=fun i h st b hb=>by
  have e:b=it:=by simpa using hb
  subst e
  exact ⟨_,st,fun v z=>by
   have z':Data.fields _=Data.cell v:=z
   cases z'⟩
 keep:=fun i h h' st k=>k it ↥80 _ st
 item:=by
  intro X hP hw hK hc i pins s σ H E I hf st hg
  subst hP hw hK
  obtain ⟨f0,f1,f2,f3,f4,f5⟩:=hf it ↥80
  have W:=Walks.range (prog:=X.prog) (w:=X.w) (I.ok.hd hc) it lo 1 n
  refine W.item i s _ _ hg st fun v h' tk hv st' kk => ?_
  obtain ⟨t,rfl⟩:=hv
  have I1:Inv X pins σ H { s with heap:=h',toks:=tk }:=I.turned (fun b o hb e=>kk b o (by simpa using hb) e) f0 f1 f3 f4 f5
  refine ⟨_,rfl,FG (s:={ s with heap:=h',toks:=tk }) (n:="range_iterator") st' rfl rfl ↥1 ⟨.int (lo+i),H,I1,⟨t,?_⟩,⟨rfl,rfl⟩,st',fun b hb=>(hf b hb).1⟩⟩
  rw [Ģ]
 done:=by
  intro X hP hw hK hc i pins s σ H E I hf st hg
  subst hP hw hK
  obtain ⟨f0,f1,f2,f3,f4,f5⟩:=hf it ↥80
  exact wpAny_pyNext_range_end (I.ok.hd hc) st (by have:n<=i:=hg;omega) fun h' eb=>⟨rfl,I.turned (t':=s.toks) (fun b o hb e=>eb b o hb e) f0 f1 f3 f4 f5⟩
 self:=fun _ _ _ _ _ st h=>wpAny_pyIter_rangeiter st h
end L2
namespace L2
open PySem PySem.Spec PyProof.Rows
section
variable {X:Cx} {tg:Expr}
def Mw (K:PySem.W.Frag) (tl:TE):TI:=fun σ H R=>tl σ H fun x H1=>∃ a,x=.ref a/\(∃ xs,SqL K H1 a xs)/\R (Itl K a) H1
def Rh (K:PySem.W.Frag) (tl:TE):TI:=fun σ H R=>tl σ H fun x H1=>∃ a,x=.ref a/\(∃ xs,SqT K H1 a xs)/\R (Itt K a) H1
theorem EF {l:Expr} {tl:TE} (hl:PE X l tl):PI X tg l (Mw X.K tl):=by
 intro pins s σ H R I h
 refine thn (hl pins s σ H _ I h) fun v s1 ⟨x,H1,I1,r1,q1⟩ => ?_
 obtain ⟨a,e,⟨xs,hq⟩,q⟩:=q1
 subst e
 cases r1
 obtain ⟨its,rv,p,hz⟩:=I1.list hq
 refine wpAny_pyIter_list p.isList ?_
 refine ⟨s1.heap.objs.size,[s1.heap.objs.size],_,_,H1,rfl,I1.kept (t':=s1.toks) fun b o e=>Ä _ e,wC a _,⟨_,Ú _ rfl,rfl,rfl⟩,fun b hb => ?_,q⟩
 have e:b=s1.heap.objs.size:=by simpa using hb
 subst e
 exact I1.fpOk ↥15 (I1.hok.fresh ↥15)
theorem IH {l:Expr} {tl:TE} (hl:PE X l tl):PI X tg l (Rh X.K tl):=by
 intro pins s σ H R I h
 refine thn (hl pins s σ H _ I h) fun v s1 ⟨x,H1,I1,r1,q1⟩ => ?_
 obtain ⟨a,e,⟨xs,hq⟩,q⟩:=q1
 subst e
 cases r1
 obtain ⟨its,rv,p,hz⟩:=I1.tuple hq
 refine wpAny_pyIter_tuple (show s1.heap.IsTuple a its.toArray from p) ?_
 refine ⟨s1.heap.objs.size,[s1.heap.objs.size],_,_,H1,rfl,I1.kept (t':=s1.toks) fun b o e=>Ä _ e,uZ a _,⟨_,Ú _ rfl,rfl,rfl⟩,fun b hb => ?_,q⟩
 have e:b=s1.heap.objs.size:=by simpa using hb
 subst e
 exact I1.fpOk ↥15 (I1.hok.fresh ↥15)
theorem AM {pins:List ↥6} {σ:St} {H:Hp} {s:Shared} {R:It->Hp->Prop} {E:Value->Shared->Prop} {lo hi:Int} {t u v:Tok} {tk:Nat} (I:Inv X pins σ H s) (h1 : -(2^62)<=lo) (h2:lo<2^62) (h3 : -(2^62)<=hi) (h4:hi<2^62)
  (q:R (Itr lo (hi - lo).toNat) H):wpAny ↥4 X.A (pyIter ↥57) (PIE X pins σ tg R) E { s with heap:=s.heap.push { cls:=.type "range",data:=.fields #[.int lo t,.int hi u,.int 1 v] },toks:=tk }:=by
 refine wpAny_pyIter_range (IsRange.new ..) (small_one h1 h2 h3 h4) ?_
 have I1:Inv X pins σ H { s with heap:=s.heap.push { cls:=.type "range",data:=.fields #[.int lo t,.int hi u,.int 1 v] },toks:=tk }:=I.kept fun b o e=>Ä _ e
 refine ⟨(s.heap.push { cls:=.type "range",data:=.fields #[.int lo t,.int hi u,.int 1 v] }).objs.size,[(s.heap.push { cls:=.type "range",data:=.fields #[.int lo t,.int hi u,.int 1 v] }).objs.size],_,_,H,rfl,
  I1.kept (t':=tk) fun b o e=>Ä _ e,u3 _ lo (hi - lo).toNat,?_,fun b hb => ?_,q⟩
 ·have e1:lo+((0:Nat):Int)*1=lo:=by simp
  have e2:(((hi - lo).toNat:Nat):Int) - ((0:Nat):Int)=Builtin.Range.rangeSize lo hi 1:=by rw [rangeSize_one];split<;>omega
  show IsRangeIter _ _ (lo+((0:Nat):Int)*1) ((((hi - lo).toNat:Nat):Int) - ((0:Nat):Int)) 1
  rw [e1,e2]
  exact Ú _ rfl
 ·have e:b=(s.heap.push { cls:=.type "range",data:=.fields #[.int lo t,.int hi u,.int 1 v] }).objs.size:=by simpa using hb
  subst e
  exact I1.fpOk ↥15 (I1.hok.fresh ↥15)
def Mv (ta:TA):TI:=fun σ H R=>ta σ H fun vs H1=>∃ j:Int,vs=[.int j] /\ -(2^62)<=j/\j<2^62/\R (Itr 0 j.toNat) H1
theorem xq {a:Expr} {ta:TA} {p pos:Pos} (hg:Gl X "range") (hm:X.mg "range"=none) (ha:PA X [a] ta) (hs:starEach [a] X.env=[↥125]:=by rfl):PI X tg (.Call (.Name "range" p) [a] [] pos) (Mv ta):=by
 intro pins s σ H R I h
 refine Call_ (fF I hg hm boot_range (Ă (thn (ha pos pins s σ H _ I h) fun us s1 ⟨vs,H1,I1,r1,q1⟩ => ?_) hs rfl))
 obtain ⟨j,e,q1,q2,q⟩:=q1
 subst e
 cases r1 with
 | cons r rr =>
  cases rr
  obtain ⟨t,rfl⟩:=r
  exact call_range_1 (AM I1 ⋯ ⋯ q1 q2 (by simpa using q))
def PL (wi:TI) (g:TG) (tb:TS):TS:=fun D σ H=>wi σ H fun J H1=>∃ W:Nat->Nat->St->Hp->Prop,(∃ m,W 0 m σ H1)/\∀ i m σ H,W i m σ H ->
 (J.stop i H/\D.nx σ H)\/(J.go i H/\∃ N:St->Hp->Prop,(∀ σ' H',N σ' H'->∃ m',m'<m/\W (i+1) m' σ' H')/\∀ x H',J.yld i H x H'->g x σ H' fun σ2 H2=>tb { D with nx:=N,ct:=N,bk:=D.nx } σ2 H2)
def mM (fp:List Addr) (h:Heap):List ↥6:=fp.filterMap fun b=>(h.get? b).map fun o=>(b,o)
theorem cQ {fp:List Addr} {h:Heap} {b:Addr} {o:Obj} (hb:b∈fp) (e:h.get? b=some o):(b,o)∈mM fp h:=Ĺ.mpr ⟨b,hb,by rw [e];rfl⟩
theorem p5 {fp:List Addr} {h:Heap} {p:Addr×Obj} (hp:p∈mM fp h):p.1∈fp/\h.get? p.1=some p.2:=by
 obtain ⟨b,hb,e⟩:=Ĺ.mp hp
 cases q:h.get? b with
 | none=>rw [q] at e;cases e
 | some o =>
  rw [q] at e
  have e':(b,o)=p:=Ó.inj e
  subst e'
  exact ⟨hb,q⟩
theorem Inv.pinned {pins:List ↥6} {σ:St} {H:Hp} {s:Shared} {fp:List Addr} (I:Inv X pins σ H s) (hf:∀ b∈fp,vU X pins H b) (ho:∀ b∈fp,∃ o,s.heap.get? b=some o/\∀ v,o.data ≠ .cell v):Inv X (pins++mM fp s.heap) σ H s :=
 I.pins_of fun p hp=>(È.mp hp).elim (fun z=>I.pin p (Ç _ z)) fun z=>by
  obtain ⟨hb,e⟩:=p5 z
  obtain ⟨f0,f1,f2,_⟩:=hf p.1 hb
  obtain ⟨o,e',d⟩:=ho p.1 hb
  rw [e] at e';cases e'
  exact ⟨e,f0,f1,f2,d⟩
theorem Inv.unpinned {pins pl:List ↥6} {σ:St} {H:Hp} {s:Shared} (I:Inv X (pins++pl) σ H s):Inv X pins σ H s:=I.pins_of fun p hp=>I.pin p (Ç _ (ð _ hp))
theorem ID {iter:Expr} {body:List Stmt} {wi:TI} {g:TG} {tb:TS} {pos:Pos} (hp:PassesOwn ↥4 X.A X.env X.xe) (hc:X.calm=true) (hi:PI X tg iter wi) (hg:PG X tg g) (hb:PSs X body tb)
  (hs:∀ x,foldedSetIterable iter X.env x=pure x:=by intro _;rfl):PS X (.For tg iter body [] pos) (PL wi g tb):=by
 intro pins s σ H D I h
 refine wpAny_For (thn (hi pins s σ H _ I h) fun v s1 h1=>thn h1 fun itv s2 h2 => ?_) hs
 obtain ⟨it,fp,tn,J,H2,e,I2,T,st2,f2,W,⟨m0,w0⟩,turn⟩:=h2
 subst e
 have stat:∀ {H':Hp},(∀ b∈fp,H' b=none)->∀ b∈fp,vU X pins H' b:=fun hn b hb=>⟨hn b hb,(f2 b hb).2⟩
 refine codeAny_forLoop_any (fun n s'=>∃ i σ' H',Inv X pins σ' H' s'/\tn i s'.heap/\(∀ b∈fp,H' b=none)/\W i n σ' H') ?_ m0 ⟨0,σ,H2,I2,st2,fun b hb=>(f2 b hb).1,w0⟩
 rintro n s3 ⟨i,σ3,H3,I3,st3,fr3,w3⟩
 rcases turn i n σ3 H3 w3 with ⟨stop,qn⟩ | ⟨go,N,hN,step⟩
 ·refine wpAny_passesOwn hp (thn (T.done X rfl rfl rfl hc i pins s3 σ3 H3 X.xe I3 (stat fr3) st3 stop) fun r s4 ⟨hr,I4⟩ => ?_)
  subst hr
  exact wpAny_execs_nil ⟨σ3,H3,I4,qn⟩
 ·refine wpAny_passesOwn hp (thn (T.item X rfl rfl rfl hc i pins s3 σ3 H3 X.xe I3 (stat fr3) st3 go) fun r s4 ⟨u,hr,h4⟩ => ?_)
  subst hr
  refine wpAny_passesOwn hp (thn h4 fun _ s5 ⟨x,H5,I5,r5,y5,st5,fr5⟩ => ?_)
  have I5':=I5.pinned (stat fr5) (T.obj _ _ st5)
  refine wpAny_passesOwn hp (thn (hg _ s5 σ3 H5 x u _ I5' r5 (step x H5 y5)) fun _ s6 ⟨σ6,H6,I6,q6⟩ => ?_)
  refine wpAny_passesOwn hp (thn (hb _ s6 σ6 H6 _ I6 q6) fun f s7 q7 => ?_)
  have again:∀ {σ7:St} {H7:Hp},Inv X (pins++mM fp s5.heap) σ7 H7 s7->N σ7 H7->∃ m,m<n/\∃ i σ' H',Inv X pins σ' H' s7/\tn i s7.heap/\(∀ b∈fp,H' b=none)/\W i m σ' H':=fun {σ7 H7} I7 n7=>by
   obtain ⟨m',hm,w7⟩:=hN σ7 H7 n7
   refine ⟨m',hm,i+1,σ7,H7,I7.unpinned,T.keep _ _ _ st5 fun b hb o e=>(I7.pin (b,o) (Ç _ (Ç _ (cQ hb e)))).1,fun b hb => ?_,w7⟩
   obtain ⟨o,e,d⟩:=T.obj _ _ st5 b hb
   exact (I7.pin (b,o) (Ç _ (Ç _ (cQ hb e)))).2.1
  cases f with
  | next=>obtain ⟨σ7,H7,I7,n7⟩:=q7;exact again I7 n7
  | cont=>obtain ⟨σ7,H7,I7,n7⟩:=q7;exact again I7 n7
  | brk=>obtain ⟨σ7,H7,I7,q7⟩:=q7;exact ⟨σ7,H7,I7.unpinned,q7⟩
  | ret v=>obtain ⟨x7,σ7,H7,I7,r7,q7⟩:=q7;exact ⟨x7,σ7,H7,I7.unpinned,r7,q7⟩
end
end L2
namespace L2
open PySem PySem.Spec PyProof.Rows
abbrev R2:=V->V->Hp->VK->Prop
def OpR (X:Cx) (f:Value->Value->Sem Value) (r:R2):Prop :=
 ∀ (pins:List ↥6) (s:Shared) (σ:St) (H:Hp) (x y:V) (v u:Value) (Q:VK),Inv X pins σ H s->RelV x v->RelV y u->r x y H Q ->
  wpAny ↥4 X.A (f v u) ↥70 X.xe s
def UnR (X:Cx) (f:Value->Sem Value) (r:V->Hp->VK->Prop):Prop :=
 ∀ (pins:List ↥6) (s:Shared) (σ:St) (H:Hp) (x:V) (v:Value) (Q:VK),Inv X pins σ H s->RelV x v->r x H Q ->
  wpAny ↥4 X.A (f v) ↥70 X.xe s
def fS (X:Cx) (f:Value) (r:List V->Hp->VK->Prop):Prop :=
 ∀ (pins:List ↥6) (s:Shared) (σ:St) (H:Hp) (xs:List V) (us:List Value) (Q:VK),Inv X pins σ H s->Vals xs us->r xs H Q ->
  wpAny ↥4 X.A (call f us) ↥70 X.xe s
def tOp (r:R2) (ta tb:TE):TE:=fun σ H Q=>ta σ H fun x H1=>tb σ H1 fun y H2=>r x y H2 Q
def tUn (r:V->Hp->VK->Prop) (ta:TE):TE:=fun σ H Q=>ta σ H fun x H1=>r x H1 Q
def rI (C:Int->Int->Prop) (g:Int->Int->V):R2:=fun x y H Q=>∃ i j,x=.int i/\y=.int j/\C i j/\Q (g i j) H
def rI0 (g:Int->Int->V):R2:=fun x y H Q=>∃ i j,x=.int i/\y=.int j/\Q (g i j) H
def rU (g:Int->V):V->Hp->VK->Prop:=fun x H Q=>∃ i,x=.int i/\Q (g i) H
section
variable {X:Cx} {a b c:Expr} {ta tb tc:TE} {pos:Pos}
theorem MN (ha:PE X a ta) (hb:PE X b tb) {pins:List ↥6} {s:Shared} {σ:St} {H:Hp} {R:V->V->Hp->Prop} (I:Inv X pins σ H s)
  (h:ta σ H fun x H1=>tb σ H1 fun y H2=>R x y H2) {Q:Value->Shared->Prop} {f:Value->Value->Sem Value}
  (hf:∀ v u s2 x y H2,Inv X pins σ H2 s2->RelV x v->RelV y u->R x y H2->wpAny ↥4 X.A (f v u) Q X.xe s2) :
  wpAny ↥4 X.A (eval a X.env) (fun v s₁=>wpAny ↥4 X.A (eval b X.env) (fun u s₂=>wpAny ↥4 X.A (f v u) Q X.xe s₂) X.xe s₁) X.xe s:=by
 refine thn ↥64 fun v s1 ⟨x,H1,I1,r1,q1⟩ => ?_
 refine thn (hb pins s1 σ H1 _ I1 q1) fun u s2 ⟨y,H2,I2,r2,q2⟩ => ?_
 exact hf v u s2 x y H2 I2 r1 r2 q2
theorem L7 {op:Operator} {r:R2} (ho:OpR X (binaryOp op) r) (ha:PE X a ta) (hb:PE X b tb):PE X (.BinOp a op b pos) (tOp r ta tb):=by
 intro pins s σ H Q I h
 exact wpAny_BinOp (MN ha hb I h fun v u s2 x y H2 I2 rx ry q=>ho pins s2 σ H2 x y v u Q I2 rx ry q)
theorem LY {op:UnaryOp} {r:V->Hp->VK->Prop} (ho:UnR X (unaryOp op) r) (ha:PE X a ta):PE X (.UnaryOp op a pos) (tUn r ta):=by
 intro pins s σ H Q I h
 exact UnaryOp_ (thn ↥64 fun v s1 ⟨x,H1,I1,r1,q1⟩=>ho pins s1 σ H1 x v Q I1 r1 q1)
theorem opI {f:Value->Value->Sem Value} {C:Int->Int->Prop} {g:Int->Int->Int}
  (rule:∀ (i j:Int) (t u:Tok) (s:Shared) (Q:Value->Shared->Prop) (E:Value->Shared->Prop),C i j->Q (.int (g i j) s.toks) { s with toks:=s.toks+1 }->wpAny ↥4 X.A (f (.int i t) (.int j u)) Q E s) :
  OpR X f (rI C fun i j=>.int (g i j)):=by
 intro pins s σ H x y v u Q I rx ry h
 obtain ⟨i,j,rfl,rfl,hc,q⟩:=h
 obtain ⟨t,rfl⟩:=rx
 obtain ⟨t',rfl⟩:=ry
 exact rule i j t t' s _ _ hc ⟨.int (g i j),H,I.tok _,⟨_,rfl⟩,q⟩
theorem KU {f:Value->Value->Sem Value} {g:Int->Int->Int}
  (rule:∀ (i j:Int) (t u:Tok) (s:Shared) (Q:Value->Shared->Prop) (E:Value->Shared->Prop),Q (.int (g i j) s.toks) { s with toks:=s.toks+1 }->wpAny ↥4 X.A (f (.int i t) (.int j u)) Q E s) :
  OpR X f (rI0 fun i j=>.int (g i j)):=by
 intro pins s σ H x y v u Q I rx ry h
 obtain ⟨i,j,rfl,rfl,q⟩:=h
 obtain ⟨t,rfl⟩:=rx
 obtain ⟨t',rfl⟩:=ry
 exact rule i j t t' s _ _ ⟨.int (g i j),H,I.tok _,⟨_,rfl⟩,q⟩
theorem KW {f:Value->Value->Sem Value} {g:Int->Int->Bool}
  (rule:∀ (i j:Int) (t u:Tok) (s:Shared) (Q:Value->Shared->Prop) (E:Value->Shared->Prop),Q (.bool (g i j)) s->wpAny ↥4 X.A (f (.int i t) (.int j u)) Q E s) :
  OpR X f (rI0 fun i j=>.bl (g i j)):=by
 intro pins s σ H x y v u Q I rx ry h
 obtain ⟨i,j,rfl,rfl,q⟩:=h
 obtain ⟨t,rfl⟩:=rx
 obtain ⟨t',rfl⟩:=ry
 exact rule i j t t' s _ _ ⟨.bl (g i j),H,I,rfl,q⟩
theorem Jm:OpR X (binaryOp .Add) (rI0 fun i j=>.int (i+j)):=KU fun _ _ _ _ _ _ _ q=>add_int q
theorem Jg:OpR X (binaryOp .Sub) (rI0 fun i j=>.int (i - j)):=KU fun _ _ _ _ _ _ _ q=>sub_int q
theorem Ji:OpR X (binaryOp .Mod) (rI (fun _ j=>0<j) fun i j=>.int (i%j)):=opI fun i j _ _ _ _ _ hc q=>by
 have h1:(0:Int)<j:=hc
 exact mod_int' ⋯ (by rw [Int.fmod_eq_emod_of_nonneg i ⋯];exact q)
theorem Jl:OpR X (binaryOp .BitAnd) (rI0 fun i j=>.int (Builtin.bitAnd i j)):=KU fun _ _ _ _ _ _ _ q=>and_int q
theorem Jf:OpR X (binaryOp .BitXor) (rI0 fun i j=>.int (Builtin.bitXor i j)):=KU fun _ _ _ _ _ _ _ q=>xor_int q
theorem unI {f:Value->Sem Value} {g:Int->Int}
  (rule:∀ (i:Int) (t:Tok) (s:Shared) (Q:Value->Shared->Prop) (E:Value->Shared->Prop),Q (.int (g i) s.toks) { s with toks:=s.toks+1 }->wpAny ↥4 X.A (f (.int i t)) Q E s) :
  UnR X f (rU fun i=>.int (g i)):=by
 intro pins s σ H x v Q I rx h
 obtain ⟨i,rfl,q⟩:=h
 obtain ⟨t,rfl⟩:=rx
 exact rule i t s _ _ ⟨.int (g i),H,I.tok _,⟨_,rfl⟩,q⟩
theorem Hm:UnR X (unaryOp .USub) (rU fun i=>.int (-i)):=unI fun _ _ _ _ _ q=>neg_int q
end
def KS:V->V->Bool
 | .non,.non=>true | .non,.int _=>true | .int _,.non=>true | .non,.bl _=>true | .bl _,.non=>true | .non,.str _=>true | .str _,.non=>true
 | .int _,.int _=>true | .bl _,.bl _=>true | .str _,.str _=>true | .byt _,.byt _=>true
 | .int _,.str _=>true | .str _,.int _=>true | .bl _,.str _=>true | .str _,.bl _=>true
 | _,_=>false
def rEq:R2:=fun x y H Q=>KS x y=true/\Q (.bl (decide (x=y))) H
def rNe:R2:=fun x y H Q=>KS x y=true/\Q (.bl (!decide (x=y))) H
theorem sC {i j:Int}:decide (V.int i=V.int j)=(i == j):=by
 rw [œ]
 simp
theorem yT {i j:Bool}:decide (V.bl i=V.bl j)=(i == j):=by
 rw [œ]
 simp
theorem sA {i j:Str}:decide (V.str i=V.str j)=(i == j):=by
 rw [œ]
 simp
theorem yS {i j:Array UInt8}:decide (V.byt i=V.byt j)=(i.toList == j.toList):=by
 rw [œ]
 cases i
 cases j
 simp
section
variable {X:Cx} {a b c:Expr} {ta tb tc:TE} {pos:Pos}
theorem dR {pins:List ↥6} {σ:St} {H:Hp} {s:Shared} {Q:VK} {k k':Bool} (I:Inv X pins σ H s) (q:Q (.bl k) H) (e:k=k'):EP X pins σ Q (.bool k') s:=by
 subst e
 exact ⟨.bl k,H,I,rfl,q⟩
theorem Mg:OpR X (compareOp .Eq) rEq:=by
 intro pins s σ H x y v u Q I rx ry h
 obtain ⟨hs,q⟩:=h
 cases x with
 | non =>
  cases rx
  cases y with
  | non=>cases ry;exact PySem.EqNone.eq_none_none ↥21
  | bl j=>cases ry;exact PySem.EqNone.eq_none_bool ↥21
  | int j=>obtain ⟨t',rfl⟩:=ry;exact PySem.EqNone.eq_none_int ↥21
  | str j=>obtain ⟨t',rfl⟩:=ry;exact PySem.EqNone.eq_none_str ↥21
  | _=>exact absurd (show false=true from hs) Í
 | bl i =>
  cases rx
  cases y with
  | non=>cases ry;exact PySem.EqNone.eq_bool_none ↥21
  | bl j=>cases ry;exact eq_bool (dR I q yT)
  | str j=>obtain ⟨t',rfl⟩:=ry;exact PySem.EqMixed.eq_bool_str ↥21
  | _=>exact absurd (show false=true from hs) Í
 | int i =>
  obtain ⟨t,rfl⟩:=rx
  cases y with
  | non=>cases ry;exact PySem.EqNone.eq_int_none ↥21
  | int j=>obtain ⟨t',rfl⟩:=ry;exact eq_int (dR I q sC)
  | str j=>obtain ⟨t',rfl⟩:=ry;exact PySem.EqMixed.eq_int_str ↥21
  | _=>exact absurd (show false=true from hs) Í
 | str i =>
  obtain ⟨t,rfl⟩:=rx
  cases y with
  | non=>cases ry;exact PySem.EqNone.eq_str_none ↥21
  | bl j=>cases ry;exact PySem.EqMixed.eq_str_bool ↥21
  | int j=>obtain ⟨t',rfl⟩:=ry;exact PySem.EqMixed.eq_str_int ↥21
  | str j=>obtain ⟨t',rfl⟩:=ry;exact eq_str (dR I q sA)
  | _=>exact absurd (show false=true from hs) Í
 | byt i =>
  obtain ⟨t,rfl⟩:=rx
  cases y with
  | byt j=>obtain ⟨t',rfl⟩:=ry;exact PySem.W.eq_bytes (dR I q yS)
  | _=>exact absurd (show false=true from hs) Í
 | _=>cases y<;>exact absurd (show false=true from hs) Í
theorem Mb:OpR X (compareOp .NotEq) rNe:=by
 intro pins s σ H x y v u Q I rx ry h
 obtain ⟨hs,q⟩:=h
 cases x with
 | non =>
  cases rx
  cases y with
  | non=>cases ry;exact PySem.EqNone.ne_none_none ↥21
  | bl j=>cases ry;exact PySem.EqNone.ne_none_bool ↥21
  | int j=>obtain ⟨t',rfl⟩:=ry;exact PySem.EqNone.ne_none_int ↥21
  | str j=>obtain ⟨t',rfl⟩:=ry;exact PySem.EqNone.ne_none_str ↥21
  | _=>exact absurd (show false=true from hs) Í
 | bl i =>
  cases rx
  cases y with
  | non=>cases ry;exact PySem.EqNone.ne_bool_none ↥21
  | bl j=>cases ry;exact ne_bool (dR I q (congrArg not yT))
  | str j=>obtain ⟨t',rfl⟩:=ry;exact PySem.EqMixed.ne_bool_str ↥21
  | _=>exact absurd (show false=true from hs) Í
 | int i =>
  obtain ⟨t,rfl⟩:=rx
  cases y with
  | non=>cases ry;exact PySem.EqNone.ne_int_none ↥21
  | int j=>obtain ⟨t',rfl⟩:=ry;exact ne_int (dR I q (congrArg not sC))
  | str j=>obtain ⟨t',rfl⟩:=ry;exact PySem.EqMixed.ne_int_str ↥21
  | _=>exact absurd (show false=true from hs) Í
 | str i =>
  obtain ⟨t,rfl⟩:=rx
  cases y with
  | non=>cases ry;exact PySem.EqNone.ne_str_none ↥21
  | bl j=>cases ry;exact PySem.EqMixed.ne_str_bool ↥21
  | int j=>obtain ⟨t',rfl⟩:=ry;exact PySem.EqMixed.ne_str_int ↥21
  | str j=>obtain ⟨t',rfl⟩:=ry;exact ne_str (dR I q (congrArg not sA))
  | _=>exact absurd (show false=true from hs) Í
 | byt i =>
  obtain ⟨t,rfl⟩:=rx
  cases y with
  | byt j=>obtain ⟨t',rfl⟩:=ry;exact PySem.W.ne_bytes (dR I q (congrArg not yS))
  | _=>exact absurd (show false=true from hs) Í
 | _=>cases y<;>exact absurd (show false=true from hs) Í
theorem Mc:OpR X (compareOp .Lt) (rI0 fun i j=>.bl (decide (i<j))):=KW fun _ _ _ _ _ _ _ q=>lt_int q
theorem Md:OpR X (compareOp .LtE) (rI0 fun i j=>.bl (decide (i<=j))):=KW fun _ _ _ _ _ _ _ q=>le_int q
theorem Me:OpR X (compareOp .Gt) (rI0 fun i j=>.bl (decide (j<i))):=KW fun _ _ _ _ _ _ _ q=>gt_int q
theorem Mf:OpR X (compareOp .GtE) (rI0 fun i j=>.bl (decide (j<=i))):=KW fun _ _ _ _ _ _ _ q=>ge_int q
theorem xw:OpR X (compareOp .In) (fun x y H Q=>∃ i j,x=.str i/\y=.str j/\Q (.bl (!(Åf j i 0 j.length 1).isEmpty)) H):=by
 intro pins s σ H x y v u Q I rx ry h
 obtain ⟨i,j,rfl,rfl,q⟩:=h
 obtain ⟨t,rfl⟩:=rx
 obtain ⟨t',rfl⟩:=ry
 exact in_str (dR I q rfl)
theorem Jj:OpR X (compareOp .Is) (fun x y H Q=>y=.non/\Q (.bl (decide (x=.non))) H):=by
 intro pins s σ H x y v u Q I rx ry h
 obtain ⟨rfl,q⟩:=h
 cases ry
 refine is_none_gen (dR I q ?_)
 cases x<;>first
  | (cases rx;rfl)
  | (obtain ⟨t,rfl⟩:=rx;rfl)
def isObj:HO->Bool
 | .lst _=>true
 | .ins _ _ _=>true
 | _=>false
theorem p7 {pins:List ↥6} {s:Shared} {σ:St} {H:Hp} {a:Addr} {o:HO} (I:Inv X pins σ H s) (h:H a=some o) (p:isObj o=true):∃ ob,s.heap.get? a=some ob/\ob.cls ≠ .type "tuple":=by
 cases o with
 | lst xs =>
  obtain ⟨_,its,n,_,e⟩:xs.length<=sizeLine/\∃ (its:List Value) (n:Nat),Vals xs its/\s.heap.get? a=some { cls:=.type "list",data:=.seq its.toArray n }:=I.hok a _ h
  exact ⟨_,e,(by show Ň "list" ≠ .type "tuple";decide +kernel)⟩
 | ins C dx fs =>
  have x:=I.hok a _ h
  obtain ⟨_,_,_,e,_⟩:=x
  exact ⟨_,e,(by show â C ≠ .type "tuple";exact fun z=>by cases z)⟩
 | _=>exact absurd (show false=true from p) Í
theorem ir (b:Expr) {op:CmpOp} (h:op ≠ .In:=by decide) (h2:op ≠ .NotIn:=by decide):behindInMarks op b=false:=by
 have e1:(op == CmpOp.In)=false:=by cases op<;>first | rfl | exact absurd rfl h
 have e2:(op == CmpOp.NotIn)=false:=by cases op<;>first | rfl | exact absurd rfl h2
 cases b<;>simp [behindInMarks,e1,e2]
theorem EI {op:CmpOp} {r:R2} (ho:OpR X (compareOp op) r) (ha:PE X a ta) (hb:PE X b tb) (hm:behindInMarks op b=false):PE X (.Compare a [op] [b] pos) (tOp r ta tb):=by
 intro pins s σ H Q I h
 exact wpAny_Compare1 (MN ha hb I h fun v u s2 x y H2 I2 rx ry q=>ho pins s2 σ H2 x y v u Q I2 rx ry q) hm
def Ls (t:TE):TT:=fun σ H Q=>t σ H fun x H'=>∃ k,x=.bl k/\Q k H'
theorem xi {op:CmpOp} {r:R2} (ho:OpR X (compareOp op) r) (ha:PE X a ta) (hb:PE X b tb) (hm:behindInMarks op b=false):PT X (.Compare a [op] [b] pos) (Ls (tOp r ta tb)):=by
 intro pins s σ H Q I h
 refine wpAny_isTrue_Compare1 (thn ↥64 fun v s1 ⟨x,H1,I1,r1,q1⟩=>thn (hb pins s1 σ H1 _ I1 q1) fun u s2 ⟨y,H2,I2,r2,q2⟩ =>
  thn (ho pins s2 σ H2 x y v u _ I2 r1 r2 q2) fun c s3 ⟨z,H3,I3,r3,k,e,q3⟩ => ?_) hm
 subst e
 cases r3
 exact wpAny_truthy_bool ⟨H3,I3,q3⟩
def HQ (r r':R2) (ta tb tc:TE):TE:=fun σ H Q=>ta σ H fun x H1=>tb σ H1 fun y H2=>r x y H2 fun z H3=>∃ k,z=.bl k /\
 (if k=true then tc σ H3 fun w' H4=>r' y w' H4 Q else Q ↥56 H3)
theorem AR {op op':CmpOp} {r r':R2} (ho:OpR X (compareOp op) r) (ho':OpR X (compareOp op') r') (ha:PE X a ta) (hb:PE X b tb) (hc:PE X c tc)
  (hm:lastMarks [op,op'] [b,c]=false:=by with_unfolding_all rfl):PE X (.Compare a [op,op'] [b,c] pos) (HQ r r' ta tb tc):=by
 intro pins s σ H Q I h
 refine Compare_chain (thn ↥64 fun v s1 ⟨x,H1,I1,r1,q1⟩=>chain_link (thn (hb pins s1 σ H1 _ I1 q1) fun u s2 ⟨y,H2,I2,r2,q2⟩ =>
  thn (ho pins s2 σ H2 x y v u _ I2 r1 r2 q2) fun d s3 ⟨z,H3,I3,r3,k,e,q3⟩ => ?_)) hm
 subst e
 cases r3
 refine wpAny_truthy_bool ?_
 cases k with
 | false=>exact ite_ff ⟨.bl false,H3,I3,rfl,q3⟩
 | true=>exact ite_tt (chain_last (thn (hc pins s3 σ H3 _ I3 q3) fun w' s4 ⟨z',H4,I4,r4,q4⟩=>ho' pins s4 σ H4 y z' u w' Q I4 r2 r4 q4))
theorem qd:(sizeLine:Nat)<2^63:=by rw [sizeLine_eq];decide
theorem vm:OpR X (binaryOp .Add) (fun x y H Q=>∃ i j,x=.str i/\y=.str j/\i.length+j.length<=sizeLine/\Q (.str (i++j)) H):=by
 intro pins s σ H x y v u Q I rx ry h
 obtain ⟨i,j,rfl,rfl,hz,q⟩:=h
 obtain ⟨t,rfl⟩:=rx
 obtain ⟨t',rfl⟩:=ry
 exact add_str (fun t' tk=>⟨.str (i++j),H,I.tok _,⟨_,rfl⟩,q⟩) hz
theorem vals1 {x:V} {us:List Value} (r:Vals [x] us):∃ u,us=[u]/\RelV x u:=by
 cases r with
 | cons r1 r2=>cases r2;exact ⟨_,rfl,r1⟩
theorem vals2 {x y:V} {us:List Value} (r:Vals [x,y] us):∃ u w',us=[u,w']/\RelV x u/\RelV y w':=by
 cases r with
 | cons r1 r2 =>
  cases r2 with
  | cons r3 r4=>cases r4;exact ⟨_,_,rfl,r1,r3⟩
theorem BV:fS X (.builtin "abs") (fun xs H Q=>∃ i,xs=[.int i]/\Q (.int (if i<0 then -i else i)) H):=by
 intro pins s σ H xs us Q I r h
 obtain ⟨i,rfl,q⟩:=h
 obtain ⟨u,rfl,t,rfl⟩:=vals1 r
 exact call_abs_int fun u tk=>⟨.int (if i<0 then -i else i),H,I.tok _,⟨_,rfl⟩,q⟩
theorem yZ (hc:X.calm=true):fS X (.builtin "max") (fun xs H Q=>∃ i j,xs=[.int i,.int j]/\Q (.int (if j>i then j else i)) H):=by
 intro pins s σ H xs us Q I r h
 obtain ⟨i,j,rfl,q⟩:=h
 obtain ⟨u,w',rfl,⟨t,rfl⟩,⟨t',rfl⟩⟩:=vals2 r
 refine max_two_ints (I.ok.hd hc) fun h' tk k=>⟨_,H,I.kept k,?_,q⟩
 by_cases hj:j>i
 ·rw [if_pos hj,if_pos hj];exact ⟨_,rfl⟩
 ·rw [if_neg hj,if_neg hj];exact ⟨_,rfl⟩
theorem yY (hc:X.calm=true):fS X (.builtin "min") (fun xs H Q=>∃ i j,xs=[.int i,.int j]/\Q (.int (if j<i then j else i)) H):=by
 intro pins s σ H xs us Q I r h
 obtain ⟨i,j,rfl,q⟩:=h
 obtain ⟨u,w',rfl,⟨t,rfl⟩,⟨t',rfl⟩⟩:=vals2 r
 refine min_two_ints (I.ok.hd hc) fun h' tk k=>⟨_,H,I.kept k,?_,q⟩
 by_cases hj:j<i
 ·rw [if_pos hj,if_pos hj];exact ⟨_,rfl⟩
 ·rw [if_neg hj,if_neg hj];exact ⟨_,rfl⟩
end
end L2
namespace L2
open PySem PySem.Spec PyProof.Rows
structure ObjM (h:Heap) (x dx C:Addr) (mA:Str->Option Value):Prop where
 obj:h.get? x=some (ī C dx)
 ns:h.Ns1 dx mA
 ne:dx≠x
theorem yj {h:Heap} {dx:Addr} {mA:Str->Option Value} (n:h.Ns1 dx mA):∃ od,h.get? dx=some od/\∀ name,Èg name od=some (mA name):=by
 obtain ⟨o,es,ep,ho,hd,hk,_,hm⟩:=n
 refine ⟨o,ho,fun name => ?_⟩
 have e:=hm name
 unfold nsFind findBy at e
 rw [<- Array.find?_toList] at e
 unfold PySem.W.lookIn
 rw [hd]
 dsimp only
 split
 ·rename_i y q
  rw [q] at e
  exact congrArg some e
 ·rename_i q
  rw [q] at e
  have a:es.toList.any (·.refKey)=false:=by
   rw [List.any_eq_false]
   intro y hy
   obtain ⟨z,t,hkey⟩:=hk y (ł.mp hy)
   simp [DictEntry.refKey,hkey]
  have a':¬ es.toList.any (·.refKey)=true:=by rw [a];exact Í
  rw [if_neg a']
  exact congrArg some e
theorem ObjM.look {h:Heap} {x dx C:Addr} {mA:Str->Option Value} (I:ObjM h x dx C mA):∃ od,PySem.W.InstAt h x (ī C dx) C (some od)/\∀ name,Èg name od=some (mA name) :=
 let ⟨od,ho,hl⟩:=yj I.ns
 ⟨od,⟨I.obj,rfl,rfl,ho⟩,hl⟩
section
variable {prog:Program} {w:World} {A:Around} {E:Value->Shared->Prop} {s:Shared} {K:PySem.W.Frag} {x dx C f:Addr} {mA:Str->Option Value} {name:Str} {v:Value}
theorem get_map {expr:Bool} {Q:Value->Shared->Prop} (X:K.In s.heap) (I:ObjM s.heap x dx C mA) (hg:PySem.W.plainGet K C name=true) (hh:PySem.W.hasDictIn K C=true)
  (ha:PySem.W.findIn K ↥52 name=some none) (hv:mA name=some v) (hv':PySem.W.handedIn v=true) (h:Q v { s with toks:=s.toks+1 }) :
  wpAny ↥3 A (getAttr (.ref x) name expr) Q E s:=by
 obtain ⟨od,J,hl⟩:=I.look
 exact PySem.W.get_value X J (Ád hg).1 (PySem.W.findObj_own hh ha rfl (by rw [hl,hv])) hv' h
theorem BD {pl:Sem Bool} {Q:Value×List Value->Shared->Prop} (X:K.In s.heap) (I:ObjM s.heap x dx C mA) (hg:PySem.W.plainGet K C name=true)
  (hf:PySem.W.findIn K ↥52 name=some (some (.ref f))) (ht:PySem.W.isFn K (.ref f)=true) (hv:mA name=none) (h:Q (.ref f,[.ref x]) s) :
  wpAny ↥3 A (getMethod (.ref x) name pl) Q E s:=by
 obtain ⟨od,J,hl⟩:=I.look
 exact PySem.W.method_fn X J (Ád hg).1 (Ád hg).2 hf (beq_iff_eq.mp ht) (by show (Èg name od).map (·.isSome)=some false;rw [hl,hv];rfl) h
theorem Eo {ns:List Str} {Q:Unit->Shared->Prop} (X:K.In s.heap) (I:ObjM s.heap x dx C mA)
  (hs:PySem.W.findIn K ↥52 "__setattr__"=some (some (.builtin "object.__setattr__"))) (hp:PySem.W.plainOver K C=true) (ht:PySem.W.takerIn K C name=some none) (hh:PySem.W.hasDictIn K C=true)
  (hw:PySem.Within mA ns) (hsz:ns.length<=sizeLine)
  (h:∀ h',ObjM h' x dx C (fun y=>if y=name then some v else mA y)->Ę dx s.heap h'->Q () { s with heap:=h',toks:=s.toks+2 }) :
  wpAny ↥3 A (setAttr (.ref x) name v) Q E s:=by
 obtain ⟨od,J,hl⟩:=I.look
 refine PySem.W.set_plain X J hs (PySem.W.osa_open (s:={ s with toks:=s.toks+1 }) (r:=none) X J hp ht fun b => ?_)
 obtain ⟨cd,hc,hd'⟩:=PySem.W.any_some hh
 have hx:s.heap.get? x=some ⟨.ref C,some dx,.plain,#[]⟩:=I.obj
 refine wpAny_bind (wpAny_pure (wpAny_bind (wpAny_bind (wpAny_loadPart hx (wpAny_bind (PySem.W.Looks.here (s:={ s with toks:=s.toks+1 }) (PySem.W.looks_clsIn X hc) ?_))))))
 rw [hd']
 refine wpAny_pure (a:=some dx) (wpAny_bind (wpAny_pure (wpAny_bind ?_)))
 refine wpAny_nsSet1 (s:={ s with toks:=s.toks+1 }) I.ns fun h' hn2 hs2 => ?_
 obtain ⟨oD,esD,epD,hoD,hdD,hcD⟩:=hn2.count (PySem.Within.cons name v hw)
 refine wpAny_bind (wpAny_lookBehind hoD (by rw [hdD];exact pastItsLine_dict (Ð hcD (by rw [Ò];omega))) ?_)
 exact wpAny_pure (h _ ⟨(hs2.2 _ (ė I.ne)).trans I.obj,hn2,I.ne⟩ hs2)
theorem Bq {R:Result->Shared->Prop} {vs:List Value} {kw:List (Str×Value)} (X:K.In s.heap) (hm:PySem.W.makesIn K C=true)
  (hi:PySem.W.findIn K ↥52 "__init__"=some (some (.ref f))) (hf:PySem.W.typeIn K (.ref f)=some (.type "function"))
  (h:codeAny ↥3 (A.under (.builtin "type.__call__" ⟨.ref C::vs,kw⟩)) (.call (.ref f) ⟨.ref ↥32::vs,kw⟩) (PySem.W.InitBack ↥32 R)
   { s with heap:=(s.heap.push Ē).push (ī C s.heap.objs.size) }) :
  codeAny ↥3 A (.call ↥52 ⟨vs,kw⟩) R s:=by
 obtain ⟨hh,g,d,t,os⟩:=s
 exact PySem.W.make_core (PySem.W.makes_of X hm) (PySem.W.looks_findIn X hi) (fun self=>PySem.W.bind_fn X self hf) (.inl rfl) h
end
def qP (f:Str) (v:V):List (Str×V)->List (Str×V)
 | []=>[(f,v)]
 | (g,x)::r=>if g=f then (g,v)::r else (g,x)::qP f v r
theorem ly (f g:Str) (v:V):∀ fs:List (Str×V),(qP f v fs).lookup g=if g=f then some v else fs.lookup g
 | []=>by
  show Ĵ g [(f,v)]=_
  by_cases h:g=f
  ·have hb:(g == f)=true:=beq_iff_eq.mpr h
   simp only [Ĵ,hb,if_pos h]
  ·have hb:(g == f)=false:=beq_eq_false_iff_ne.mpr h
   simp only [Ĵ,hb,if_neg h]
 | (k,x)::r=>by
  have ih:=ly f g v r
  rw [show qP f v ((k,x)::r)=(if k=f then (k,v)::r else (k,x)::qP f v r) from rfl]
  by_cases hk:k=f
  ·rw [if_pos hk]
   by_cases h:g=k
   ·have hb:(g == k)=true:=beq_iff_eq.mpr h
    simp only [Ĵ,hb,if_pos (h.trans hk)]
   ·have hb:(g == k)=false:=beq_eq_false_iff_ne.mpr h
    simp only [Ĵ,hb,if_neg (fun e:g=f=>h (e.trans hk.symm))]
  ·rw [if_neg hk]
   by_cases h:g=k
   ·have hb:(g == k)=true:=beq_iff_eq.mpr h
    simp only [Ĵ,hb,if_neg (fun e:g=f=>hk (h.symm.trans e))]
   ·have hb:(g == k)=false:=beq_eq_false_iff_ne.mpr h
    simp only [Ĵ,hb]
    exact ih
theorem lB (f:Str) (v:V):∀ fs:List (Str×V),f∈(qP f v fs).map (·.1)/\∀ g,g∈fs.map (·.1)->g∈(qP f v fs).map (·.1)
 | []=>⟨by simp [qP],fun g h=>by simp at h⟩
 | (k,x)::r=>by
  obtain ⟨i1,i2⟩:=lB f v r
  rw [show qP f v ((k,x)::r)=(if k=f then (k,v)::r else (k,x)::qP f v r) from rfl]
  by_cases hk:k=f
  ·rw [if_pos hk]
   subst hk
   exact ⟨by simp,fun g h=>by simpa using h⟩
  ·rw [if_neg hk]
   refine ⟨?_,fun g h => ?_⟩
   ·rw [Ê]
    exact ÿ _ i1
   ·rw [Ê] at h ⊢
    rcases Ö.mp h with e | e
    ·exact Ö.mpr (.inl e)
    ·exact ÿ _ (i2 g e)
theorem lA (f:Str) (v:V):∀ fs:List (Str×V),(qP f v fs).length<=fs.length+1
 | []=>by simp [qP]
 | (k,x)::r=>by
  have ih:=lA f v r
  rw [show qP f v ((k,x)::r)=(if k=f then (k,v)::r else (k,x)::qP f v r) from rfl]
  by_cases hk:k=f
  ·rw [if_pos hk,Ò,Ò];omega
  ·rw [if_neg hk,Ò,Ò];omega
theorem zF.some_of {v:V} {o:Option Value} (r:zF (some v) o):∃ u,o=some u/\RelV v u:=by
 cases o with
 | none=>exact (show False from r).elim
 | some u=>exact ⟨u,rfl,r⟩
theorem zF.none_of {o:Option Value} (r:zF none o):o=none:=by
 cases o with
 | none=>rfl
 | some u=>exact (show False from r).elim
theorem yA {v:V} {u:Value} (r:RelV v u):PySem.W.handedIn u=true:=by
 cases v with
 | non=>cases (show u=Ŝ from r);rfl
 | bl b=>cases (show u=Ŭ b from r);rfl
 | int i=>obtain ⟨t,e⟩:=(show ∃ t,u=ű i t from r);cases e;rfl
 | str x=>obtain ⟨t,e⟩:=(show ∃ t,u=Ég x t from r);cases e;rfl
 | byt b=>obtain ⟨t,e⟩:=(show ∃ t,u=Value.bytes b t from r);cases e;rfl
 | flt b=>obtain ⟨t,e⟩:=(show ∃ t,u=Value.float b t from r);cases e;rfl
 | ref a=>cases (show u=â a from r);rfl
 | ty n=>cases (show u=Ň n from r);rfl
section
variable {P:Program} {w:World} {H H':Hp} {h h':Heap} {a C dx:Addr} {fs fs':List (Str×V)}
theorem si (hok:HOk P w H h) (e:H a=some (.ins C dx fs)):∃ mA,ObjM h a dx C mA/\(∀ f,zF (fs.lookup f) (mA f))/\PySem.Within mA (fs.map (·.1))/\fs.length<=1000/\H dx=some (.own a):=by
 obtain ⟨d,z,ne,ob,mA,n,r,q⟩:=(show gI P w H h a (.ins C dx fs) from hok a _ e)
 exact ⟨mA,⟨ob,n,ne⟩,r,q,z,d⟩
end
structure Cls (K:PySem.W.Frag) (C:Addr):Prop where
 pg:PySem.W.plainGet K C Str.empty=true
 hd:PySem.W.hasDictIn K C=true
 po:PySem.W.plainOver K C=true
 sa:PySem.W.findIn K ↥52 "__setattr__"=some (some (.builtin "object.__setattr__"))
theorem Cls.get {K:PySem.W.Frag} {C:Addr} (c:Cls K C) (f:Str):PySem.W.plainGet K C f=true:=c.pg
def iI (K:PySem.W.Frag) (C:Addr) (f:Str):Prop:=PySem.W.findIn K ↥52 f=some none
theorem iI.taker {K:PySem.W.Frag} {C:Addr} {f:Str} (n:iI K C f):PySem.W.takerIn K C f=some none:=by
 unfold PySem.W.takerIn
 rw [show PySem.W.findIn K ↥52 f=some none from n]
 rfl
structure Con (K:PySem.W.Frag) (C:Addr) (f:Str) (v:V) (u:Value):Prop where
 at_:PySem.W.findIn K ↥52 f=some (some u)
 rel:RelV v u
 get:PySem.W.specialIn K u "__get__"=some none
 cp:PySem.W.copiedNames.contains f=false
structure Meth (K:PySem.W.Frag) (C:Addr) (m:Str) (f:Addr):Prop where
 at_:PySem.W.findIn K ↥52 m=some (some (.ref f))
 fn:PySem.W.isFn K (.ref f)=true
 kp:PySem.W.keepIn K (.ref f)=true
section
variable {X:Cx} {pins:List ↥6} {σ:St} {H:Hp} {s:Shared} {a C dx:Addr} {fs:List (Str×V)} {f:Str} {v:V} {A:Around} {E:Value->Shared->Prop}
theorem vE {b:Bool} {Q:Value->Shared->Prop} (I:Inv X pins σ H s) (e:H a=some (.ins C dx fs)) (c:Cls X.K C) (n:iI X.K C f) (l:fs.lookup f=some v)
  (h:∀ u s',Inv X pins σ H s'->RelV v u->Q u s'):wpAny ↥4 A (getAttr ↥114 f b) Q E s:=by
 obtain ⟨mA,O,r,_,_,_⟩:=si I.hok e
 obtain ⟨u,hu,ru⟩:=zF.some_of (v:=v) (o:=mA f) (by rw [<- l];exact r f)
 exact get_map I.kIn O (c.get f) c.hd n hu (yA ru) (h u _ (I.tok _) ru)
theorem vD {m:Str} {g:Addr} {pl:Sem Bool} {Q:Value×List Value->Shared->Prop} (I:Inv X pins σ H s) (e:H a=some (.ins C dx fs)) (c:Cls X.K C) (k:Meth X.K C m g) (l:fs.lookup m=none)
  (h:Q (.ref g,[.ref a]) s):wpAny ↥4 A (getMethod ↥114 m pl) Q E s:=by
 obtain ⟨mA,O,r,_,_,_⟩:=si I.hok e
 have hn:mA m=none:=zF.none_of (by rw [<- l];exact r m)
 exact BD I.kIn O (c.get m) k.at_ k.fn hn h
theorem u5 {y:V} {u:Value} {Q:Unit->Shared->Prop} (I:Inv X pins σ H s) (e:H a=some (.ins C dx fs)) (c:Cls X.K C) (n:iI X.K C f) (hl:fs.length<1000) (ry:RelV y u)
  (h:∀ s',Inv X pins σ (upd H a (.ins C dx (qP f y fs))) s'->Q () s'):wpAny ↥4 A (setAttr ↥114 f u) Q E s:=by
 obtain ⟨mA,O,r,wi,_,ho⟩:=si I.hok e
 have hz:(fs.map (·.1)).length<=sizeLine:=by rw [Á,sizeLine_eq];omega
 refine Eo I.kIn O c.sa c.po n.taker c.hd wi hz fun h' O' sb=>h _ ?_
 have hd:∃ o,h'.get? dx=some o:=let ⟨o,_,_,e',_⟩:=O'.ns;⟨o,e'⟩
 refine I.write (x:=a) (e:=dx) (by rw [e];exact Âf) (.inr ho) (fun b q hb z=>(sb.2 b hb).trans z) hd ?_
 refine ⟨by rw [ar O.ne];exact ho,?_,O.ne,O'.obj,_,O'.ns,fun g => ?_,fun g hg => ?_⟩
 ·have:=lA f y fs;omega
 ·show zF ((qP f y fs).lookup g) (if g=f then some u else mA g)
  rw [ly]
  by_cases q:g=f
  ·rw [if_pos q,if_pos q];exact ry
  ·rw [if_neg q,if_neg q];exact r g
 ·by_cases q:g=f
  ·rw [q];exact (lB f y fs).1
  ·refine (lB f y fs).2 g (wi g fun z=>hg ?_)
   show (if g=f then some u else mA g)=none
   rw [if_neg q];exact z
theorem Inv.made (I:Inv X pins σ H s):Inv X pins σ (upd (upd H s.heap.objs.size (.own ↥32)) ↥32 (.ins C s.heap.objs.size []))
  { s with heap:=(s.heap.push Ē).push (ī C s.heap.objs.size) }:=by
 have e1:(s.heap.push Ē).get? s.heap.objs.size=some Ē:=Ú s.heap rfl
 have e2:((s.heap.push Ē).push (ī C s.heap.objs.size)).get? ↥32=some (ī C s.heap.objs.size):=by
  have:=Ú (s.heap.push Ē) (o:=ī C s.heap.objs.size) rfl
  rwa [ŵ] at this
 have e3:(s.heap.push Ē).Ns s.heap.objs.size (fun _=>none):=⟨Ē,#[],_,e1,rfl,(fun e he=>absurd he ↥80),fun _=>rfl⟩
 have I1:=I.laid (a:=s.heap.objs.size) (o:=.own ↥32) (h':=s.heap.push Ē) (t':=s.toks) (fun b u q=>Ä _ q) ↥15 ⟨_,e1⟩
 refine I1.laid (a:=s.heap.objs.size+1) (o:=.ins C s.heap.objs.size []) (t':=s.toks) (fun b u q=>Ä _ q) (Ń (ŵ _ _)) ?_
 have ne:s.heap.objs.size≠s.heap.objs.size+1:=æ (Ż _)
 refine ⟨by rw [ar ne,au],Ā _,ne,e2,fun _=>none,(Heap.Ns1.of_empty e3).at fun o q=>Ä _ q,fun _=>Âf,fun y hy=>absurd rfl hy⟩
theorem Gq {prog:Program} {w:World} {env:Env} {e:Expr} {f:Str} {pos:Pos} {s:Shared} {Q:Value->Shared->Prop} (hb:attributeBase e f env (eval e env)=eval e env)
  (h:wpAny ↥3 A (eval e env) (fun o s₁=>wpAny ↥3 A (getAttr o f true) Q E s₁) E s):wpAny ↥3 A (eval (.Attribute e f pos) env) Q E s :=
 Attribute_any_ h (by rw [arm_eval_Attribute,hb])
end
def PM (K:PySem.W.Frag) (ta:TE) (f:Str):TE:=fun σ H Q=>ta σ H fun x H1=>∃ a C dx fs v,x=.ref a/\H1 a=some (.ins C dx fs)/\Cls K C/\iI K C f/\fs.lookup f=some v/\Q v H1
def PV (K:PySem.W.Frag) (ta tv:TE) (f:Str):TS:=fun D σ H=>tv σ H fun y H1=>ta σ H1 fun x H2=>∃ a C dx fs,x=.ref a/\H2 a=some (.ins C dx fs)/\Cls K C/\iI K C f/\fs.length<1000 /\
 D.nx σ (upd H2 a (.ins C dx (qP f y fs)))
section
variable {X:Cx} {o e value:Expr} {f:Str} {pos pos' tpos:Pos} {ta tv:TE}
theorem IS (he:PE X e ta) (hb:attributeBase e f X.env (eval e X.env)=eval e X.env):PE X (.Attribute e f pos) (PM X.K ta f):=by
 intro pins s σ H Q I h
 refine Gq hb (thn (he pins s σ H _ I h) fun u s1 ⟨x,H1,I1,rx,a,C,dx,fs,v,ex,ea,c,n,l,q⟩ => ?_)
 subst ex
 obtain rfl:u=â a:=rx
 exact vE I1 ea c n l fun u' s2 I2 ru=>⟨v,H1,I2,ru,q⟩
theorem IE (ha:PE X o ta) (hv:PE X value tv) (hs:swapsWith value (some (.Attribute o f pos')) pos.line X.env=pure false):PS X (.Assign [.Attribute o f pos'] value pos) (PV X.K ta tv f):=by
 intro pins s σ H D I h
 refine plainObj_wpAny_Assign_Attribute (thn (hv pins s σ H _ I h) fun u s1 ⟨y,H1,I1,ry,q⟩=>thn (ha pins s1 σ H1 _ I1 q) fun ov s2 ⟨x,H2,I2,rx,a,C,dx,fs,ex,ea,c,n,l,q2⟩ => ?_) hs
 subst ex
 obtain rfl:ov=â a:=rx
 exact u5 I2 ea c n l ry fun s3 I3=>⟨σ,_,I3,q2⟩
end
section
variable {X:Cx} {pins:List ↥6} {σ:St} {H:Hp} {s:Shared} {A:Around} {E:Value->Shared->Prop} {Q:Value->Shared->Prop} {c:Value} {b:Bool}
inductive TyOf (K:PySem.W.Frag) (H:Hp):V->Value->Prop where
 | non:TyOf K H .non (.type "NoneType")
 | bl (x:Bool):TyOf K H (.bl x) (.type "bool")
 | int (i:Int):TyOf K H ↥123 (.type "int")
 | str (x:Str):TyOf K H (.str x) (.type "str")
 | flt (x:UInt64):TyOf K H (.flt x) (.type "float")
 | lst {a:Addr} {xs:List V} (e:H a=some ↥131):TyOf K H ↥114 (.type "list")
 | frz {a:Addr} {o:Obj} {xs:List V} (e:H a=some (.frz o ↥131)):TyOf K H ↥114 (.type "list")
 | tup {a:Addr} {xs:List V} (e:H a=some (.tup xs)):TyOf K H ↥114 ↥10
 | dK {a:Addr} {kvs:List (Key×V)} (e:H a=some (.dK kvs)):TyOf K H ↥114 ↥73
 | dT {a:Addr} {kvs:List (List Key×V)} (e:H a=some (.dT kvs)):TyOf K H ↥114 ↥73
 | ins {a C dx:Addr} {fs:List (Str×V)} (e:H a=some (.ins C dx fs)) (cl:Cls K C) (ha:PySem.W.findIn K ↥52 "__class__"=some (some ↥40))
   (hn:PySem.W.specialIn K ↥40 "__get__"=some (some (.builtin "getset_descriptor.__get__"))) (htk:PySem.W.takesIn K ↥40=some true)
   (hm:PySem.W.mroIn K C ↥91=some true):TyOf K H ↥114 ↥52
end
end L2
namespace L2
open PySem PySem.Spec PyProof.Rows
structure Room (k:Nat) (A:Around):Prop where
 hd:A.handled=none
 dp:A.depth+3*k+5<recursionLimit
 un:A.units+16*k+200<cLine
theorem Room.mono {j k:Nat} {A:Around} (r:Room k A) (h:j<=k):Room j A:=⟨r.hd,by have:=r.dp;omega,by have:=r.un;omega⟩
theorem Room.deeper {k:Nat} {A:Around} (r:Room (k+1) A) (env:Env):Room k (A.deeper env) :=
 ⟨r.hd,by have:=r.dp;show A.depth+1+3*k+5<_;omega,by have:=r.un;show A.units+3+16*k+200<_;omega⟩
theorem vx {A:Around} {C:Addr} {us:List Value} {kw:List (Str×Value)}:(A.under ↥101).depth=A.depth+1:=by
 first | rfl | simp [Ëb,Code.weight,Code.isCreation,Code.isGuard,Code.isCaller,Code.frames,Ëc,guardIds]
theorem vv {A:Around} {C:Addr} {us:List Value} {kw:List (Str×Value)}:(A.under ↥101).units=A.units+1:=by
 first | rfl | simp [Ëb,Code.cUnits,Code.frames,Ëc]
theorem Room.make {k:Nat} {A:Around} (r:Room (k+1) A) (C:Addr) (us:List Value) (kw:List (Str×Value)):Room k (A.under ↥101) :=
 ⟨r.hd,by have:=r.dp;rw [vx];omega,by have:=r.un;rw [vv];omega⟩
theorem Room.depth {k:Nat} {A:Around} (r:Room k A):A.depth<recursionLimit:=by have:=r.dp;omega
theorem Room.units {k:Nat} {A:Around} (r:Room k A):A.units+64<cLine:=by have:=r.un;omega
def PH:TA:=fun _ H Q=>Q [] H
def LC (ta:TE) (tr:TA):TA:=fun σ H Q=>ta σ H fun x H1=>tr σ H1 fun xs H2=>Q (x::xs) H2
section
variable {X:Cx} {e:Expr} {es:List Expr} {te:TE} {t:TA} {pos:Pos}
theorem ip:PA X [] PH:=fun _ _ _ _ H Q I h=>Äd ⟨[],H,I,.nil,h⟩
theorem fz (ha:PE X e te) (hr:PA X es t) (hs:starEach (e::es) X.env=↥27::starEach es X.env:=by rfl):PA X (e::es) (LC te t):=by
 intro pos pins s σ H Q I h
 rw [hs]
 show wpAny _ _ (spliced (↥27::backTo pos ↥65)) _ _ s
 refine Âg (thn ↥64 fun u s1 ⟨x,H1,I1,r1,q1⟩ => ?_)
 exact thn (hr pos pins s1 σ H1 _ I1 q1) fun us s2 ⟨xs,H2,I2,r2,q2⟩=>⟨x::xs,H2,I2,.cons r1 r2,q2⟩
def Pz (t:TA):TE:=fun σ H Q=>t σ H fun xs H1=>xs.length<=sizeLine/\∀ p,H1 p=none->Q (.ref p) (upd H1 p (.tup xs))
def PJ (t:TA):TE:=fun σ H Q=>t σ H fun xs H1=>xs.length<=sizeLine/\∀ p,H1 p=none->Q (.ref p) (upd H1 p ↥131)
theorem IJ {x1} (h:PA X es t):PE X (.Tuple es x1 pos) (Pz t):=by
 intro pins s σ H Q I hq
 refine wpAny_Tuple_spliced (thn (h pos pins s σ H _ I hq) fun us s1 ⟨xs,H1,I1,r,z,q⟩=>⟨by rw [<- r.length];exact z,?_⟩)
 have hf:H1 s1.heap.objs.size=none:=I1.hok.fresh ↥15
 refine ⟨.ref s1.heap.objs.size,upd H1 s1.heap.objs.size (.tup xs),I1.laid (t':=s1.toks) (fun b u e=>Ä _ e) ↥15 ?_,rfl,q _ hf⟩
 exact ⟨z,us,r,⟨_,Ú _ rfl,rfl,_,rfl⟩⟩
theorem CC (h:PA X es t):PE X (.List es pos) (PJ t):=by
 intro pins s σ H Q I hq
 refine wpAny_List_spliced (thn (h pos pins s σ H _ I hq) fun us s1 ⟨xs,H1,I1,r,z,q⟩=>⟨by rw [<- r.length];exact z,?_⟩)
 have hf:H1 s1.heap.objs.size=none:=I1.hok.fresh ↥15
 refine ⟨.ref s1.heap.objs.size,upd H1 s1.heap.objs.size ↥131,I1.laid (t':=s1.toks) (fun b u e=>Ä _ e) ↥15 ?_,rfl,q _ hf⟩
 exact ⟨z,us,0,r,Ú _ rfl⟩
end
abbrev Sp:=List V->Hp->VK->XK->Prop
abbrev CXT:=List Env->Hp->Shared->XK->Value->Shared->Prop
structure Env0 (P:Program) (w:World) (K:PySem.W.Frag) (mg:Str->Option Value) (base:Heap) (A:Around) (outer:List Env) (s:Shared) (H:Hp):Prop where
 frames:A.frames=some outer
 mod:Mod K mg base
 bs:∀ b o,base.get? b=some o->s.heap.get? b=some o/\H b=none
 bsz:base.objs.size<=s.heap.objs.size
 funs:s.heap.FunFrames base outer
 frf:∀ b∈frs outer,H b=none
 hok:HOk P w H s.heap
 bare:AllBare s.gens
def CE (outer:List Env) (P:Program) (w:World) (H:Hp) (s:Shared) (Q:VK) (u:Value) (s':Shared):Prop :=
 ∃ v H',s'.os=s.os/\AllBare s'.gens/\Un (frs outer) [] H H' s.heap s'.heap/\HOk P w H' s'.heap/\RelV v u/\Q v H'
def CR (CX:CXT) (outer:List Env) (P:Program) (w:World) (H:Hp) (s:Shared) (Q:VK) (E:XK) (r:Result) (s':Shared):Prop :=
 match r with
 | .ok (.ret u)=>CE outer P w H s Q u s'
 | .ok _=>False
 | .error e=>CX outer H s E e s'
structure FnOk (P:Program) (w:World) (K:PySem.W.Frag) (mg:Str->Option Value) (base:Heap) (CX:CXT) (k:Nat) (f:Addr) (fd:FuncData) (ps:List Str) (sp:Sp):Prop where
 len:∀ vs H Q E,sp vs H Q E->vs.length=ps.length
 run:∀ (A:Around) (outer:List Env) (s:Shared) (H:Hp) (args:Args) (us:List Value) (vs:List V) (Q:VK) (E:XK),Room k A->Env0 P w K mg base A outer s H->BindsTo s fd args (ps.zip us)->Vals vs us->sp vs H Q E ->
  codeAny (model P w) A (.call (.ref f) args) (CR CX outer P w H s Q E) s
theorem Env0.make {P:Program} {w:World} {K:PySem.W.Frag} {mg:Str->Option Value} {base:Heap} {A:Around} {outer:List Env} {s:Shared} {H:Hp} (e:Env0 P w K mg base A outer s H) (C:Addr) (us:List Value) (kw:List (Str×Value)) :
  Env0 P w K mg base (A.under ↥101) outer s H:=⟨by first | exact e.frames | (simpa [Ëb,Code.envs,Ëc,pushEnvs] using e.frames),e.mod,e.bs,e.bsz,e.funs,e.frf,e.hok,e.bare⟩
section
variable {X:Cx} {pins:List ↥6} {σ:St} {H:Hp} {s s':Shared}
theorem Inv.env0 (I:Inv X pins σ H s):Env0 X.prog X.w X.K X.mg X.base X.A X.stack s H :=
 ⟨I.ok.frames,I.ok.mod,I.bs,Ð I.ok.bsz I.sz,I.stack,I.stkFree,I.hok,I.bare⟩
theorem Inv.after {Q:VK} {u:Value} (I:Inv X pins σ H s) (h:CE X.stack X.prog X.w H s Q u s'):EP X pins σ Q u s':=by
 obtain ⟨v,H',os,bare,un,hok,r,q⟩:=h
 obtain ⟨hh,g,d,t,os'⟩:=s'
 obtain rfl:os'=s.os:=os
 exact ⟨v,H',I.call (h':=hh) (g':=g) (d':=d) (t':=t) (ch:=[]) un hok bare (fun b z=>absurd z ↥80),r,q⟩
end
def Ly (C:Addr) (sp:Sp) (dvs:List V) (E:XK) (t:TA):TE:=fun σ H Q=>t σ H fun vs H1=>∀ x dx,H1 x=none->H1 dx=none->dx≠x ->
 sp (.ref x::(vs++dvs)) (upd (upd H1 dx (.own x)) x (.ins C dx [])) (fun v H2=>v=.non/\Q (.ref x) H2) E
def Binds (K:PySem.W.Frag) (fd:FuncData) (ps:List Str) (ds:List Value):Prop :=
 ∀ (s:Shared) (us:List Value),K.In s.heap->(us++ds).length=ps.length->BindsTo s fd ⟨us,[]⟩ (ps.zip (us++ds))
theorem Binds.all {K:PySem.W.Frag} {fd:FuncData} {ps:List Str} (h:∀ us:List Value,us.length=ps.length->bindArgs fd ⟨us,[]⟩=pure (ps.zip us)):Binds K fd ps []:=fun s us _ hl=>by
 rw [ĭ] at hl ⊢
 exact .of_eq (h us hl)
def Passes (CX:CXT) (X:Cx) (E:XK):Prop:=∀ (pins:List ↥6) (σ:St) (H:Hp) (s:Shared) (e:Value) (s':Shared),Inv X pins σ H s->CX X.stack H s E e s'->X.xe e s'
section
variable {X:Cx} {CX:CXT} {k:Nat} {f C:Addr} {fd:FuncData} {ps:List Str} {sp:Sp} {dvs:List V} {ds:List Value} {E:XK} {x m:Str} {p pos apos:Pos} {e o:Expr} {es:List Expr} {ta:TE} {t:TA}
structure Mk (K:PySem.W.Frag) (C f:Addr):Prop where
 makes:PySem.W.makesIn K C=true
 init:PySem.W.findIn K ↥52 "__init__"=some (some (.ref f))
 fn:PySem.W.isFn K (.ref f)=true
 kp:PySem.W.keepIn K ↥52=true
theorem AJ {pins:List ↥6} {σ:St} {H:Hp} {s:Shared} {Q:VK} {us:List Value} {vs:List V} (M:Mk X.K C f) (F:FnOk X.prog X.w X.K X.mg X.base CX k f fd ps sp) (hr:Room (k+1) X.A) (hb:Binds X.K fd ps ds) (hd:Vals dvs ds)
  (hx:Passes CX X E) (I:Inv X pins σ H s) (r:Vals vs us)
  (h:∀ x dx,H x=none->H dx=none->dx≠x->sp (.ref x::(vs++dvs)) (upd (upd H dx (.own x)) x (.ins C dx [])) (fun v H2=>v=.non/\Q (.ref x) H2) E) :
  wpAny ↥4 X.A (call ↥52 us) ↥70 X.xe s:=by
 have hq:=h ↥32 s.heap.objs.size (I.hok.fresh (Nat.le_succ _)) (I.hok.fresh ↥15) (æ (Ż _))
 have I2:=Inv.made (C:=C) I
 have r2:Vals (V.ref ↥32::(vs++dvs)) (â ↥32::(us++ds)):=.cons rfl (r.append hd)
 have hl:(â ↥32::us++ds).length=ps.length:=by
  have e:=r2.length
  rw [F.len _ _ _ _ hq] at e
  exact e.symm
 refine wpAny_call (Bq (f:=f) I.kIn M.makes M.init (beq_iff_eq.mp M.fn) (codeAny_mono (F.run _ X.stack _ _ ⟨â ↥32::us,[]⟩ (â ↥32::(us++ds)) _ _ E (hr.make C us [])
  (I2.env0.make C us []) (hb _ (â ↥32::us) I2.kIn hl) r2 hq) fun r s' hq' => ?_))
 cases r with
 | error e=>exact hx pins σ _ _ e s' I2 hq'
 | ok fl =>
  cases fl with
  | ret u =>
   obtain ⟨v,H',I3,rv,ev,q3⟩:=I2.after hq'
   subst ev
   exact ⟨rv,⟨V.ref ↥32,H',I3,rfl,q3⟩⟩
  | next=>exact Å hq'
  | brk=>exact Å hq'
  | cont=>exact Å hq'
theorem EH (M:Mk X.K C f) (F:FnOk X.prog X.w X.K X.mg X.base CX k f fd ps sp) (hr:Room (k+1) X.A) (hg:Gl X x) (hm:X.mg x=some ↥52) (hb:Binds X.K fd ps ds) (hd:Vals dvs ds) (hx:Passes CX X E)
  (ha:PA X (e::es) t) (hdb:↥35=false:=by decide) (he:starEach (e::es) X.env=↥27::starEach es X.env:=by rfl) (hpl:(backTo pos ↥65).any (·.1)=false:=by rfl) :
  PE X ↥55 (Ly C sp dvs E t):=by
 intro pins s σ H Q I h
 refine wpAny_Call_Name_kw (oy I hg hm ?_ hdb)
 refine Âh (h₀:=X.base) I.ok.mod.kin M.kp (thn (ha pos pins s σ H _ I h) fun us s1 ⟨vs,H1,I1,r,q⟩=>⟨I1.kIn,?_⟩) he hpl
 exact AJ M F hr hb hd hx I1 r q
end
section
variable {X:Cx} {CX:CXT} {k:Nat} {f C:Addr} {fd:FuncData} {ps ks:List Str} {sp:Sp} {E:XK} {x m:Str} {p pos apos kpos:Pos} {e o:Expr} {es:List Expr} {kws:List Keyword} {te ta:TE} {t tk:TA} {nm:Option Str}
structure KBinds (K:PySem.W.Frag) (fd:FuncData) (ps ks:List Str) (g:List Value->List Value->List Value) (gV:List V->List V->List V):Prop where
 to:∀ (s:Shared) (us ws:List Value),K.In s.heap->(g us ws).length=ps.length->BindsTo s fd ⟨us,ks.zip ws⟩ (ps.zip (g us ws))
 rel:∀ {vs:List V} {us:List Value} {zs:List V} {ws:List Value},Vals vs us->Vals zs ws->Vals (gV vs zs) (g us ws)
variable {g:List Value->List Value->List Value} {gV:List V->List V->List V}
end
structure FnScope (N P:List Str) (sc:Scope):Prop where
 kind:sc.kind=.function
 co:sc.isCoroutine=false
 gen:sc.isGenerator=false
 nd:N.Nodup
 pre:N.take P.length=P
 par:∀ x∈P,sc.names.lookup x=some .local\/sc.names.lookup x=some .cell
 nofree:∀ y∈sc.names,y.2 ≠ .free
theorem qw {kindOf:Str->Option NameKind} {x:Str}:∀ {binds:List (Str×Value)} {m:Str->Option Value},(∀ v,(x,v)∉binds)->bindL kindOf binds m x=m x
 | [],_,_=>rfl
 | (n,v)::r,m,h=>by
  unfold bindL
  rw [qw fun w hw=>h w (ÿ _ hw)]
  split
  ·have:x≠n:=by rintro rfl;exact h v Âd
   simp [this]
  ·rfl
theorem qy {kindOf:Str->Option NameKind} {x:Str}:∀ {binds:List (Str×Value)} {m:Str->Option Value},(∀ v,(x,v)∉binds)->bindC kindOf binds m x=m x
 | [],_,_=>rfl
 | (n,v)::r,m,h=>by
  unfold bindC
  rw [qy fun w hw=>h w (ÿ _ hw)]
  split
  ·rfl
  ·have:x≠n:=by rintro rfl;exact h v Âd
   simp [this]
theorem qx {kindOf:Str->Option NameKind} {x:Str} {v:Value}:∀ {P:List Str} {vs:List Value} {i:Nat} {m:Str->Option Value},P.Nodup->P[i]? = some x->vs[i]? = some v->kindOf x=some .local ->
  bindL kindOf (P.zip vs) m x=some v
 | [],_,_,_,_,h,_,_=>by simp at h
 | _::_,[],_,_,_,_,h,_=>by simp at h
 | p::P,w::vs,0,m,nd,h1,h2,hk=>by
  simp at h1 h2;subst h1;subst h2
  show bindL kindOf ((p,w)::P.zip vs) m p=_
  unfold bindL
  rw [qw fun v hv=>(Àe.mp nd).1 (Àf hv).1,if_pos hk]
  simp
 | p::P,w::vs,i+1,m,nd,h1,h2,hk=>by
  show bindL kindOf ((p,w)::P.zip vs) m x=_
  unfold bindL
  exact qx (i:=i) (Àe.mp nd).2 (by simpa using h1) (by simpa using h2) hk
theorem qz {kindOf:Str->Option NameKind} {x:Str} {v:Value}:∀ {P:List Str} {vs:List Value} {i:Nat} {m:Str->Option Value},P.Nodup->P[i]? = some x->vs[i]? = some v->kindOf x≠some .local ->
  bindC kindOf (P.zip vs) m x=some v
 | [],_,_,_,_,h,_,_=>by simp at h
 | _::_,[],_,_,_,_,h,_=>by simp at h
 | p::P,w::vs,0,m,nd,h1,h2,hk=>by
  simp at h1 h2;subst h1;subst h2
  show bindC kindOf ((p,w)::P.zip vs) m p=_
  unfold bindC
  rw [qy fun v hv=>(Àe.mp nd).1 (Àf hv).1,if_neg hk]
  simp
 | p::P,w::vs,i+1,m,nd,h1,h2,hk=>by
  show bindC kindOf ((p,w)::P.zip vs) m x=_
  unfold bindC
  exact qz (i:=i) (Àe.mp nd).2 (by simpa using h1) (by simpa using h2) hk
def start (N:List Str) (vs:List V):St:=vs.map some++Û (N.length - vs.length) none
def CU (CX:CXT) (P:Program) (w:World) (K:PySem.W.Frag) (mg:Str->Option Value) (base:Heap) (N:List Str) (qual:Str) (scope:Scope) (f:Addr) (cd:Value) (A:Around) (outer:List Env) (s:Shared) (H:Hp) (E:XK):Cx where
 prog:=P
 w:=w
 K:=K
 mg:=mg
 base:=base
 A:=A.deeper (envOfC qual scope s.heap.objs.size f cd)
 N:=N
 s₀:=s
 H₀:=H
 env:=envOfC qual scope s.heap.objs.size f cd
 outer:=outer
 stack:=envOfC qual scope s.heap.objs.size f cd::outer
 ex:=[]
 calm:=true
 fn:=fun _=>true
 pn:=[]
 xe:=fun e s'=>wpAny (model P w) (A.deeper (envOfC qual scope s.heap.objs.size f cd)) (leaving (envOfC qual scope s.heap.objs.size f cd) e) (fun _ s''=>CX outer H s E e s'') (fun e' s''=>CX outer H s E e' s'') s'
theorem ux {sc:Scope} {n:Nat} {x:Str} (h:sc.names.lookup x=some .cell):∃ c,(cellsFrom n sc.names []).lookup x=some c:=by
 have q:=Çb sc.names n [] (.inl h)
 exact Option.isSome_iff_exists.mp q
theorem yv {CX:CXT} {P:Program} {w:World} {K:PySem.W.Frag} {mg:Str->Option Value} {base:Heap} {N ps:List Str} {qual:Str} {scope:Scope} {f:Addr} {cd:Value} {A:Around} {outer:List Env} {s s1:Shared} {H:Hp} {E:XK} {us:List Value} {vs:List V}
  (S:FnScope N ps scope) (hd:A.handled=none) (e0:Env0 P w K mg base A outer s H) (hl:vs.length=ps.length) (r:Vals vs us)
  (x:InCallC s s.heap.objs.size (bindL (envOfC qual scope s.heap.objs.size f cd).kindOf (ps.zip us) fun _=>none) (cellsFrom ↥32 scope.names []) (bindC (envOfC qual scope s.heap.objs.size f cd).kindOf (ps.zip us) fun _=>none) s1) :
  Inv (CU CX P w K mg base N qual scope f cd A outer s H E) [] (start N vs) H s1:=by
 have hpl:ps.length<=N.length:=by have:=congrArg Äe S.pre;rw [é] at this;omega
 obtain ⟨h1,tk,rfl,hk⟩:=x.done
 have noA:∀ b:Addr,b∉(CU CX P w K mg base N qual scope f cd A outer s H E).ex:=fun b z=>absurd (show b∈([]:List Addr) from z) ↥80
 refine ⟨⟨e0.mod,S.kind,rfl,rfl,ñ _,fun y z c h1 h2 => ?_,fun y hy => ?_,fun y c _ h => ?_,fun _=>hd,Around.frames_deeper e0.frames,.inr ⟨rfl,rfl⟩,fun b z=>absurd z (noA b),e0.bs,e0.bsz,fun b _ _=>noA b,fun b z=>absurd z (noA b),e0.funs,e0.frf⟩,
  rfl,e0.bare,Un.kept hk,⟨_,x.toInCall.ns,fun i y v h1 h2 h3 => ?_⟩,fun y c h=>⟨_,x.cell y c h⟩,e0.hok.fresh ↥15,fun y c h => ?_,fun p hp=>absurd (show p∈([]:List ↥6) from hp) ↥80,e0.hok.kept hk,?_⟩
 ·exact name_of_addr x.apart (ü h1) (ü h2)
 ·have hy:scope.names.lookup y=some .cell\/scope.names.lookup y=some .free:=hy
  rcases hy with hy | hy
  ·exact ux hy
  ·exact absurd rfl (S.nofree _ (ü hy))
 ·exact ı (x.above y c (ü h))
 ·have hi:i<vs.length:=by
   unfold start at h2
   by_cases hi:i<vs.length
   ·exact hi
   ·rw [û (by simpa using hi)] at h2
    rw [Ŏ] at h2
    split at h2<;>cases h2
  have ha:vs[i]? = some v:=by
   unfold start at h2
   rw [ý (by simpa using hi),Ë] at h2
   cases e:vs[i]? with
   | none=>rw [e] at h2;cases h2
   | some a=>rw [e] at h2;cases h2;rfl
  obtain ⟨u,hu,rv⟩:=r.get ha
  have hp:ps[i]? = some y:=by
   rw [<- S.pre,Ċ ⋯];exact h1
  have ndP:ps.Nodup:=by rw [<- S.pre];exact S.nd.sublist ↥74
  refine ⟨u,rv,?_⟩
  rcases S.par y (ê hp) with k | k
  ·exact .inl ⟨k,qx ndP hp hu k⟩
  ·obtain ⟨c,e⟩:=ux (n:=s.heap.objs.size+1) k
   refine .inr ⟨.inl k,c,e,?_⟩
   have q:=x.cell y c e
   rw [qz ndP hp hu (by show scope.names.lookup y≠_;rw [k];decide)] at q
   exact q
 ·exact e0.hok.fresh (ı (x.above y c (ü h)))
 ·unfold start
  show _=N.length
  rw [Æ,Á,ĥ]
  omega
theorem FK {CX:CXT} {P:Program} {w:World} {K:PySem.W.Frag} {mg:Str->Option Value} {base:Heap} {k:Nat} {f:Addr} {name qual:Str} {params:Arguments} {body:List Stmt} {scope:Scope} {dV kV doc pm cdv ct oc:Value} {an od:Option Addr}
  {osl:Array ↥107} {N ps:List Str} {sp:Sp} (lk:K.lookup f=some ⟨oc,od,.func (Ĳ name qual params body scope dV kV doc pm an cdv ct),osl⟩) (hcd:PySem.W.codeIn K cdv qual=true) (S:FnScope N ps scope)
  (len:∀ vs H Q E,sp vs H Q E->vs.length=ps.length)
  (hbody:∀ (A:Around) (outer:List Env) (s:Shared) (H:Hp) (vs:List V) (Q:VK) (E:XK),Room k (A.deeper (envOfC qual scope s.heap.objs.size f cdv))->sp vs H Q E ->
   ∃ t,PSs ↥142 body t/\t { nx:=fun _ H'=>Q .non H',rt:=Q } (start N vs) H) :
  FnOk P w K mg base CX (k+1) f (Ĳ name qual params body scope dV kV doc pm an cdv ct) ps sp:=by
 refine ⟨len,fun A outer s H args us vs Q E hr e0 hb r hsp => ?_⟩
 have hl:=len _ _ _ _ hsp
 have KX:K.In s.heap:=e0.mod.kin.keeps fun b o e=>(e0.bs b o e).1
 have lim:s.heap.NoLimit:=e0.mod.nolimit.keeps fun b o e=>(e0.bs b o e).1
 have hkind:∀ y∈ps.zip us,scope.names.lookup y.1=some .local\/(scope.names.lookup y.1=some .cell/\((cellsFrom ↥32 scope.names []).lookup y.1).isSome=true):=fun ⟨n,v⟩ hy=>by
  rcases S.par n (Àf hy).1 with q | q
  ·exact .inl q
  ·exact .inr ⟨q,Çb _ _ _ (.inl q)⟩
 refine codeAny_call_function hr.depth (KX _ _ lk) rfl S.co S.gen rfl (PySem.W.codeRec_of KX hcd) (hb _ _ _ _ ?_)
 refine wpAny_newFunctionEnv_cells S.kind hkind fun env he s1 x => ?_
 subst he
 refine ⟨lim.keeps x.toInCall.keep,codeAny_func ?_⟩
 obtain ⟨t,ht,hq⟩:=hbody A outer s H vs Q E (hr.deeper _) hsp
 have I:Inv ↥142 [] (start N vs) H s1:=yv S hr.hd e0 hl r x
 refine wpAny_mono (ht [] s1 (start N vs) H _ I hq) (fun fl s' hs => ?_) fun e s' hs=>hs
 have fin:∀ {σ':St} {H':Hp} {v:V} {u:Value},Inv ↥142 [] σ' H' s'->RelV v u->Q v H'->CE outer P w H s Q u s' :=
  fun {σ' H' v u} J rv q=>⟨v,H',J.os,J.bare,J.base,J.hok,rv,q⟩
 cases fl with
 | ret u =>
  obtain ⟨v,σ',H',J,rv,q⟩:=hs
  exact fin J rv q
 | next =>
  obtain ⟨σ',H',J,q⟩:=hs
  exact fin (v:=V.non) (u:=Ŝ) J rfl q
 | brk =>
  obtain ⟨_,_,_,q⟩:=hs
  exact Å q
 | cont =>
  obtain ⟨_,_,_,q⟩:=hs
  exact Å q
end L2
namespace L2
open PySem PySem.Spec PyProof.Rows
section
variable {X:Cx} {x:Str} {p pos:Pos} {e:Expr} {es:List Expr} {t:TA} {id T:String} {r:List V->Hp->VK->Prop}
def tCB (r:List V->Hp->VK->Prop) (t:TA):TE:=fun σ H Q=>t σ H fun vs H1=>r vs H1 Q
theorem tQ (hc:fS X (.builtin id) r) (hg:Gl X x) (hm:X.mg x=none) (hv:bootBuiltins x=some (.builtin id)) (ha:PA X (e::es) t) (hn:x≠"__name__":=by decide) (hdb:↥35=false:=by decide)
  (he:starEach (e::es) X.env=↥27::starEach es X.env:=by rfl) (hpl:(backTo pos ↥65).any (·.1)=false:=by rfl):PE X ↥55 (tCB r t):=by
 intro pins s σ H Q I h
 refine wpAny_Call_Name_kw (fF I hg hm hv ?_ hn hdb)
 exact PyProof.Rows.callWith_builtin1 (thn (ha pos pins s σ H _ I h) fun us s1 ⟨vs,H1,I1,r1,q1⟩=>hc pins s1 σ H1 vs us Q I1 r1 q1) he hpl
theorem pW (hc:fS X (.type T) r) (hg:Gl X x) (hm:X.mg x=none) (hv:bootBuiltins x=some (.type T)) (ha:PA X (e::es) t) (hn:x≠"__name__":=by decide) (hdb:↥35=false:=by decide)
  (he:starEach (e::es) X.env=↥27::starEach es X.env:=by rfl) (hpl:(backTo pos ↥65).any (·.1)=false:=by rfl):PE X ↥55 (tCB r t):=by
 intro pins s σ H Q I h
 refine wpAny_Call_Name_kw (fF I hg hm hv ?_ hn hdb)
 exact Ă (thn (ha pos pins s σ H _ I h) fun us s1 ⟨vs,H1,I1,r1,q1⟩=>hc pins s1 σ H1 vs us Q I1 r1 q1) he hpl
end
end L2
namespace HT
open PySem PyProof.Rows
section
open PySem.SeqAt
open PySem.AutoSeq1 (wpAny_loadPart')
open PySem.MeetsSeq PySem.MeetsSeq2 PySem.MeetsSeq3
end
section
variable {prog:Program} {w:World} {A:Around} {E:Value->Shared->Prop} {s:Shared}
theorem F7 {t b:Addr} {vs ws:List Value} {Q:Value->Shared->Prop} (ht:IsTup s.heap t vs.toArray) (hb:IsTup s.heap b ws.toArray) (hv:vs≠[])
  (h1:ws=[]->Q (.ref t) s) (h2:ws≠[]->Q ↥57 { s with heap:=s.heap.push { cls:=.type "tuple",data:=.seq (vs++ws).toArray } })
  (hsz:vs.length+ws.length<=sizeLine):wpAny ↥3 A (binaryOp .Add (.ref t) (.ref b)) Q E s:=by
 obtain ⟨⟨cls,dd,data,sl⟩,ho,hc,n,hd⟩:=id ht
 obtain ⟨⟨cls2,dd2,data2,sl2⟩,ho2,hc2,n2,hd2⟩:=id hb
 simp only at hc hd hc2 hd2
 subst hc hd hc2 hd2
 have e:vs.toArray++ws.toArray=(vs++ws).toArray:=by simp
 by_cases hw:ws=[]
 ·exact concat_meets ⟨_,ho,rfl⟩ ⟨_,ho2,rfl⟩ noFill_tuple_add seq_tuple_add Çc Åg (Åb _ _)
   (tuple_addW1 t b vs.toArray ws.toArray n n2 dd dd2 sl sl2 (by simpa using hv) (by simp [hw])) ⟨ho,ho2,h1 hw⟩
 ·refine concat_meets ⟨_,ho,rfl⟩ ⟨_,ho2,rfl⟩ noFill_tuple_add seq_tuple_add Çc Åg (Åb _ _)
   (tuple_addW2 t b vs.toArray ws.toArray n n2 dd dd2 sl sl2 (by simpa using hv) (by simpa using hw) (by rw [Ì,Ì];exact hsz)) ⟨ho,ho2,?_⟩
  rw [e]
  exact h2 hw
def sIx (n d:Nat):Option Int->Nat
 | none=>d
 | some v=>if v<0 then (v+(n:Int)).toNat else min v.toNat n
theorem Ig (n d:Nat) (hd:d<=n) (o:Option Int):sIx n d o<=n:=by
 cases o with
 | none=>exact hd
 | some v =>
  show (if v<0 then (v+(n:Int)).toNat else min v.toNat n)<=n
  by_cases hv:v<0
  ·rw [if_pos hv];omega
  ·rw [if_neg hv];exact Nat.min_le_right _ _
theorem yW (v:Int) (n d:Nat):(if v<0 then max (v+(n:Int)) 0 else min v (n:Int))=((sIx n d (some v):Nat):Int):=by
 show (if v<0 then max (v+(n:Int)) 0 else min v (n:Int))=(((if v<0 then (v+(n:Int)).toNat else min v.toNat n):Nat):Int)
 by_cases hv:v<0
 ·simp only [if_pos hv];omega
 ·simp only [if_neg hv];omega
theorem vT (lo hi:Option Int) (n:Nat):Builtin.Slice.sliceAdjust lo hi 1 (n:Int)=(((sIx n 0 lo:Nat):Int),((sIx n n hi:Nat):Int)):=by
 have h1:¬ ((1:Int)<0):=⋯
 unfold Builtin.Slice.sliceAdjust
 simp only [h1,if_false]
 refine Ū ?_ ?_
 ·cases lo with
  | none=>rfl
  | some v=>exact yW v n 0
 ·cases hi with
  | none=>rfl
  | some v=>exact yW v n n
theorem vh (i j:Nat):Builtin.Slice.slicePlaces (i:Int) (j:Int) 1=j - i:=by
 unfold Builtin.Slice.slicePlaces
 have h1:(1:Int)>0:=⋯
 simp only [h1,if_true,Int.ediv_one]
 split<;>omega
theorem mI {v:Value} {o:Option Int} {Q:Option Int->Shared->Prop} (p:IsPart v o) (h:Q o s):wpAny ↥3 A (Builtin.Slice.slicePartIndex v) Q E s:=by
 cases p with
 | none=>exact slicePart_none h
 | int i t=>exact slicePart_int h
theorem jG {sl:Addr} {vl vu:Value} {lo hi:Option Int} {n:Nat} {Q:Int×Int×Nat->Shared->Prop} (hs:s.heap.IsSliceOf sl vl vu .none) (pl:IsPart vl lo) (pu:IsPart vu hi)
  (h:Q (((sIx n 0 lo:Nat):Int),1,sIx n n hi - sIx n 0 lo) s):wpAny ↥3 A (Builtin.Slice.sliceApplied (.ref sl) (pure (n:Int))) Q E s:=by
 obtain ⟨os,hos,hcs,hds⟩:=id hs
 unfold Builtin.Slice.sliceApplied Builtin.Slice.sliceFields
 refine wpAny_bind (wpAny_bind (wpAny_field hos hds (x:=vl) rfl (wpAny_bind (wpAny_field hos hds (x:=vu) rfl (wpAny_bind (wpAny_field hos hds (x:=.none) rfl (wpAny_pure ?_)))))))
 refine wpAny_bind (slicePart_none ?_)
 show wpAny _ _ (if ((1:Int) == 0)=true then _ else _) _ _ s
 rw [if_neg ↥1]
 refine wpAny_bind (mI pl (wpAny_bind (mI pu (wpAny_bind (wpAny_pure ?_)))))
 show wpAny _ _ (match Builtin.Slice.sliceAdjust lo hi 1 (n:Int) with | (lo,hi)=>pure (lo,(1:Int),Äb lo hi 1)) _ _ s
 rw [vT lo hi n]
 show wpAny _ _ (pure (((sIx n 0 lo:Nat):Int),(1:Int),Äb ((sIx n 0 lo:Nat):Int) ((sIx n n hi:Nat):Int) 1)) _ _ s
 rw [vh]
 exact wpAny_pure h
theorem AN (xs:Array Value) (i k:Nat):((č k).filterMap fun (m:Nat)=>xs[((i:Int)+(m:Int)*1).toNat]?).toArray=((xs.toList.drop i).take k).toArray:=by
 have e:(fun (m:Nat)=>xs[((i:Int)+(m:Int)*1).toNat]?)=fun m=>xs[i+m]? := by
  funext m
  have:((i:Int)+(m:Int)*1).toNat=i+m:=⋯
  rw [this]
 rw [e]
 have:=pick_run xs i k
 rw [List.filterMap_map] at this
 have e2:((fun x=>xs[x]?) ∘ fun x=>i+x)=fun m=>xs[i+m]? := rfl
 rw [e2] at this
 rw [this]
theorem ji {t sl:Addr} {items:Array Value} {vl vu:Value} {lo hi:Option Int} {Q:Value->Shared->Prop} (ht:IsTup s.heap t items) (hs:s.heap.IsSliceOf sl vl vu .none) (pl:IsPart vl lo) (pu:IsPart vu hi)
  (hw:¬ (sIx items.size 0 lo=0/\sIx items.size items.size hi=items.size))
  (h:Q ↥57 { s with heap:=s.heap.push { cls:=.type "tuple",data:=.seq ((items.toList.drop (sIx items.size 0 lo)).take ↥53).toArray } })
  (hsz:items.size<=sizeLine):wpAny ↥3 A (getItem (.ref t) (.ref sl)) Q E s:=by
 have htake:sizeOk (.seq ((items.toList.drop (sIx items.size 0 lo)).take ↥53).toArray):=by
  show ((items.toList.drop (sIx items.size 0 lo)).take ↥53).toArray.size<=sizeLine
  rw [Ì,é,ú,Ã]
  omega
 have hj:sIx items.size items.size hi<=items.size:=Ig _ _ ↥15 hi
 obtain ⟨os,hos,hcs,hds⟩:=id hs
 have hTs:s.TypeIs (.ref sl) "slice":=⟨os,hos,hcs⟩
 unfold getItem
 try with_reducible refine wpAny_holding ?_
 first | refine wpAny_bind (wpAny_pure ?_) | skip
 refine wpAny_bind (wpAny_sequenceKey ht.typeIs ↥1 ?_)
 refine wpAny_bind (wpAny_callSpecial?_slot (name:=Ø "__getitem__") ht.typeIs Ō
  (wpAny_call_entry Ō ht.typeIs entry_tuple_getitem ?_ (args_tuple_getitem _ _)))
 show wpAny _ _ (Builtin.Tuple.tupleItemsOf (.ref t) >>= _) _ _ s
 refine wpAny_bind (tupleItemsOf_ ht ?_)
 refine wpAny_bind (wpAny_typeOf hTs ?_)
 rw [if_pos ↥1]
 refine wpAny_bind (jG hs pl pu ?_)
 have hno:¬ ((((sIx items.size 0 lo:Nat):Int) == 0&&(1:Int) == 1&&↥53 == items.size)=true):=by
  intro q
  rw [ò,ò] at q
  have q1:((sIx items.size 0 lo:Nat):Int)=0:=eq_of_beq q.1.1
  have q2:sIx items.size items.size hi - sIx items.size 0 lo=items.size:=eq_of_beq q.2
  exact hw ⟨⋯,⋯⟩
 show wpAny _ _ (if (((sIx items.size 0 lo:Nat):Int) == 0&&(1:Int) == 1&&↥53 == items.size)=true then _ else _) _ _ s
 rw [if_neg hno,AN]
 first
  | exact wpAny_bind (m:=ň _) (wpAny_newObj_type ↥143 htake)
  | exact wpAny_bind (m:=ň _) (wpAny_newObj_type (wpAny_bind (wpAny_pure ↥143)) htake)
  | exact wpAny_bind (wpAny_bind (m:=ň _) (wpAny_newObj_type (wpAny_pure ↥143) htake))
  | exact wpAny_bind (wpAny_bind (m:=ň _) (wpAny_newObj_type ↥143 htake))
end
end HT
namespace L2
open PySem PySem.Spec PyProof.Rows
abbrev TO:=St->Hp->(Option Int->Hp->Prop)->Prop
def PO (X:Cx) (e:Option Expr) (t:TO):Prop :=
 ∀ (pins:List ↥6) (s:Shared) (σ:St) (H:Hp) (Q:Option Int->Hp->Prop),Inv X pins σ H s->t σ H Q ->
  wpAny ↥4 X.A (evalPart e X.env) (fun u s'=>∃ o H',Inv X pins σ H' s'/\IsPart u o/\Q o H') X.xe s
def Eb:TO:=fun _ H Q=>Q none H
def Lv (t:TE):TO:=fun σ H Q=>t σ H fun x H1=>∃ i,x=.int i/\Q (some i) H1
section
variable {X:Cx} {e:Expr} {te:TE} {lo hi:Option Expr} {tl th:TO} {pos p2:Pos}
theorem EE:PO X none Eb:=by
 intro pins s σ H Q I h
 rw [evalPart_none]
 exact wpAny_pure ⟨none,H,I,.none,h⟩
theorem ED (h:PE X e te):PO X (some e) (Lv te):=by
 intro pins s σ H Q I hw
 rw [evalPart_some]
 refine thn (h pins s σ H _ I hw) fun u s1 ⟨x,H1,I1,r1,q1⟩ => ?_
 obtain ⟨i,rfl,q⟩:=q1
 obtain ⟨t,rfl⟩:=r1
 exact ⟨some i,H1,I1,.int i t,q⟩
def SlR (X:Cx) (r:V->Option Int->Option Int->Hp->VK->Prop):Prop :=
 ∀ (pins:List ↥6) (s:Shared) (σ:St) (H:Hp) (x:V) (v vl vu:Value) (lo hi:Option Int) (sl:Addr) (Q:VK),Inv X pins σ H s->RelV x v->s.heap.IsSliceOf sl vl vu .none->IsPart vl lo->IsPart vu hi->r x lo hi H Q ->
  ∃ T id,typeLookup (.type T) "__getitem__"=pure (some (.builtin id))/\s.TypeIs v T/\wpAny ↥4 X.A (getItem v (.ref sl)) ↥70 X.xe s
def tSl (r:V->Option Int->Option Int->Hp->VK->Prop) (te:TE) (tl th:TO):TE:=fun σ H Q=>te σ H fun x H1=>tl σ H1 fun l H2=>th σ H2 fun u H3=>r x l u H3 Q
theorem AO {r:V->Option Int->Option Int->Hp->VK->Prop} (hr:SlR X r) (he:PE X e te) (hl:PO X lo tl) (hu:PO X hi th):PE X (.Subscript e (.Slice lo hi none p2) pos) (tSl r te tl th):=by
 intro pins s σ H Q I h
 refine Subscript_ (thn (he pins s σ H _ I h) fun v s1 ⟨x,H1,I1,r1,q1⟩ => ?_)
 refine wpAny_Slice (thn (hl pins s1 σ H1 _ I1 q1) fun vl s2 ⟨l,H2,I2,pl,q2⟩=>thn (hu pins s2 σ H2 _ I2 q2) fun vu s3 ⟨u,H3,I3,pu,q3⟩ => ?_)
 rw [evalPart_none]
 refine wpAny_pure ?_
 have I4:Inv X pins σ H3 { s3 with heap:=s3.heap.push { cls:=.type "slice",data:=.fields #[vl,vu,.none] } }:=I3.kept (t':=s3.toks) fun b ob q=>Ä _ q
 obtain ⟨T,id,hT,ht,hg⟩:=hr pins { s3 with heap:=s3.heap.push { cls:=.type "slice",data:=.fields #[vl,vu,.none] } } σ H3 x v vl vu l u s3.heap.objs.size Q I4 r1 (Heap.IsSliceOf.new ..) pl pu q3
 show wpAny ↥4 X.A (subscriptTail e (.Slice lo hi none p2) v (.ref s3.heap.objs.size)) ↥70 X.xe { s3 with heap:=s3.heap.push { cls:=.type "slice",data:=.fields #[vl,vu,.none] } }
 exact tail_any (ops:=[.ref s3.heap.objs.size,v]) ht hT hg (by with_unfolding_all rfl)
def CV (xs:List V) (lo hi:Option Int):List V:=(xs.drop (HT.sIx xs.length 0 lo)).take ↥147
theorem lI (xs:List V) (lo hi:Option Int):(CV xs lo hi).length<=xs.length:=by
 unfold CV
 rw [é,ú]
 omega
def PZ (K:PySem.W.Frag):V->Option Int->Option Int->Hp->VK->Prop:=fun x lo hi H Q=>∃ a xs,x=.ref a/\SqT K H a xs /\
 ¬ (HT.sIx xs.length 0 lo=0/\HT.sIx xs.length xs.length hi=xs.length)/\∀ p,H p=none->Q (.ref p) (upd H p (.tup (CV xs lo hi)))
theorem HW:SlR X (PZ X.K):=by
 intro pins s σ H x v vl vu lo hi sl Q I rx hs pl pu h
 obtain ⟨a,xs,rfl,hx,hw,q⟩:=h
 cases rx
 obtain ⟨its,r,ht,hz⟩:=I.tuple hx
 have hlen:its.toArray.size=xs.length:=by rw [Ì];exact r.length.symm
 refine ⟨"tuple",_,Ō.lookup,ht.typeIs,?_⟩
 refine HT.ji ht hs pl pu (by rw [hlen];exact hw) ?_ (by rw [hlen];exact hz)
 rw [hlen]
 refine ⟨.ref s.heap.objs.size,_,I.laid (t':=s.toks) (o:=.tup (CV xs lo hi)) (fun b ob q=>Ä _ q) ↥15 ?_,rfl,q _ (I.hok.fresh ↥15)⟩
 exact ⟨Ð (lI xs lo hi) hz,_,(r.drop (HT.sIx xs.length 0 lo)).take ↥147,IsTup.new _ _⟩
def LN (K:PySem.W.Frag):R2:=fun x y H Q=>∃ a b xs ys,x=.ref a/\y=.ref b/\SqT K H a xs/\SqT K H b ys/\xs≠[]/\xs.length+ys.length<=sizeLine /\
 (ys=[]->Q ↥114 H)/\(ys≠[]->∀ p,H p=none->Q (.ref p) (upd H p (.tup (xs++ys))))
theorem Vals.nil_iff {xs:List V} {us:List Value} (r:Vals xs us):us=[]↔xs=[]:=by
 cases r with
 | nil=>simp
 | cons _ _=>simp
theorem EW:OpR X (binaryOp .Add) (LN X.K):=by
 intro pins s σ H x y v u Q I rx ry h
 obtain ⟨a,b,xs,ys,rfl,rfl,ha,hb,hx,hz,q1,q2⟩:=h
 cases rx
 cases ry
 obtain ⟨its,r1,p1,_⟩:=I.tuple ha
 obtain ⟨its2,r2,p2,_⟩:=I.tuple hb
 refine HT.F7 p1 p2 (fun z=>hx (r1.nil_iff.mp z)) (fun z=>⟨.ref a,H,I,rfl,q1 (r2.nil_iff.mp z)⟩) (fun z => ?_) (by rw [<- r1.length,<-r2.length];exact hz)
 refine ⟨.ref s.heap.objs.size,_,I.laid (t':=s.toks) (o:=.tup (xs++ys)) (fun b ob q=>Ä _ q) ↥15 ?_,rfl,q2 (fun w=>z (r2.nil_iff.mpr w)) _ (I.hok.fresh ↥15)⟩
 exact ⟨by rw [Æ];exact hz,_,r1.append r2,IsTup.new _ _⟩
end
end L2
namespace L2
open PySem PySem.Spec PyProof.Rows
def ixN (n:Nat) (i:Int):Option Nat:=if 0<=i then (if i<n then some i.toNat else none) else if -(n:Int)<=i then some (i+n).toNat else none
def atI {α:Type} (xs:List α) (i:Int):Option α:=(ixN xs.length i).bind fun j=>xs[j]?
theorem FA {n:Nat} {i:Int} {j:Nat} (h:ixN n i=some j):seqIndex? i n=some j/\j<n /\ -(n:Int)<=i/\i<n:=by
 unfold ixN at h
 by_cases h0:0<=i
 ·rw [if_pos h0] at h
  by_cases h1:i<n
  ·rw [if_pos h1] at h
   have e:i.toNat=j:=Ó.inj h
   exact ⟨by rw [seqIndex_of h0 h1,e],⋯,⋯,h1⟩
  ·rw [if_neg h1] at h;cases h
 ·rw [if_neg h0] at h
  by_cases h1 : -(n:Int)<=i
  ·rw [if_pos h1] at h
   have e:(i+n).toNat=j:=Ó.inj h
   exact ⟨by rw [seqIndex_neg ⋯ h1,e],⋯,h1,⋯⟩
  ·rw [if_neg h1] at h;cases h
theorem sR {α:Type} {xs:List α} {i:Int} {v:α} (h:atI xs i=some v):∃ j,seqIndex? i xs.length=some j/\xs[j]? = some v/\j<xs.length /\ -(xs.length:Int)<=i/\i<xs.length:=by
 unfold atI at h
 cases e:ixN xs.length i with
 | none=>rw [e] at h;cases h
 | some j =>
  rw [e] at h
  obtain ⟨h1,h2,h3,h4⟩:=FA e
  exact ⟨j,h1,h,h2,h3,h4⟩
def zu (b:Expr):Prop:=∀ o i,subscripted b false o i=operate [o,i] (getItem o i)
def IxR (X:Cx) (r:R2):Prop :=
 ∀ (value slice:Expr) (pins:List ↥6) (s:Shared) (σ:St) (H:Hp) (x y:V) (v u:Value) (Q:VK),Inv X pins σ H s->RelV x v->RelV y u->r x y H Q ->
  subscripted slice false v u=operate [v,u] (getItem v u)->wpAny ↥4 X.A (subscriptTail value slice v u) ↥70 X.xe s
def MtR (X:Cx) (id:String) (r:V->List V->Hp->VK->Prop):Prop :=
 ∀ (pins:List ↥6) (s:Shared) (σ:St) (H:Hp) (x:V) (xs:List V) (v:Value) (us:List Value) (Q:VK),Inv X pins σ H s->RelV x v->Vals xs us->r x xs H Q ->
  wpAny ↥4 X.A (call (.builtin id) (v::us)) ↥70 X.xe s
section
variable {X:Cx} {a b:Expr} {ta tb:TE} {pos:Pos}
theorem L8 {r:R2} (hr:IxR X r) (ha:PE X a ta) (hb:PE X b tb) (hs:zu b):PE X (.Subscript a b pos) (tOp r ta tb):=by
 intro pins s σ H Q I h
 exact Subscript_ (MN ha hb I h fun v u s2 x y H2 I2 rx ry q=>hr a b pins s2 σ H2 x y v u Q I2 rx ry q (hs _ _))
def P5 (K:PySem.W.Frag):R2:=fun x y H Q=>∃ p xs i v,x=.ref p/\y=.int i/\SqL K H p xs/\atI xs i=some v/\Q v H
def P1 (K:PySem.W.Frag):R2:=fun x y H Q=>∃ p xs i v,x=.ref p/\y=.int i/\SqT K H p xs/\atI xs i=some v/\Q v H
def P2:R2:=fun x y H Q=>∃ z i c,x=.str z/\y=.int i/\z.length<=sizeLine/\atI z.cps.toList i=some c/\Q (.str ⟨#[c]⟩) H
theorem Fz:IxR X (P5 X.K):=by
 intro value slice pins s σ H x y v u Q I rx ry h hs
 obtain ⟨p,xs,i,z,rfl,rfl,hq,he,q⟩:=h
 cases rx
 obtain ⟨t,rfl⟩:=ry
 obtain ⟨its,r,pl,hz⟩:=I.list hq
 obtain ⟨j,h1,h2,h3,h4,h5⟩:=sR he
 obtain ⟨w,ew,rw'⟩:=r.get h2
 have hl:=r.length
 have hn:=qd
 have fin:EP X pins σ Q w s:=⟨z,H,I,rw',q⟩
 by_cases h0:0<=i
 ·have hj:i.toNat=j:=by
   rw [seqIndex_of h0 h5] at h1
   exact Ó.inj h1
  exact item_listR pl.isList h0 ⋯ (by rw [hj];simpa using ew) fin hs
 ·have hj:(i+(its.toArray.size:Int)).toNat=j:=by
   rw [seqIndex_neg ⋯ h4] at h1
   rw [Ì,<-hl]
   exact Ó.inj h1
  exact subscriptTail_builtinR (x:=w) pl.isList.typeIs slot_list_getitem.lookup
   (wpAny_getItem_list_neg (Q:=fun r s'=>r=w/\EP X pins σ Q r s') pl.isList ⋯ (by rw [Ì]<;>omega) ⋯ (by rw [hj];simpa using ew) ⟨rfl,fin⟩) hs
theorem mR:IxR X (P1 X.K):=by
 intro value slice pins s σ H x y v u Q I rx ry h hs
 obtain ⟨p,xs,i,z,rfl,rfl,hq,he,q⟩:=h
 cases rx
 obtain ⟨t,rfl⟩:=ry
 obtain ⟨its,r,pl,hz⟩:=I.tuple hq
 obtain ⟨j,h1,h2,h3,h4,h5⟩:=sR he
 obtain ⟨w,ew,rw'⟩:=r.get h2
 have hl:=r.length
 have hn:=qd
 have fin:EP X pins σ Q w s:=⟨z,H,I,rw',q⟩
 exact subscriptTail_builtinR (x:=w) pl.typeIs slot_tuple_getitem.lookup
  (getItem_tuple (j:=j) (Q:=fun r s'=>r=w/\EP X pins σ Q r s') pl ⋯ ⋯ (by rw [Ì,<-hl];exact h1) (by simpa using ew) ⟨rfl,fin⟩) hs
theorem JK:IxR X P2:=by
 intro value slice pins s σ H x y v u Q I rx ry h hs
 obtain ⟨z,i,c,rfl,rfl,hz,he,q⟩:=h
 obtain ⟨t,rfl⟩:=rx
 obtain ⟨t',rfl⟩:=ry
 obtain ⟨j,h1,h2,h3,h4,h5⟩:=sR he
 have hl:z.cps.toList.length=z.length:=by simp [Str.length]
 rw [hl] at h1 h4 h5
 have hn:=qd
 exact tail_any (typeIs_str s z t) slot_str_getitem.lookup (getItem_str (c:=c) (by
  have e1:decide (i < -(2^63:Int))=false:=decide_eq_false ⋯
  have e2:decide (i>=2^63)=false:=decide_eq_false ⋯
  rw [e1,e2,Åc]) (by rw [h1];simpa using h2) ⟨.str ⟨#[c]⟩,H,I.tok _,⟨_,rfl⟩,q⟩) hs
theorem pM (lo hi:Option Int) (n:Nat):(sliceBounds lo hi none n).1=((HT.sIx n 0 lo:Nat):Int)/\(sliceBounds lo hi none n).2.1=((HT.sIx n n hi:Nat):Int)/\(sliceBounds lo hi none n).2.2=1:=by
 refine ⟨?_,?_,rfl⟩
 ·cases lo with
  | none=>simp [sliceBounds,HT.sIx]
  | some i =>
   simp only [sliceBounds,HT.sIx,Option.getD_none,show (1:Int)>0 by decide,if_true]
   by_cases h:i<0
   ·simp only [h,if_true]<;>omega
   ·simp only [h,if_false]<;>omega
 ·cases hi with
  | none=>simp [sliceBounds,HT.sIx]
  | some i =>
   simp only [sliceBounds,HT.sIx,Option.getD_none,show (1:Int)>0 by decide,if_true]
   by_cases h:i<0
   ·simp only [h,if_true]<;>omega
   ·simp only [h,if_false]<;>omega
theorem nM (its:List Value) (lo hi:Option Int):slicePick its.toArray lo hi none=((its.drop (HT.sIx its.length 0 lo)).take (HT.sIx its.length its.length hi - HT.sIx its.length 0 lo)).toArray:=by
 obtain ⟨h1,h2,h3⟩:=pM lo hi its.toArray.size
 unfold slicePick
 rw [h1,h2,h3]
 simp only [sliceRange_one,pick_run,Ì]<;>rfl
def P0 (K:PySem.W.Frag):V->Option Int->Option Int->Hp->VK->Prop:=fun x lo hi H Q=>∃ a xs,x=.ref a/\SqL K H a xs/\∀ p,H p=none->Q (.ref p) (upd H p (.lst (CV xs lo hi)))
theorem Ek:SlR X (P0 X.K):=by
 intro pins s σ H x v vl vu lo hi sl Q I rx hs pl pu h
 obtain ⟨a,xs,rfl,hx,q⟩:=h
 cases rx
 obtain ⟨its,r,ht,hz⟩:=I.list hx
 have hlen:=r.length
 refine ⟨"list",_,slot_list_getitem.lookup,ht.isList.typeIs,?_⟩
 refine wpAny_getItem_list_slice ht.isList hs pl pu .none ↥80 ?_ (by rw [Ì]<;>omega)
 rw [nM,<-hlen]
 refine ⟨.ref s.heap.objs.size,_,I.laid (t':=s.toks) (o:=.lst (CV xs lo hi)) (fun b ob q=>Ä _ q) ↥15 ?_,rfl,q _ (I.hok.fresh ↥15)⟩
 exact ⟨Ð (lI xs lo hi) hz,_,0,(r.drop (HT.sIx xs.length 0 lo)).take ↥147,Ú _ rfl⟩
def mB:V->Bool
 | .non=>true
 | .bl _=>true
 | .int _=>true
 | .str _=>true
 | _=>false
def eqV:V->V->Bool
 | .non,.non=>true
 | .bl a,.bl b=>a == b
 | .bl a,.int b=>(if a then 1 else 0) == b
 | .int a,.bl b=>a == (if b then 1 else 0)
 | .int a,.int b=>a == b
 | .str a,.str b=>a == b
 | _,_=>false
theorem Kd {A:Around} {s:Shared} {y x:V} {u v:Value} (ry:RelV y u) (rx:RelV x v) (fy:mB y=true) (fx:mB x=true):SeqAt.EqAt A s u v (eqV y x):=by
 cases y with
 | non =>
  cases ry
  cases x with
  | non=>cases rx;exact SeqAt.EqAt.same _
  | bl b=>cases rx;exact SeqAt.EqAt.none_bool b
  | int b=>obtain ⟨t,rfl⟩:=rx;exact SeqAt.EqAt.none_int b t
  | str b=>obtain ⟨t,rfl⟩:=rx;exact SeqAt.EqAt.none_str b t
  | _=>exact absurd (show false=true from fx) Í
 | bl a =>
  cases ry
  cases x with
  | non=>cases rx;exact SeqAt.EqAt.bool_none a
  | bl b=>cases rx;exact SeqAt.EqAt.bool_bool a b
  | int b=>obtain ⟨t,rfl⟩:=rx;exact SeqAt.EqAt.bool_int a b t
  | str b=>obtain ⟨t,rfl⟩:=rx;exact SeqAt.EqAt.bool_str a b t
  | _=>exact absurd (show false=true from fx) Í
 | int a =>
  obtain ⟨t',rfl⟩:=ry
  cases x with
  | non=>cases rx;exact SeqAt.EqAt.int_none a t'
  | bl b=>cases rx;exact SeqAt.EqAt.int_bool a t' b
  | int b=>obtain ⟨t,rfl⟩:=rx;exact SeqAt.EqAt.int_int a t' b t
  | str b=>obtain ⟨t,rfl⟩:=rx;exact SeqAt.EqAt.int_str a t' b t
  | _=>exact absurd (show false=true from fx) Í
 | str a =>
  obtain ⟨t',rfl⟩:=ry
  cases x with
  | non=>cases rx;exact SeqAt.EqAt.str_none a t'
  | bl b=>cases rx;exact SeqAt.EqAt.str_bool a t' b
  | int b=>obtain ⟨t,rfl⟩:=rx;exact SeqAt.EqAt.str_int a t' b t
  | str b=>obtain ⟨t,rfl⟩:=rx;exact SeqAt.EqAt.str_str a t' b t
  | _=>exact absurd (show false=true from fx) Í
 | _=>exact absurd (show false=true from fy) Í
def eqU (x:V) (u:Value):Bool:=match u with
 | .none=>eqV .non x
 | .bool b=>eqV (.bl b) x
 | .int i _=>eqV ↥123 x
 | .str z _=>eqV (.str z) x
 | _=>false
theorem CT {x y:V} {u:Value} (r:RelV y u) (f:mB y=true):eqU x u=eqV y x:=by
 cases y with
 | non=>cases r;rfl
 | bl b=>cases r;rfl
 | int i=>obtain ⟨t,rfl⟩:=r;rfl
 | str z=>obtain ⟨t,rfl⟩:=r;rfl
 | _=>exact absurd (show false=true from f) Í
theorem lP {x:V}:∀ {xs:List V} {us:List Value},Vals xs us->xs.all mB=true->us.any (eqU x)=xs.any fun y=>eqV y x
 | _,_,.nil,_=>rfl
 | y::xs,u::us,.cons r t,f=>by
  rw [ĵ,ò] at f
  rw [ŉ,ŉ,CT r f.1,lP t f.2]
theorem t8 {A:Around} {s:Shared} {x:V} {v:Value} (rx:RelV x v) (fx:mB x=true):∀ {xs:List V} {us:List Value},Vals xs us->xs.all mB=true->∀ u∈us,SeqAt.EqAt A s u v (eqU x u)
 | _,_,.nil,_=>fun u hu=>by cases hu
 | y::xs,u::us,.cons r t,f=>fun u' hu=>by
  rw [ĵ,ò] at f
  rcases Ö.mp hu with rfl | hu
  ·rw [CT r f.1];exact Kd r rx f.1 fx
  ·exact t8 rx fx t f.2 u' hu
def inV (x:V) (xs:List V):Bool:=xs.any fun y=>eqV y x
def rIn (K:PySem.W.Frag) (neg:Bool):R2:=fun x y H Q=>∃ p xs,y=.ref p/\(SqL K H p xs\/SqT K H p xs)/\mB x=true/\xs.all mB=true/\Q (.bl (if neg then !inV x xs else inV x xs)) H
theorem xx:OpR X (compareOp .In) (rIn X.K false):=by
 intro pins s σ H x y v u Q I rx ry h
 obtain ⟨p,xs,rfl,hq,fx,fs,q⟩:=h
 cases ry
 rcases hq with hq | hq
 ·obtain ⟨its,r,pl,hz⟩:=I.list hq
  refine SeqAt.in_listAt (eqU x) pl.isList ↥86 ⟨.bl _,H,I,rfl,?_⟩
  rw [show its.toArray.any (eqU x)=its.any (eqU x) by simp,lP r fs]
  exact q
 ·obtain ⟨its,r,pl,hz⟩:=I.tuple hq
  refine SeqAt.in_tupleAt (eqU x) pl ↥86 ⟨.bl _,H,I,rfl,?_⟩
  rw [show its.toArray.any (eqU x)=its.any (eqU x) by simp,lP r fs]
  exact q
theorem p0:OpR X (compareOp .NotIn) (rIn X.K true):=by
 intro pins s σ H x y v u Q I rx ry h
 obtain ⟨p,xs,rfl,hq,fx,fs,q⟩:=h
 cases ry
 rcases hq with hq | hq
 ·obtain ⟨its,r,pl,hz⟩:=I.list hq
  refine SeqAt.notIn_listAt (eqU x) pl.isList ↥86 ⟨.bl _,H,I,rfl,?_⟩
  rw [show its.toArray.any (eqU x)=its.any (eqU x) by simp,lP r fs]
  exact q
 ·obtain ⟨its,r,pl,hz⟩:=I.tuple hq
  refine SeqAt.notIn_tupleAt (eqU x) pl ↥86 ⟨.bl _,H,I,rfl,?_⟩
  rw [show its.toArray.any (eqU x)=its.any (eqU x) by simp,lP r fs]
  exact q
theorem pZ:OpR X (compareOp .NotIn) (fun x y H Q=>∃ i j,x=.str i/\y=.str j/\Q (.bl (!(!(Åf j i 0 j.length 1).isEmpty))) H):=by
 intro pins s σ H x y v u Q I rx ry h
 obtain ⟨i,j,rfl,rfl,q⟩:=h
 obtain ⟨t,rfl⟩:=rx
 obtain ⟨t',rfl⟩:=ry
 exact notIn_str ⟨.bl _,H,I,rfl,q⟩
theorem jt:fS X (.builtin "len") (fun xs H Q=>∃ p ys,xs=[.ref p]/\(SqL X.K H p ys\/SqT X.K H p ys)/\Q (.int ys.length) H):=by
 intro pins s σ H xs us Q I r h
 obtain ⟨p,ys,rfl,hq,q⟩:=h
 obtain ⟨u,rfl,rx⟩:=vals1 r
 cases rx
 have hn:=qd
 rcases hq with hq | hq
 ·obtain ⟨its,r',pl,hz⟩:=I.list hq
  have hlen:=r'.length
  exact Calls.call_len_list pl.isList (by simp only [Ì]<;>omega) ⟨.int ys.length,H,I.tok _,⟨s.toks+1,by rw [Ì,hlen]⟩,q⟩
 ·obtain ⟨its,r',pl,hz⟩:=I.tuple hq
  have hlen:=r'.length
  exact len_tuple pl (by simp only [Ì]<;>omega) ⟨.int ys.length,H,I.tok _,⟨s.toks+1,by rw [Ì,hlen]⟩,q⟩
theorem qu:fS X (.builtin "len") (fun xs H Q=>∃ z,xs=[.str z]/\z.length<=sizeLine/\Q (.int z.length) H):=by
 intro pins s σ H xs us Q I r h
 obtain ⟨z,rfl,hz,q⟩:=h
 obtain ⟨u,rfl,t,rfl⟩:=vals1 r
 have hn:=qd
 exact len_str ⋯ ⟨.int z.length,H,I.tok _,⟨_,rfl⟩,q⟩
theorem fJ:fS X (.type "list") (fun xs H Q=>∃ p ys,xs=[.ref p]/\(SqL X.K H p ys\/SqT X.K H p ys)/\∀ l,H l=none->Q (.ref l) (upd H l (.lst ys))):=by
 intro pins s σ H xs us Q I r h
 obtain ⟨p,ys,rfl,hq,q⟩:=h
 obtain ⟨u,rfl,rx⟩:=vals1 r
 cases rx
 have fin:∀ (its:List Value),Vals ys its->ys.length<=sizeLine->∀ (h':Heap) (c':Nat),(∀ b o',s.heap.get? b=some o'->h'.get? b=some o') ->
   h'.get? s.heap.objs.size=some { cls:=.type "list",dict:=none,data:=.seq its.toArray c',slots := #[] }->EP X pins σ Q ↥57 { s with heap:=h' }:=fun its r' hz h' c' kp e =>
  ⟨.ref s.heap.objs.size,_,I.laid (t':=s.toks) kp ↥15 (show gI X.prog X.w _ h' _ (.lst ys) from ⟨hz,its,c',r',e⟩),rfl,q _ (I.hok.fresh ↥15)⟩
 rcases hq with hq | hq
 ·obtain ⟨its,r',pl,hz⟩:=I.list hq
  have hlen:=r'.length
  obtain ⟨o,ho,hc,n,hd⟩:=pl.isList
  exact call_list_seq p (.inl rfl) ho hc hd (fun h' c' kp e=>fin its r' hz h' c' kp e) (by simp only [Ì]<;>omega)
 ·obtain ⟨its,r',pl,hz⟩:=I.tuple hq
  have hlen:=r'.length
  obtain ⟨o,ho,hc,n,hd⟩:=pl
  exact call_list_seq p (.inr rfl) ho hc hd (fun h' c' kp e=>fin its r' hz h' c' kp e) (by simp only [Ì]<;>omega)
def tyV (K:PySem.W.Frag) (T:String) (x:V) (H:Hp):Prop:=match x with
 | .str _=>T="str"
 | .int _=>T="int"
 | .ref p=>(T="list"/\∃ xs,SqL K H p xs)\/(T="tuple"/\∃ o,K.lookup p=some o/\o.cls=.type "tuple"/\o.dict=none) \/
   (T="dict"/\((∃ kvs,H p=some (.dK kvs))\/∃ kvs,H p=some (.dT kvs)))\/(T="set"/\∃ S n,H p=some (.set S n))
 | _=>False
theorem Cq {pins:List ↥6} {σ:St} {H:Hp} {s:Shared} {T:String} {x:V} {v:Value} (I:Inv X pins σ H s) (r:RelV x v) (ty:tyV X.K T x H) :
  s.TypeIs v T/\∀ a,v=.ref a->∃ ob,s.heap.get? a=some ob/\ob.dict=none:=by
 cases x with
 | str z =>
  obtain ⟨t,rfl⟩:=r
  cases (show T="str" from ty)
  exact ⟨typeIs_str s z t,fun _ e=>nomatch e⟩
 | int i =>
  obtain ⟨t,rfl⟩:=r
  cases (show T="int" from ty)
  exact ⟨typeIs_int s i t,fun _ e=>nomatch e⟩
 | ref p =>
  cases r
  rcases ty with ⟨rfl,xs,hq⟩ | ⟨rfl,o,hk,hc,hd⟩ | ⟨rfl,hk⟩ | ⟨rfl,S,n,hk⟩
  ·obtain ⟨its,_,pl,_⟩:=I.list hq
   refine ⟨pl.isList.typeIs,fun a e => ?_⟩
   cases e
   obtain ⟨o,n,e,c,hd,_⟩:=pl
   exact ⟨o,e,hd⟩
  ·refine ⟨⟨o,I.kIn p o hk,hc⟩,fun a e => ?_⟩
   cases e
   exact ⟨o,I.kIn _ o hk,hd⟩
  ·have z:∃ o,s.heap.get? p=some o/\o.ExactDict:=by
    rcases hk with ⟨kvs,hk⟩ | ⟨kvs,hk⟩
    ·obtain ⟨_,_,_,_,o,_,_,e,ex,_⟩:=I.hok p _ hk
     exact ⟨o,e,ex⟩
    ·obtain ⟨_,_,_,_,o,_,_,e,ex,_⟩:=I.hok p _ hk
     exact ⟨o,e,ex⟩
   obtain ⟨o,e,ex⟩:=z
   refine ⟨⟨o,e,ex.1⟩,fun a e2 => ?_⟩
   cases e2
   exact ⟨o,e,ex.2.1⟩
  ·obtain ⟨o,_,_,_,e,ex,_⟩:=I.hok p _ hk
   refine ⟨⟨o,e,ex.1⟩,fun a e2 => ?_⟩
   cases e2
   exact ⟨o,e,ex.2.1⟩
 | _=>exact Å ty
def PN (K:PySem.W.Frag) (T:String) (r:V->List V->Hp->VK->Prop) (to:TE):TE:=fun σ H Q=>to σ H fun x H1=>tyV K T x H1/\r x [] H1 Q
def tBM (K:PySem.W.Frag) (T:String) (r:V->List V->Hp->VK->Prop) (to:TE) (t:TA):TE:=fun σ H Q=>to σ H fun x H1=>tyV K T x H1/\t σ H1 fun xs H2=>r x xs H2 Q
variable {o e:Expr} {es:List Expr} {to:TE} {t:TA} {name:Str} {apos cpos:Pos} {T id:String} {r:V->List V->Hp->VK->Prop}
theorem IU (pa:PlainAttrs T) (slot:Slot T name id) (hty:typeOf (.builtin id)=pure (.type "method_descriptor")) (hm:MtR X id r) (ho:PE X o to)
  (hbase:attributeBase o name X.env (eval o X.env)=eval o X.env:=by rfl) (hline:(apos.endLine == cpos.line)=true:=by rfl):PE X (.Call (.Attribute o name apos) [] [] cpos) (PN X.K T r to):=by
 intro pins s σ H Q I h
 refine wpAny_Call_method0_late hbase hline (thn (ho pins s σ H _ I h) fun v s1 ⟨x,H1,I1,r1,ty,q1⟩ => ?_)
 obtain ⟨h1,h2⟩:=Cq I1 r1 ty
 exact ⟨T,id,pa,slot,hty,h1,h2,Çd rfl (PySem.evalArgs_none (hm pins s1 σ H1 x [] v [] Q I1 r1 .nil q1))⟩
theorem IV (pa:PlainAttrs T) (slot:Slot T name id) (hty:typeOf (.builtin id)=pure (.type "method_descriptor")) (hm:MtR X id r) (ho:PE X o to) (ha:PA X (e::es) t)
  (hbase:attributeBase o name X.env (eval o X.env)=eval o X.env:=by rfl)
  (hfew:((backTo cpos (starEach (e::es) X.env)).all (fun x => !x.1)&&(backToKw cpos (keywordEach [] X.env)).all (fun x=>x.1.isSome)
   && decide ((e::es).length+([]:List Keyword).length+(if ([]:List Keyword).isEmpty then 0 else 1)<30))=true:=by rfl)
  (hline:(apos.endLine == cpos.line)=true:=by rfl) (hs:starEach (e::es) X.env=↥27::starEach es X.env:=by rfl) (hplain:(backTo cpos ↥65).any (·.1)=false:=by rfl) :
  PE X (.Call (.Attribute o name apos) (e::es) [] cpos) (tBM X.K T r to t):=by
 intro pins s σ H Q I h
 refine wpAny_Call_method_late hbase hfew hline rfl (thn (ho pins s σ H _ I h) fun v s1 ⟨x,H1,I1,r1,ty,q1⟩ => ?_)
 obtain ⟨h1,h2⟩:=Cq I1 r1 ty
 refine ⟨T,id,pa,slot,hty,h1,h2,?_⟩
 have hA:=ha cpos pins s1 σ H1 _ I1 q1
 rw [hs] at hA ⊢
 refine Çd (by show (false||(backTo cpos ↥65).any (·.1))=false;rw [hplain]<;>rfl) (Èh ?_)
 exact thn hA fun us s2 ⟨vs,H2,I2,r2,q2⟩=>hm pins s2 σ H2 x vs v us Q I2 r1 r2 q2
/- xs.append(e),list.index on a module's tuple .. are MtR facts of 06m -/
end
end L2
namespace L2
open PySem PySem.Spec PyProof.Rows
def MtM (X:Cx) (id:String) (r:V->List V->Hp->VK->Prop):Prop :=
 ∀ (pins:List ↥6) (s:Shared) (σ:St) (H:Hp) (x:V) (xs:List V) (v:Value) (us:List Value) (Q:VK),Inv X pins σ H s->RelV x v->Vals xs us->r x xs H Q ->
  wpAny ↥4 X.A (call (.builtin id) (v::us)) ↥70 X.xe s
theorem Vals.one:∀ {x:V} {us:List Value},Vals [x] us->∃ u,us=[u]/\RelV x u
 | _,_,.cons r .nil=>⟨_,rfl,r⟩
theorem Vals.rep {xs:List V} {us:List Value} (h:Vals xs us):∀ k:Nat,Vals (Û k xs).flatten (Û k us).flatten
 | 0=>.nil
 | k+1=>by
  rw [ğ,ğ,ń,ń]
  exact Vals.append h (Vals.rep h k)
theorem foldl_rep (its:List Value):∀ (k:Nat) (acc:List Value),
  Çe (fun x1 x2=>x1++x2) acc.toArray (Û k its.toArray)=(acc++(Û k its).flatten).toArray
 | 0,acc=>by simp
 | k+1,acc=>by
  have e:acc.toArray++its.toArray=(acc++its).toArray:=by simp
  have e2:(acc++its)++(Û k its).flatten=acc++(Û (k+1) its).flatten:=by
   rw [ğ,ń,Ć]
  rw [<- e2,<-foldl_rep its k (acc++its),<-e,ğ,List.foldl_cons]
section
variable {X:Cx} {pins:List ↥6} {σ:St} {H:Hp} {s:Shared} {l b:Addr} {xs ys zs:List V}
theorem Inv.lset {its its':List Value} {n:Nat} {f:Array Value->Array Value} {t':Nat} (I:Inv X pins σ H s) (hH:H l=some ↥131)
  (e:s.heap.get? l=some { cls:=.type "list",data:=.seq its.toArray n }) (hf:f its.toArray=its'.toArray) (hv:Vals ys its') (hz:ys.length<=sizeLine) :
  Inv X pins σ (upd H l (.lst ys)) { s with heap:=s.heap.update l (ę f),toks:=t' }:=by
 have q:=PySem.IsL.update e f
 rw [hf] at q
 refine I.write (x:=l) (e:=l) (by rw [hH];exact trivial) (.inl rfl) (fun b' u hb hu=>(ç s.heap (ę f) (ė hb)).trans hu) ⟨_,q⟩ ?_
 exact ⟨hz,its',_,hv,q⟩
theorem Inv.lnew {its:List Value} {t':Nat} (I:Inv X pins σ H s) (hv:Vals ys its) (hz:ys.length<=sizeLine) :
  Inv X pins σ (upd H s.heap.objs.size (.lst ys)) { s with heap:=s.heap.push { cls:=.type "list",data:=.seq its.toArray },toks:=t' } :=
 I.laid (fun _ _ q=>Ä _ q) ↥15 ⟨hz,its,0,hv,Ú _ rfl⟩
theorem Inv.fresh (I:Inv X pins σ H s):H s.heap.objs.size=none:=I.hok.fresh ↥15
theorem Inv.lstM (I:Inv X pins σ H s) (hH:H l=some ↥131):xs.length<=sizeLine/\∃ (its:List Value) (n:Nat),Vals xs its/\xs.length=its.length/\s.heap.get? l=some { cls:=.type "list",data:=.seq its.toArray n }:=by
 obtain ⟨z,its,n,r,e⟩:=I.hok l _ hH
 exact ⟨z,its,n,r,r.length,e⟩
theorem tX {n:Nat} (h:n<=sizeLine):Builtin.List.listTooLong n=false:=by
 unfold Builtin.List.listTooLong
 exact decide_eq_false ⋯
end
section
variable {X:Cx}
def Ez:V->List V->Hp->VK->Prop:=fun x vs H Q=>∃ l xs y,x=.ref l/\vs=[y]/\H l=some ↥131/\xs.length<sizeLine/\Q .non (upd H l (.lst (xs++[y])))
theorem qc:MtM X "list.append" Ez:=by
 intro pins s σ H x vs v us Q I rx rv h
 obtain ⟨l,xs,y,rfl,rfl,hH,hz,q⟩:=h
 cases rx
 obtain ⟨u,rfl,ru⟩:=rv.one
 obtain ⟨z,its,n,r,hl,e⟩:=I.lstM hH
 refine call_meets F.slot_list_append ⟨_,e,rfl⟩ F.entry_list_append (F.args_list_append_2 _ _) (PySem.list_append l its.toArray n u (by rw [Ì];omega)) ⟨e,?_⟩
 refine ⟨.non,_,I.lset (its':=its++[u]) hH e ↥80 (r.append (.cons ru .nil)) ?_,rfl,q⟩
 rw [Æ,List.length_singleton]
 omega
theorem len_rep {α:Type} (xs:List α) (k:Nat):(Û k xs).flatten.length=k*xs.length:=by
 induction k with
 | zero=>simp
 | succ k ih=>rw [ğ,ń,Æ,ih,Nat.succ_mul,Nat.add_comm]
end
section
variable {prog:Program} {w:World} {A:Around} {E:Value->Shared->Prop} {s:Shared}
end
section
variable {X:Cx}
end
end L2
namespace Att
open PySem PySem.W PySem.Calls PyProof.Rows
theorem lC {P:Params} {h:Heap}:∀ (ns:List Int) (vs:List Value),WellAll P h vs (ns.map WData.int)->IntsAre vs ns:=by
 intro ns
 induction ns with
 | nil =>
  intro vs w
  rw [ő] at w
  cases w
  exact .nil
 | cons n ns ih =>
  intro vs w
  rw [Ê] at w
  cases w with
  | cons a b =>
   cases a
   exact .cons _ _ (ih _ b)
theorem wV {l:OpenLaw} {n:Nat} (hn:l.most=some n) {P:Params} {h:Heap} {args:List WData} {vals:List Value}
  (hpre:l.row.toRowW.claim.pre args=true) (hwl:WellAll P h vals args) :
  ∃ a vs ns,vals=[â a]/\args=[WData.list (ns.map WData.int)]/\h.get? a=some { cls:=.type "list",data:=.seq vs.toArray }/\IntsAre vs ns/\ns.length<=n:=by
 have hsh:WShape.hasAll [] args [.list .int]=true:=(pre_splitW hpre).1
 have hc:l.pre.holds [] { args:=args }=true:=(pre_splitW hpre).2
 obtain ⟨d,r,rfl,h1,h2⟩:=hasAllW_cons hsh
 obtain rfl:=hasAllW_nil h2
 obtain ⟨xs,rfl,h3⟩:=hasW_list h1
 obtain ⟨ns,rfl⟩:=items_int h3
 have hlen:ns.length<=n:=by
  unfold OpenLaw.pre at hc
  have h4:(WTm.not (.lt (.lit (.int (n:Int))) (.len (.arg 0)))).holds [] { args:=[.list (ns.map .int)] }=true:=by
   have h4:=(holds_andW hc).1
   rw [hn] at h4
   exact h4
  have h5:=condW_of h4 (w_not (w_lt w_lit (w_len_list (w_arg rfl))))
  rw [Á] at h5
  refine Nat.le_of_not_lt fun q => ?_
  have q':(n:Int)<((ns.length:Nat):Int):=⋯
  first
   | (rw [decide_eq_true q'] at h5;exact absurd h5 ↥1)
   | (simp at h5;omega)
 cases hwl with
 | cons w1 w2 =>
  cases w2
  cases w1 with
  | list ho hall=>exact ⟨_,_,ns,rfl,rfl,ho,lC ns _ hall,hlen⟩
theorem xm (l:OpenLaw) (args:List WData):l.row.toRowW.claim.post args ↥75 args=true :=
 postW_of (r:=l.row.toRowW) (X:=(true == true))
  (show WShape.has [] ↥75 .bool=true by first | rfl | decide | simp [WShape.has,WShape.arms,WShape.armsAll])
  (show (WTm.eq .res (.lit ↥75)).value [] { args:=args,res:=some ↥75,after:=args }=some (.bool (true == true)) from w_eq_bool (w_res rfl) w_lit) rfl
section
variable {prog:Program} {w:World} {A:Around} {E:Value->Shared->Prop} {s:Shared} {K:Frag}
def ledger (h:Heap) (L d:Addr):List ↥6:=(č h.objs.size).filterMap fun a=>if a=L\/a=d then none else (h.get? a).map fun o=>(a,o)
end
end Att
namespace L2
open PySem PySem.Spec PyProof.Rows
theorem pE:∀ {vs:List Value} {ns:List Int},IntsAre vs ns->Vals (ns.map V.int) vs
 | _,_,.nil=>.nil
 | _,_,.cons n t h=>.cons ⟨t,rfl⟩ (pE h)
def RB (H:Hp):Prop:=∀ b,H b=none\/∃ o xs,H b=some (.frz o ↥131)
end L2
namespace L2
open PySem PySem.Spec PyProof.Rows
abbrev KOf {K:PySem.W.Frag} {h:Heap} (_:K.In h):PySem.W.Frag:=K
end L2
/- THE LAST THEOREM (shape;LID,My.* are yours):
   My.Adr: a structure of the addresses that your layer names (classes,functions);My.Txt K t: a structure (Prop) of the equations over K;
   My.txt_mk:{K} {implicit addresses ..} (e1:nsIn K mainGlobals "law"=some (some (.ref f))) (e2:K.lookup f=some ⟨oc,od,.func (fnOf "law" "law" params body scope dV kV doc pm an cdv ct),sl⟩) (e3:codeIn K cdv "law"=true) .. : ∃ t,My.Txt K t
set_option maxHeartbeats 0 in
theorem PySem.Challenge.cw_LID_holds : PySem.Challenge.rw_LID.Holds := by
 w_on;o_law;k_head;(case hw=>w_witness2)
 k_fill
 refine L2.walk_of (l:=PySem.Challenge.rw_LID) (n:=63) (k:=40) (x:="script") (CX:=fun w=>..) (sp:=fun _=>My.sp_law) rfl ↥1 rfl ⟨rfl,by decide,by decide⟩ (fun w h Y=>PySem.W.kIn_of Y) ?F ?S ?C
 case F =>
  intro w mg fa h KX G hmg
  have T:∃ t,My.Txt (L2.KOf KX) t:=by
   dsimp only [L2.KOf]                          -- K must HR as «<heap const> w.params» for k_is
   refine' My.txt_mk ?e1 ?e2 ?e3 ..
   (case e1=>PySem.W.k_is)                    -- in the order: a name->its address->its object->its parts
   (case e2=>PySem.W.k_is)
   ..
  obtain ⟨t,T⟩:=T
  have e0:=hmg.symm.trans (ć KX G T.law)
  cases e0                                       -- fa is the law's own address
  exact ⟨_,fun s u=>.of_eq rfl,fun base kb nb=>My.law_fn T kb nb⟩     -- if «.of_eq rfl» comes too early: refine' ⟨_,?b,fun base kb nb=>My.law_fn T kb nb⟩;exact fun s u=>.of_eq rfl
 case S=>exact fun w H a ns hl hO hS=>..
 case C=>exact ..
(the tactic k_is has no namespace: write k_is) -/
namespace L2
open PySem PySem.Spec PyProof.Rows
def dF (s:Stmt):Arguments:=match s with
 | .FunctionDef _ a _ _ _ _ _ _ _ _=>a
 | _=>{ posonlyargs:=[],args:=[],vararg:=none,kwonlyargs:=[],kw_defaults:=[],kwarg:=none,defaults:=[] }
def ag (s:Stmt):List Stmt:=match s with
 | .FunctionDef _ _ b _ _ _ _ _ _ _=>b
 | _=>[]
def aa (s:Stmt):Scope:=match s with
 | .FunctionDef _ _ _ _ _ _ sc _ _ _=>sc
 | _=>{ kind:=.function,names:=[],isGenerator:=false,isCoroutine:=false }
abbrev CX0:CXT:=fun _ _ _ _ _ _=>False
abbrev E0:XK:=fun _ _ _=>False
theorem Ma {X:Cx}:Passes CX0 X E0:=fun _ _ _ _ _ _ _ h=>h.elim
structure Fun (K:PySem.W.Frag) (x qual:Str) (st:Stmt) (f:Addr) (fd:FuncData):Prop where
 ex:∃ (oc:Value) (od:Option Addr) (kV doc pm:Value) (an:Option Addr) (cdv ct:Value) (osl:Array ↥107),
  fd=Ĳ x qual (dF st) (ag st) (aa st) .none kV doc pm an cdv ct/\K.lookup f=some ⟨oc,od,.func fd,osl⟩/\PySem.W.codeIn K cdv qual=true
 kp:PySem.W.keepIn K (.ref f)=true
section
variable {P:Program} {w:World} {K:PySem.W.Frag} {mg:Str->Option Value} {base:Heap}
theorem Fun.ok {x qual:Str} {st:Stmt} {f:Addr} {fd:FuncData} {N ps:List Str} {k:Nat} {sp:Sp} (F:Fun K x qual st f fd) (S:FnScope N ps (aa st)) (len:∀ vs H Q E,sp vs H Q E->vs.length=ps.length)
  (hbody:∀ (cdv:Value) (A:Around) (outer:List Env) (s:Shared) (H:Hp) (vs:List V) (Q:VK) (E:XK),Room k (A.deeper (envOfC qual (aa st) s.heap.objs.size f cdv))->sp vs H Q E ->
   ∃ t,PSs (CU CX0 P w K mg base N qual (aa st) f cdv A outer s H E).nox (ag st) t/\t { nx:=fun _ H'=>Q .non H',rt:=Q } (start N vs) H):FnOk P w K mg base CX0 (k+1) f fd ps sp:=by
 obtain ⟨oc,od,kV,doc,pm,an,cdv,ct,osl,rfl,lk,hcd⟩:=F.ex
 refine FK lk hcd S len fun A outer s H vs Q E hr hsp => ?_
 obtain ⟨t,h,q⟩:=hbody cdv A outer s H vs Q E hr hsp
 exact ⟨t,h.nox,q⟩
theorem Fun.binds {x qual:Str} {st:Stmt} {f:Addr} {fd:FuncData} {ps:List Str} (F:Fun K x qual st f fd)
  (h:∀ (kV doc pm:Value) (an:Option Addr) (cdv ct:Value) (us:List Value),us.length=ps.length->bindArgs ↥0 ⟨us,[]⟩=pure (ps.zip us)):Binds K fd ps []:=by
 obtain ⟨oc,od,kV,doc,pm,an,cdv,ct,osl,rfl,lk,hcd⟩:=F.ex
 exact .all ↥132
theorem mW {x qual:Str} {st:Stmt} {f:Addr} {oc:Value} {od an:Option Addr} {osl:Array ↥107} {kV doc pm cdv ct:Value} (l:K.lookup f=some ⟨oc,od,.func ↥0,osl⟩)
  (c:PySem.W.codeIn K cdv qual=true) (k:PySem.W.keepIn K (.ref f)=true):Fun K x qual st f ↥0:=⟨⟨oc,od,kV,doc,pm,an,cdv,ct,osl,rfl,l,c⟩,k⟩
end
theorem kF {n:Nat} (h:n<=1000):n<sizeLine:=Nat.lt_of_le_of_lt h ↥1
section
variable {X:Cx}
end
theorem GP {A B:Prop} (h:B):if false=true then A else B:=by
 rw [if_neg Í]
 exact h
theorem GO {A B:Prop} (h:A):if true=true then A else B:=by
 rw [if_pos rfl]
 exact h
def aq (H H':Hp):Prop:=∀ b o,H b=some o->H' b=some o
theorem aq.refl (H:Hp):aq H H:=fun _ _ h=>h
theorem aq.trans {H H1 H2:Hp} (a:aq H H1) (b:aq H1 H2):aq H H2:=fun c o h=>b c o (a c o h)
theorem aq.seq {K:PySem.W.Frag} {H H':Hp} {a:Addr} {xs:List V} (e:aq H H') (h:SqL K H a xs):SqL K H' a xs:=by
 rcases h with (h | ⟨o,h⟩) | h
 ·exact .inl (.inl (e _ _ h))
 ·exact .inl (.inr ⟨o,e _ _ h⟩)
 ·exact .inr h
end L2
namespace EV
open PySem (Str)
inductive D where
 | non | bl (b:Bool) | int (i:Int) | str (x:Str) | tup (ds:List D) | lst (ds:List D) | own (ds:List D)
 | ty (n:String) | cls (n:String) | exc (n:String) | ins (n:String) (fs:List (String×D))
noncomputable instance:Inhabited D:=⟨.non⟩
inductive R (α:Type) where
 | ok (a:α) | ex (C:String) | bad
namespace R
def bind {α β:Type}:R α->(α->R β)->R β
 | .ok a,f=>f a
 | .ex C,_=>.ex C
 | .bad,_=>.bad
end R
abbrev Dt:=List (Option D)
abbrev E:=Dt->R D
inductive O where
 | nx (δ:Dt) | rt (d:D) | bk (δ:Dt) | ct (δ:Dt) | ex (C:String) (δ:Dt) | mk (C:String) (δ:Dt) | hx (C:String) (δ:Dt) | bad
abbrev S:=Dt->O
def pw (k:Int):Int:=2^k.toNat
def nb (i:Int):Nat:=if i=0 then 0 else i.natAbs.log2+1
def MulOk (i j:Int):Prop:=nb i+nb j<=134217728
def iX (i j:Int):Prop:=0<j/\(nb j<=9000\/nb i<=nb j+4000)
noncomputable instance {i j:Int}:Decidable (MulOk i j):=inferInstanceAs (Decidable (_<=_))
noncomputable instance {i j:Int}:Decidable (iX i j):=inferInstanceAs (Decidable (_/\_))
def bH:D->D->R D
 | .int i,.int j=>.ok (.int (i+j))
 | .str x,.str y=>if x.cps.size+y.cps.size<=1000000 then .ok (.str ⟨x.cps++y.cps⟩) else .bad
 | .lst xs,.lst ys=>if xs.length+ys.length<=100000 then .ok (.lst (xs++ys)) else .bad
 | .tup xs,.tup ys=>if xs≠[]/\xs.length+ys.length<=100000 then .ok (.tup (xs++ys)) else .bad
 | _,_=>.bad
def dY:D->D->R D
 | .int i,.int j=>.ok (.int (i - j))
 | _,_=>.bad
def eY:D->D->R D
 | .int i,.int j=>if MulOk i j then .ok (.int (i*j)) else .bad
 | _,_=>.bad
def oDiv:D->D->R D
 | .int i,.int j=>if iX i j then .ok (.int (i / j)) else .bad
 | _,_=>.bad
def oMod:D->D->R D
 | .int i,.int j=>if 0<j then .ok (.int (i%j)) else .bad
 | _,_=>.bad
def gf:D->D->R D
 | .int i,.int j=>if 0<=j/\(nb i:Int)+j<=134217728 then .ok (.int (i*pw j)) else .bad
 | _,_=>.bad
def M7:D->D->R D
 | .int i,.int j=>if 0<=j then .ok (.int (i / pw j)) else .bad
 | _,_=>.bad
def p9:D->D->R D
 | .int i,.int j=>if 0<=i/\0<=j then .ok (.int ((i.toNat &&& j.toNat:Nat):Int)) else .bad
 | _,_=>.bad
def rK:D->D->R D
 | .int i,.int j=>if 0<=i/\0<=j then .ok (.int ((i.toNat ^^^ j.toNat:Nat):Int)) else .bad
 | _,_=>.bad
def Jn:D->R D
 | .int i=>.ok (.int (-i))
 | _=>.bad
def oLt:D->D->R D
 | .int i,.int j=>.ok (.bl (decide (i<j)))
 | _,_=>.bad
def oLe:D->D->R D
 | .int i,.int j=>.ok (.bl (decide (i<=j)))
 | _,_=>.bad
def oGt:D->D->R D
 | .int i,.int j=>.ok (.bl (decide (j<i)))
 | _,_=>.bad
def oGe:D->D->R D
 | .int i,.int j=>.ok (.bl (decide (j<=i)))
 | _,_=>.bad
mutual
def D.beq:D->D->Bool
 | .non,.non=>true
 | .bl a,.bl b=>a == b
 | .bl a,.int b=>(if a then 1 else 0) == b
 | .int a,.bl b=>a == (if b then 1 else 0)
 | .int a,.int b=>a == b
 | .str a,.str b=>a == b
 | .tup a,.tup b=>D.beqs a b
 | .lst a,.lst b=>D.beqs a b
 | _,_=>false
def D.beqs:List D->List D->Bool
 | [],[]=>true
 | a::as,b::bs=>D.beq a b&&D.beqs as bs
 | _,_=>false
end
def D.sc:D->Bool
 | .non=>true | .bl _=>true | .int _=>true | .str _=>true
 | _=>false
def D.pl:Nat->D->Bool
 | _,.non=>true
 | _,.bl _=>true
 | _,.int _=>true
 | _,.str x=>x.cps.all (· < 0x110000)
 | n+1,.tup ds=>ds.all (D.pl n)
 | n+1,.lst ds=>ds.all (D.pl n)
 | _,_=>false
def D.cmp (a b:D):Bool:=(a.sc&&b.sc)||(D.pl 8 a&&D.pl 8 b)
def oEq (a b:D):R D:=if D.cmp a b then .ok (.bl (D.beq a b)) else .bad
def oNe (a b:D):R D:=if D.cmp a b then .ok (.bl (!D.beq a b)) else .bad
def rJ:D->R D
 | .non=>.ok ↥29
 | _=>.ok ↥56
def rG:D->R D
 | .non=>.ok ↥56
 | _=>.ok ↥29
def isIn (x:D) (ys:List D):Option Bool:=if x.sc&&ys.all D.sc then some (ys.any fun y=>D.beq y x) else none
def oIn (a b:D):R D:=match a,b with
 | .str x,.str y=>match x.cps.toList with | [c]=>.ok (.bl (decide (c∈y.cps.toList))) | _=>.bad
 | a,.tup ds=>match isIn a ds with | some k=>.ok (.bl k) | none=>.bad
 | a,.lst ds=>match isIn a ds with | some k=>.ok (.bl k) | none=>.bad
 | _,_=>.bad
def gJ (a b:D):R D:=(oIn a b).bind fun d=>match d with | .bl k=>.ok (.bl (!k)) | _=>.bad
def ixN (n:Nat) (i:Int):Option Nat:=if 0<=i then (if i<n then some i.toNat else none) else if -(n:Int)<=i then some (i+n).toNat else none
def oIx:D->D->R D
 | .tup ds,.int i=>match (ixN ds.length i).bind fun j=>ds[j]? with | some d=>.ok d | none=>.bad
 | .lst ds,.int i=>match (ixN ds.length i).bind fun j=>ds[j]? with | some d=>.ok d | none=>.bad
 | .str x,.int i=>if x.cps.size<=1000000 then (match (ixN x.cps.toList.length i).bind fun j=>x.cps.toList[j]? with | some c=>.ok (.str ⟨#[c]⟩) | none=>.bad) else .bad
 | _,_=>.bad
def sIx (n d:Nat):Option Int->Nat
 | none=>d
 | some i=>if i<0 then (i+n).toNat else min i.toNat n
def cut {α:Type} (xs:List α) (lo hi:Option Int):List α:=(xs.drop (sIx xs.length 0 lo)).take (sIx xs.length xs.length hi - sIx xs.length 0 lo)
def oSl:D->Option Int->Option Int->R D
 | .tup ds,lo,hi=>if sIx ds.length 0 lo=0/\sIx ds.length ds.length hi=ds.length then .bad else .ok (.tup (cut ds lo hi))
 | .lst ds,lo,hi=>.ok (.lst (cut ds lo hi))
 | _,_,_=>.bad
def var (i:Nat):E:=fun δ=>match δ[i]? with
 | some (some (.own _))=>.bad
 | some (some d)=>.ok d
 | _=>.bad
def con (d:D):E:=fun _=>.ok d
def un (f:D->R D) (a:E):E:=fun δ=>(a δ).bind f
def bin (f:D->D->R D) (a b:E):E:=fun δ=>(a δ).bind fun x=>(b δ).bind fun y=>f x y
def truth {β:Type} (d:D) (t f:R β):R β:=match d with
 | .bl true=>t
 | .bl false=>f
 | _=>.bad
def sS (a b:E):E:=fun δ=>(a δ).bind fun d=>truth d (b δ) (.ok ↥56)
def or_ (a b:E):E:=fun δ=>(a δ).bind fun d=>truth d (.ok ↥29) (b δ)
def CM (a:E):E:=fun δ=>(a δ).bind fun d=>truth d (.ok ↥56) (.ok ↥29)
def ife (c a b:E):E:=fun δ=>(c δ).bind fun d=>truth d (a δ) (b δ)
def chain (f g:D->D->R D) (a b c:E):E:=fun δ=>(a δ).bind fun x=>(b δ).bind fun y=>(f x y).bind fun d=>truth d ((c δ).bind fun z=>g y z) (.ok ↥56)
def evs:List E->Dt->R (List D)
 | [],_=>.ok []
 | e::es,δ=>(e δ).bind fun d=>(evs es δ).bind fun ds=>.ok (d::ds)
def fk (es:List E):E:=fun δ=>(evs es δ).bind fun ds=>.ok (.tup ds)
def Fu (es:List E):E:=fun δ=>(evs es δ).bind fun ds=>.ok ↥120
def call (f:List D->R D) (es:List E):E:=fun δ=>(evs es δ).bind f
def part:Option E->Dt->R (Option Int)
 | none,_=>.ok none
 | some e,δ=>(e δ).bind fun d=>match d with | .int i=>.ok (some i) | _=>.bad
def slc (a:E) (lo hi:Option E):E:=fun δ=>(a δ).bind fun d=>(part lo δ).bind fun l=>(part hi δ).bind fun h=>oSl d l h
/- data without a list -/
mutual
def D.flat:D->Bool
 | .lst _=>false
 | .own _=>false
 | .tup ds=>D.flats ds
 | .ins _ fs=>D.flatf fs
 | _=>true
def D.flats:List D->Bool
 | []=>true
 | d::r=>D.flat d&&D.flats r
def D.flatf:List (String×D)->Bool
 | []=>true
 | (_,d)::r=>D.flat d&&D.flatf r
end
abbrev IT:=Dt->R (List D)
def iY (lo hi:Int):List D:=(č (hi - lo).toNat).map fun (k:Nat)=>D.int (lo+k)
def asL:D->R (List D)
 | .lst ds=>.ok ds
 | _=>.bad
def asT:D->R (List D)
 | .tup ds=>.ok ds
 | _=>.bad
def asA:D->R (List D)
 | .lst ds=>.ok ds
 | .tup ds=>.ok ds
 | _=>.bad
def CZ:D->R (List D)
 | .int hi=>if -(2^62)<=hi/\hi<2^62 then .ok (iY 0 hi) else .bad
 | _=>.bad
def K4:List D->R (List D)
 | [.int lo,.int hi]=>if -(2^62)<=lo/\lo<2^62 /\ -(2^62)<=hi/\hi<2^62 then .ok (iY lo hi) else .bad
 | _=>.bad
def M5 (lo hi c:Int):List D:=(č (if lo<hi then (hi - lo - 1) / c+1 else 0).toNat).map fun (k:Nat)=>D.int (lo+k*c)
def K3:List D->R (List D)
 | [.int lo,.int hi,.int c]=>if (-(2^40)<=lo/\lo<2^40 /\ -(2^40)<=hi/\hi<2^40)/\0<c/\c<2^20 then .ok (M5 lo hi c) else .bad
 | _=>.bad
def itL (g:E):IT:=fun δ=>(g δ).bind asL
def itT (g:E):IT:=fun δ=>(g δ).bind asT
def itA (g:E):IT:=fun δ=>(g δ).bind asA
def Bv (g:E):IT:=fun δ=>(g δ).bind CZ
def Rc (a b:E):IT:=fun δ=>(evs [a,b] δ).bind K4
def Rb (a b c:E):IT:=fun δ=>(evs [a,b,c] δ).bind K3
def l5 {α:Type} (r:R α):R α:=match r with
 | .ex _=>.bad
 | r=>r
def inC (ks:List Nat) (δ:Dt) (x:D):Dt:=some x::ks.map fun k=>δ.getD k none
def dD (rs:List D):R D:=if D.flats rs then .ok (.lst rs) else .bad
def runC (st:D->R (Option D)):List D->R (List D)
 | []=>.ok []
 | d::ds=>(st d).bind fun o=>(runC st ds).bind fun rs=>.ok (match o with | some r=>r::rs | none=>rs)
def stC (c elt:E) (ks:List Nat) (δ:Dt) (x:D):R (Option D):=(l5 (c (inC ks δ x))).bind fun d=>truth d ((l5 (elt (inC ks δ x))).bind fun r=>.ok (some r)) (.ok none)
def dU (it:IT) (ks:List Nat) (c elt:E):E:=fun δ=>(it δ).bind fun ds=>if ds.length<=100000 then (runC (stC c elt ks δ) ds).bind dD else .bad
def comp (it:IT) (ks:List Nat) (elt:E):E:=dU it ks ↥133 elt
def CK (cn f:String):D->R D
 | .ins n fs=>if n == cn then (match fs.lookup f with | some d=>.ok d | none=>.bad) else .bad
 | _=>.bad
def dP (cn m:String):D->Bool
 | .ins n fs=>n == cn&&(fs.lookup m).isNone
 | _=>false
def GN (cn m:String) (F:List D->R D) (o:E) (es:List E):E:=fun δ=>(o δ).bind fun d=>if dP cn m d then (evs es δ).bind fun ds=>F (d::ds) else .bad
def mk1 (cn f:String):List D->R D
 | [d]=>.ok (.ins cn [(f,d)])
 | _=>.bad
def gG:List D->R D
 | [.lst ds]=>.ok (.int ds.length)
 | [.tup ds]=>.ok (.int ds.length)
 | [.str x]=>if x.cps.size<=1000000 then .ok (.int x.cps.size) else .bad
 | _=>.bad
def GR:List D->R D
 | [.int i]=>.ok (.int (if i<0 then -i else i))
 | _=>.bad
def CW:List D->R D
 | [.int i,.int j]=>.ok (.int (if j>i then j else i))
 | _=>.bad
def Gm:List D->R D
 | [.int i,.int j]=>.ok (.int (if j<i then j else i))
 | _=>.bad
def Ph:List D->R D
 | [.int i]=>.ok ↥123
 | [.bl k]=>.ok (.int (if k then 1 else 0))
 | _=>.bad
def oY:List D->R D
 | [.lst ds]=>.ok ↥120
 | [.tup ds]=>.ok ↥120
 | _=>.bad
def intsOf:List D->Option (List Int)
 | []=>some []
 | .int i::r=>(intsOf r).map (i::·)
 | _=>none
def jj:List D->R D
 | [.int i]=>.ok (.int (nb i))
 | _=>.bad
def aj:List String:=["MillError","NoSize","NoBits","NoParts","NoRank","NotFinite","NoWay","NoFlags","NoFraction","Unlike","Empty","NoLeft","NoText","NoRow","NoName","Stopped"]
def BM (C B:String):Bool:=aj.contains C&&(C == B||B == "MillError")
def tyR (n:String) (b:Bool):R D:=if ["int","bool","str","tuple","list","ValueError"].contains n then .ok (.bl b) else .bad
def Rg (B:String):D->R D
 | .exc C=>if aj.contains C&&aj.contains B then .ok (.bl (C == B||B == "MillError")) else .bad
 | .non=>if aj.contains B then .ok ↥56 else .bad
 | _=>.bad
def Rf (n:String):D->R D
 | .exc C=>if aj.contains C&&n == "ValueError" then .ok ↥29 else .bad
 | .non=>tyR n false
 | .bl _=>tyR n (n == "int"||n == "bool")
 | .int _=>tyR n (n == "int")
 | .str _=>tyR n (n == "str")
 | .tup _=>tyR n (n == "tuple")
 | .lst _=>tyR n (n == "list")
 | _=>.bad
def mH:List D->R D
 | [d,.cls B]=>Rg B d
 | [d,.ty n]=>Rf n d
 | _=>.bad
theorem eG (h:(if c=true then R.ok (D.bl x) else .bad)=.ok (.bl k)):c=true/\x=k:=by
 cases c with
 | true=>cases h;exact ⟨rfl,rfl⟩
 | false=>cases h
theorem JQ (e:r=if b=true then R.ok (D.bl x) else .bad):(∃ d' c' k,[d,c]=[d',c']/\r=.ok (.bl k))\/r=.bad:=by
 subst e
 cases b with
 | true=>exact .inl ⟨_,_,_,rfl,rfl⟩
 | false=>exact .inr rfl
def mT (d:D):List D->R D
 | []=>.ok ↥56
 | c::r=>(mH [d,c]).bind fun x=>truth x (.ok ↥29) (mT d r)
def MS:List D->R D
 | [d,.tup cs]=>mT d cs
 | _=>.bad
def noOwn (δ:Dt):Dt:=δ.map fun c=>match c with | some (.own _)=>none | c=>c
def view (δ:Dt):Dt:=δ.map fun c=>match c with | some (.own ds)=>some ↥120 | c=>c
def EK:S:=.nx
def asg (i:Nat) (δ:Dt) (r:R D):O:=match r with
 | .ok d=>.nx ↥108
 | .ex C=>.ex C ↥113
 | .bad=>.bad
def xpr (δ:Dt) (r:R D):O:=match r with
 | .ok _=>.nx δ
 | .ex C=>.ex C ↥113
 | .bad=>.bad
def rtn (δ:Dt) (r:R D):O:=match r with
 | .ok d=>.rt d
 | .ex C=>.ex C ↥113
 | .bad=>.bad
def ifO (δ:Dt) (r:R D) (a b:O):O:=match r with
 | .ok ↥29=>a
 | .ok ↥56=>b
 | .ex C=>.ex C ↥113
 | _=>.bad
def assign (i:Nat) (g:E):S:=fun δ=>asg i δ (g δ)
def expr (g:E):S:=fun δ=>xpr δ (g δ)
def ret (g:E):S:=fun δ=>rtn δ (g δ)
def PY:S:=fun _=>.rt .non
def PX (g:E):S:=fun δ=>rtn δ (g ↥66)
def mO (i:Nat):S:=fun δ=>.nx (δ.set i (some (.own [])))
def jf (i:Nat) (δ:Dt) (f:List D->O):O:=match δ[i]? with
 | some (some (.own ds))=>f ds
 | _=>.bad
def GH (i:Nat) (δ:Dt) (ds:List D) (r:R D):O:=match r with
 | .ok d=>if D.flat d=true/\ds.length<100000 then .nx (δ.set i (some (.own (ds++[d])))) else .bad
 | .ex C=>.ex C ↥113
 | .bad=>.bad
def dj (i:Nat) (g:E):S:=fun δ=>jf i δ fun ds=>GH i δ ds (g ↥66)
def IZ (i:Nat):S:=fun δ=>jf i δ fun ds=>.nx (δ.set i (some (.own ds.reverse)))
def MT (i:Nat) (δ:Dt) (r:R D):O:=match r with
 | .ok d=>if D.flat d=true then .nx ↥108 else .bad
 | .ex C=>.ex C ↥113
 | .bad=>.bad
def Gu (i:Nat) (g:E):S:=fun δ=>MT i δ (g ↥66)
def KZ (c:E) (a b:S):S:=fun δ=>ifO δ (c ↥66) (a δ) (b δ)
def Cr (i:Nat) (δ:Dt) (r:R D):O:=match r with
 | .ok (.lst rs)=>.nx (δ.set i (some (.own rs)))
 | .ex C=>.ex C ↥113
 | _=>.bad
def dC (i:Nat) (g:E):S:=fun δ=>Cr i δ (g ↥66)
def om (i:Nat) (g:E):S:=fun δ=>Cr i δ (g δ)
def KR (i:Nat) (δ:Dt) (ds:List D) (v k:R D):O:=match v,k with
 | .ok d,.ok (.int k)=>if D.flat d=true/\0<=k/\k<ds.length then .nx (δ.set i (some (.own (ds.set k.toNat d)))) else .bad
 | _,_=>.bad
def IY (i:Nat) (gk gv:E):S:=fun δ=>jf i δ fun ds=>KR i δ ds (gv ↥66) (gk ↥66)
def pub (i:Nat) (δ:Dt):Dt:=match δ[i]? with
 | some (some (.own ds))=>δ.set i (some ↥120)
 | _=>δ
def zE (i:Nat) (s:S):S:=fun δ=>s (pub i δ)
def ifs (c:E) (a b:S):S:=fun δ=>ifO δ (c δ) (a δ) (b δ)
def O.then (o:O) (s:S):O:=match o with
 | .nx δ=>s δ
 | o=>o
def seq (a b:S):S:=fun δ=>(a δ).then b
def brk:S:=.bk
def cont:S:=.ct
def raise (C:String):S:=.mk C
def trn (o:O) (k:S):O:=match o with
 | .nx δ1=>k δ1
 | .ct δ1=>k δ1
 | .bk δ1=>.nx δ1
 | o=>o
def forL (i:Nat) (body:S):List D->S
 | [],δ=>.nx δ
 | d::ds,δ=>trn (body ↥108) (forL i body ds)
def ovL (δ:Dt) (r:R D) (k:List D->O):O:=match r with
 | .ok ↥120=>k ds
 | .ex C=>.ex C ↥113
 | _=>.bad
def ovT (δ:Dt) (r:R D) (k:List D->O):O:=match r with
 | .ok (.tup ds)=>k ds
 | .ex C=>.ex C ↥113
 | _=>.bad
def Mz (i:Nat) (g:E) (body:S):S:=fun δ=>ovL δ (g δ) fun ds=>forL i body ds δ
def Mx (i:Nat) (g:E) (body:S):S:=fun δ=>ovT δ (g δ) fun ds=>forL i body ds δ
def ovI (δ:Dt) (r:R (List D)) (k:List D->O):O:=match r with
 | .ok ds=>k ds
 | .ex C=>.ex C ↥113
 | .bad=>.bad
def CS (i:Nat) (it:IT) (body:S):S:=fun δ=>ovI δ (it δ) fun ds=>forL i body ds δ
def ovR (δ:Dt) (r:R D) (k:List D->O):O:=match r with
 | .ok (.int hi)=>if -(2^62)<=hi/\hi<2^62 then k (iY 0 hi) else .bad
 | .ex C=>.ex C ↥113
 | _=>.bad
def MA (i:Nat) (b:E) (body:S):S:=fun δ=>ovR δ (b δ) fun ds=>forL i body ds δ
def forget (i:Nat) (o:O):O:=match o with
 | .nx δ=>.nx (δ.set i none)
 | _=>.bad
def DQ (o:O) (B:String) (i:Nat) (suite:S):O:=match o with
 | .nx δ1=>.nx δ1
 | .ex C δ1=>if BM C B then forget i (suite ((noOwn δ1).set i (some (.exc C)))) else .bad
 | _=>.bad
def Pq (body:S) (B:String) (i:Nat) (suite:S):S:=fun δ=>DQ (body δ) B i suite
def O.res:O->R D
 | .rt d=>.ok d
 | .nx _=>.ok .non
 | .ex C _=>.ex C
 | .mk C _=>.ex C
 | .hx C _=>.ex C
 | _=>.bad
def start (n m:Nat) (ds:List D):Dt:=ds.map some++Û (m - n) none
def Good (f:List D->R D):Prop:=∀ ns:List Int,ns.length<=63->(∀ m∈ns,nb m<=2^20)->f [.lst (ns.map .int)]=.ok ↥29
def fn (n m:Nat) (body:S):List D->R D:=fun ds=>if ds.length=n then (body (start n m ds)).res else .bad
end EV
namespace ES
open PySem PySem.Spec PyProof.Rows L2 EV
def Ru (a C:Addr):HO:=.ext fun h=>∃ o vs,h.get? a=some o/\o.cls=.ref C/\o.data=.fields vs
mutual
inductive Rep (K:PySem.W.Frag) (mg:Str->Option Value) (H:Hp):V->D->Prop
 | non:Rep K mg H .non .non
 | bl (b:Bool):Rep K mg H (.bl b) (.bl b)
 | int (i:Int):Rep K mg H ↥123 ↥123
 | str (x:Str):Rep K mg H (.str x) (.str x)
 | tup {a:Addr} {xs:List V} {ds:List D}:SqT K H a xs->Reps K mg H xs ds->Rep K mg H ↥114 (.tup ds)
 | lst {a:Addr} {xs:List V} {ds:List D}:SqL K H a xs->Reps K mg H xs ds->Rep K mg H ↥114 ↥120
 | ty (n:String):Rep K mg H (.ty n) (.ty n)
 | cls {a:Addr} {n:String}:mg n=some ↥114->Rep K mg H ↥114 (.cls n)
 | exc {a C:Addr} {n:String}:mg n=some ↥52->H a=some (Ru a C)->Rep K mg H ↥114 (.exc n)
 | ins {a C dx:Addr} {n:String} {fs:List (Str×V)} {ds:List (String×D)}:mg n=some ↥52->H a=some (.ins C dx fs)->Repf K mg H fs ds->Rep K mg H ↥114 (.ins n ds)
inductive Reps (K:PySem.W.Frag) (mg:Str->Option Value) (H:Hp):List V->List D->Prop
 | nil:Reps K mg H [] []
 | cons {v:V} {d:D} {vs:List V} {ds:List D}:Rep K mg H v d->Reps K mg H vs ds->Reps K mg H (v::vs) (d::ds)
inductive Repf (K:PySem.W.Frag) (mg:Str->Option Value) (H:Hp):List (Str×V)->List (String×D)->Prop
 | nil:Repf K mg H [] []
 | cons {x:String} {v:V} {d:D} {vs:List (Str×V)} {ds:List (String×D)}:Rep K mg H v d->Repf K mg H vs ds->Repf K mg H (((x:Str),v)::vs) ((x,d)::ds)
end
theorem dI {K:PySem.W.Frag} {H H':Hp} {a:Addr} {xs:List V} (e:aq H H') (h:SqT K H a xs):SqT K H' a xs:=by
 rcases h with (h | ⟨o,h⟩) | h
 ·exact .inl (.inl (e _ _ h))
 ·exact .inl (.inr ⟨o,e _ _ h⟩)
 ·exact .inr h
section
variable {K:PySem.W.Frag} {mg:Str->Option Value} {H H':Hp}
mutual
theorem Rep.mono (s:aq H H'):∀ {v:V} {d:D},Rep K mg H v d->Rep K mg H' v d
 | _,_,.non=>.non
 | _,_,.bl b=>.bl b
 | _,_,.int i=>.int i
 | _,_,.str x=>.str x
 | _,_,.tup h r=>.tup (dI s h) (Reps.mono s r)
 | _,_,.lst h r=>.lst (s.seq h) (Reps.mono s r)
 | _,_,.ty n=>.ty n
 | _,_,.cls h=>.cls h
 | _,_,.exc h e=>.exc h (s _ _ e)
 | _,_,.ins h e r=>.ins h (s _ _ e) (Repf.mono s r)
theorem Reps.mono (s:aq H H'):∀ {vs:List V} {ds:List D},Reps K mg H vs ds->Reps K mg H' vs ds
 | _,_,.nil=>.nil
 | _,_,.cons r t=>.cons (Rep.mono s r) (Reps.mono s t)
theorem Repf.mono (s:aq H H'):∀ {vs:List (Str×V)} {ds:List (String×D)},Repf K mg H vs ds->Repf K mg H' vs ds
 | _,_,.nil=>.nil
 | _,_,.cons r t=>.cons (Rep.mono s r) (Repf.mono s t)
end
theorem Reps.length:∀ {vs:List V} {ds:List D},Reps K mg H vs ds->vs.length=ds.length
 | _,_,.nil=>rfl
 | _,_,.cons _ t=>congrArg (· + 1) (Reps.length t)
theorem Reps.get:∀ {vs:List V} {ds:List D} {i:Nat} {d:D},Reps K mg H vs ds->ds[i]? = some d->∃ v,vs[i]? = some v/\Rep K mg H v d
 | _,_,_,_,.nil,e=>by simp at e
 | _,_,0,_,.cons r _,e=>by simp at e;subst e;exact ⟨_,rfl,r⟩
 | _,_,i+1,d,.cons _ t,e=>by
  obtain ⟨v,h1,h2⟩:=Reps.get (i:=i) (d:=d) t (by simpa using e)
  exact ⟨v,by simpa using h1,h2⟩
theorem Reps.append:∀ {vs ws:List V} {ds es:List D},Reps K mg H vs ds->Reps K mg H ws es->Reps K mg H (vs++ws) (ds++es)
 | _,_,_,_,.nil,s=>s
 | _,_,_,_,.cons r t,s=>.cons r (Reps.append t s)
theorem Reps.take:∀ {vs:List V} {ds:List D} (n:Nat),Reps K mg H vs ds->Reps K mg H (vs.take n) (ds.take n)
 | _,_,0,_=>.nil
 | _,_,_+1,.nil=>.nil
 | _,_,n+1,.cons r t=>.cons r (Reps.take n t)
theorem Reps.drop:∀ {vs:List V} {ds:List D} (n:Nat),Reps K mg H vs ds->Reps K mg H (vs.drop n) (ds.drop n)
 | _,_,0,r=>r
 | _,_,_+1,.nil=>.nil
 | _,_,n+1,.cons _ t=>Reps.drop n t
theorem Reps.ints (ns:List Int):Reps K mg H (ns.map V.int) (ns.map D.int):=by
 induction ns with
 | nil=>exact .nil
 | cons n r ih=>exact .cons (.int n) ih
theorem lg {x y:String} (h:(Ø x)=Ø y):x=y:=by
 rw [Çf,Çf] at h
 have h1:(x.toList.map Ě).toArray=(y.toList.map Ě).toArray:=congrArg Str.cps h
 have h2:x.toList.map Ě=y.toList.map Ě:=by simpa using h1
 have h3:∀ (l m:List Char),l.map Ě=m.map Ě->l=m:=by
  intro l
  induction l with
  | nil=>intro m e;cases m with | nil=>rfl | cons _ _=>cases e
  | cons c r ih =>
   intro m e
   cases m with
   | nil=>cases e
   | cons c' r' =>
    rw [Ê,Ê,List.cons.injEq] at e
    rw [Char.ext (UInt32.toNat_inj.mp e.1),ih r' e.2]
 exact Äf.mp (h3 _ _ h2)
theorem p6 (x y:String):((Ø x) == Ø y)=(x == y):=by
 rw [œ,beq_iff_eq,beq_iff_eq]
 exact ⟨lg,fun e=>by rw [e]⟩
theorem Repf.lookup:∀ {fs:List (Str×V)} {ds:List (String×D)} {x:String} {d:D},Repf K mg H fs ds->ds.lookup x=some d->∃ v,fs.lookup (x:Str)=some v/\Rep K mg H v d
 | _,_,_,_,.nil,e=>by cases e
 | (_,v)::fs,(y,d')::ds,x,d,.cons r t,e=>by
  rw [î] at e ⊢
  rw [p6]
  cases q:(x == y) with
  | true =>
   rw [q] at e
   have e':d'=d:=by simpa using e
   subst e'
   exact ⟨v,rfl,r⟩
  | false=>rw [q] at e;exact Repf.lookup t e
theorem Repf.lookupN:∀ {fs:List (Str×V)} {ds:List (String×D)} {x:String},Repf K mg H fs ds->ds.lookup x=none->fs.lookup (x:Str)=none
 | _,_,_,.nil,e=>rfl
 | (_,v)::fs,(y,d')::ds,x,.cons r t,e=>by
  rw [î] at e ⊢
  rw [p6]
  cases q:(x == y) with
  | true=>rw [q] at e;cases e
  | false=>rw [q] at e;exact Repf.lookupN t e
end
def Stt (K:PySem.W.Frag) (mg:Str->Option Value) (H:Hp) (σ:L2.St) (δ:Dt):Prop :=
 σ.length=δ.length/\∀ (i:Nat) (d:D),δ[i]? = some (some d)->(∀ ds,d ≠ .own ds)->∃ v,σ[i]? = some (some v)/\Rep K mg H v d
theorem Stt.mono {K:PySem.W.Frag} {mg:Str->Option Value} {H H':Hp} {σ:L2.St} {δ:Dt} (h:Stt K mg H σ δ) (s:aq H H'):Stt K mg H' σ δ :=
 ⟨h.1,fun i d e n=>let ⟨v,a,b⟩:=h.2 i d e n;⟨v,a,b.mono s⟩⟩
theorem Stt.set {K:PySem.W.Frag} {mg:Str->Option Value} {H:Hp} {σ:L2.St} {δ:Dt} {i:Nat} {v:V} {d:D} (h:Stt K mg H σ δ) (r:Rep K mg H v d):Stt K mg H (σ.set i (some v)) ↥108:=by
 refine ⟨by rw [Ĕ,Ĕ];exact h.1,fun j d' e n => ?_⟩
 by_cases hj:j=i
 ·subst hj
  by_cases hl:j<δ.length
  ·rw [Ý hl] at e
   cases e
   exact ⟨v,by rw [Ý (by rw [h.1];exact hl)],r⟩
  ·rw [Ą (by simp;omega)] at e
   cases e
 ·rw [Ï ↥136] at e
  obtain ⟨u,a,b⟩:=h.2 j d' e n
  exact ⟨u,by rw [Ï ↥136];exact a,b⟩
structure FlyX (P:Program) (w:World) (outer:List Env) (H:Hp) (s:Shared) (C:Addr) (H':Hp) (ea:Addr) (s':Shared):Prop where
 os:s'.os=s.os
 bare:AllBare s'.gens
 un:Un (frs outer) [] H H' s.heap s'.heap
 hok:HOk P w H' s'.heap
 same:aq H H'
 new:s.heap.get? ea=none
 fly:∃ a0 B,Heap.FlyingW B outer ea ↥52 a0 s'.heap/\(∀ b o,s.heap.get? b=some o->H b=none->b∉frs outer->B.get? b=some o)/\(∀ b u o,H' b=some u->s'.heap.get? b=some o->B.get? b=some o)
def ew (X:Cx) (C:Addr) (σ:L2.St) (H':Hp):Prop:=∀ pins H s ea s',Inv X pins σ H s->FlyX X.prog X.w X.stack H s C H' ea s'->X.xe (.ref ea) s'
def em (X:Cx) (C:Addr) (σ:L2.St) (H':Hp):Prop:=∀ pins s h' ea vs,Inv X pins σ H' s->Heap.MadeExcOf s.heap h' ea ↥52 vs->X.xe (.ref ea) { s with heap:=h' }
structure HeldX (X:Cx) (pins:List ↥6) (σ:L2.St) (C:Addr) (H':Hp) (ea:Addr) (s':Shared):Prop where
 inv:Inv X pins σ H' s'
 new:X.s₀.heap.get? ea=none
 fly:∃ a0 B,Heap.HeldW B X.stack ea ↥52 a0 X.env.locals s'.heap/\(∀ b o,X.s₀.heap.get? b=some o->X.H₀ b=none->b∉X.fs->B.get? b=some o)/\(∀ b u o,H' b=some u->s'.heap.get? b=some o->B.get? b=some o)
def ehx (X:Cx) (C:Addr) (σ:L2.St) (H':Hp):Prop:=∀ pins ea s',HeldX X pins σ C H' ea s'->X.xe (.ref ea) s'
def RQ (X:Cx) (σ:L2.St) (H:Hp) (r:R D) (Q:VK):Prop:=match r with
 | .ok d=>∀ v H',aq H H'->Rep X.K X.mg H' v d->Q v H'
 | .ex C=>∀ Ca,X.mg C=some (.ref Ca)->∀ H',aq H H'->ew X Ca σ H'
 | .bad=>False
def tE (X:Cx) (g:E):TE:=fun σ H Q=>∃ δ,Stt X.K X.mg H σ δ/\RQ X σ H (g δ) Q
@[irreducible] def SE (X:Cx) (e:Expr) (g:E):Prop:=PE X e (tE X g)
def RT (X:Cx) (σ:L2.St) (H:Hp) (r:R D) (Q:Bool->Hp->Prop):Prop:=match r with
 | .ok (.bl b)=>∀ H',aq H H'->Q b H'
 | .ex C=>∀ Ca,X.mg C=some (.ref Ca)->∀ H',aq H H'->ew X Ca σ H'
 | _=>False
def tT (X:Cx) (g:E):TT:=fun σ H Q=>∃ δ,Stt X.K X.mg H σ δ/\RT X σ H (g δ) Q
@[irreducible] def ST (X:Cx) (e:Expr) (g:E):Prop:=PT X e (tT X g)
@[irreducible] def SW (X:Cx) (e:Expr) (g:E):Prop:=PW X e (tT X g)
def RA (X:Cx) (σ:L2.St) (H:Hp) (r:R (List D)) (Q:List V->Hp->Prop):Prop:=match r with
 | .ok ds=>∀ vs H',aq H H'->Reps X.K X.mg H' vs ds->Q vs H'
 | .ex C=>∀ Ca,X.mg C=some (.ref Ca)->∀ H',aq H H'->ew X Ca σ H'
 | .bad=>False
def tAs (X:Cx) (gs:List E):TA:=fun σ H Q=>∃ δ,Stt X.K X.mg H σ δ/\RA X σ H (evs gs δ) Q
@[irreducible] def SA (X:Cx) (es:List Expr) (gs:List E):Prop:=PA X es (tAs X gs)
unseal SE ST SW SA
section
variable {X:Cx} {σ:L2.St} {H H1:Hp}
theorem PE.weak (h:PE X e t) (w:∀ σ H Q,t' σ H Q->t σ H Q):PE X e t':=fun pins s σ H Q I q=>h pins s σ H Q I (w σ H Q q)
theorem PT.weak (h:PT X e t) (w:∀ σ H Q,t' σ H Q->t σ H Q):PT X e t':=fun pins s σ H Q I q=>h pins s σ H Q I (w σ H Q q)
theorem PW.weak (h:PW X e t) (w:∀ σ H Q,t' σ H Q->t σ H Q):PW X e t':=fun wh pins s σ H Q I q=>h wh pins s σ H Q I (w σ H Q q)
theorem PA.weak (h:PA X es t) (w:∀ σ H Q,t' σ H Q->t σ H Q):PA X es t':=fun pos pins s σ H Q I q=>h pos pins s σ H Q I (w σ H Q q)
theorem PS.weak {st:Stmt} {t t':TS} (h:PS X st t) (w:∀ D σ H,t' D σ H->t D σ H):PS X st t':=fun pins s σ H D I q=>h pins s σ H D I (w D σ H q)
theorem PSs.weak {st:List Stmt} {t t':TS} (h:PSs X st t) (w:∀ D σ H,t' D σ H->t D σ H):PSs X st t':=fun pins s σ H D I q=>h pins s σ H D I (w D σ H q)
theorem RQ.to (h:RQ X σ H r Q) (g:∀ v H',aq H H'->Q v H'->Q' v H'):RQ X σ H r Q':=by
 cases r with
 | ok d=>exact fun v H' s r=>g v H' s (h v H' s r)
 | ex C=>exact h
 | bad=>exact h
theorem RQ.mono (s:aq H H1) (h:RQ X σ H r Q):RQ X σ H1 r Q:=by
 cases r with
 | ok d=>exact fun v H' s' r=>h v H' (s.trans s') r
 | ex C=>exact fun Ca hc H' s'=>h Ca hc H' (s.trans s')
 | bad=>exact h
theorem RT.mono (s:aq H H1) (h:RT X σ H r Q):RT X σ H1 r Q:=by
 cases r with
 | ok d =>
  cases d with
  | bl b=>exact fun H' s'=>h H' (s.trans s')
  | _=>exact Å h
 | ex C=>exact fun Ca hc H' s'=>h Ca hc H' (s.trans s')
 | bad=>exact h
theorem RQ.bind (h:RQ X σ H (r.bind f) Q):RQ X σ H r (fun v H'=>aq H H'/\∃ d,Rep X.K X.mg H' v d/\RQ X σ H' (f d) Q):=by
 cases r with
 | ok d=>exact fun v H' s r=>⟨s,d,r,h.mono s⟩
 | ex C=>exact h
 | bad=>exact h
theorem RA.bind (h:RQ X σ H (r.bind f) Q):RA X σ H r (fun vs H'=>aq H H'/\∃ ds,Reps X.K X.mg H' vs ds/\RQ X σ H' (f ds) Q):=by
 cases r with
 | ok d=>exact fun v H' s r=>⟨s,d,r,h.mono s⟩
 | ex C=>exact h
 | bad=>exact h
theorem RT.bind (h:RT X σ H (r.bind f) Q):RQ X σ H r (fun v H'=>aq H H'/\∃ d,Rep X.K X.mg H' v d/\RT X σ H' (f d) Q):=by
 cases r with
 | ok d=>exact fun v H' s r=>⟨s,d,r,h.mono s⟩
 | ex C=>exact h
 | bad=>exact Å h
end
structure Sc (X:Cx) (N:List Str):Prop where
 n:X.N=N
 nd:N.Nodup
 vis:∀ x∈N,Vis X.env.scope x
 dbg:∀ x∈N,↥35=false/\(x == ("__classdict__":Str))=false
def Sto (X:Cx) (x:Str):Prop:=Loc X.env.scope x/\(X.fn x=true\/X.env.scope.names.lookup x=some .local)
structure Gb (X:Cx) (x:Str):Prop where
 g:X.env.scope.names.lookup x=some .globalImplicit
 d:↥35=false
 n:x≠"__name__"
section
variable {X:Cx} {N:List Str} {pos:Pos} {a b c e:Expr} {ga gb gc g:E}
theorem cY (S:Sc X N) (i:Nat) (hN:N[i]? = some x):SE X (.Name x pos) (var i):=by
 have hm:x∈N:=ê hN
 refine PE.weak (pV (i:=i) (by rw [S.n];exact hN) (S.vis x hm) (S.dbg x hm).1 (S.dbg x hm).2) fun σ H Q ⟨δ,hσ,h⟩ => ?_
 unfold var at h
 split at h
 ·exact Å h
 ·rename_i d _ hd
  obtain ⟨v,e,r⟩:=hσ.2 i d hd (by intro ds z;subst z;rename_i q;exact q ds rfl)
  exact ⟨v,e,h v H (aq.refl H) r⟩
 ·exact Å h
theorem su (h:PE X e (tC v)) (r:∀ H,Rep X.K X.mg H v d):SE X e (con d):=PE.weak h fun σ H Q ⟨δ,hσ,q⟩=>q _ H (aq.refl H) (r H)
theorem af {i j}:SE X (.Constant ↥123 j pos) (con ↥123):=su IQ fun _=>.int i
theorem K2 {b j}:SE X (.Constant (.bool b) j pos) (con (.bl b)):=su L9 fun _=>.bl b
theorem FZ {j}:SE X (.Constant .none j pos) (con .non):=su IP fun _=>.non
theorem dE {x j}:SE X (.Constant (.str x) j pos) (con (.str x)):=su CA fun _=>.str x
theorem iD (G:Gb X x) (h:∃ t,X.mg x=some (.int i t)):SE X (.Name x pos) (con ↥123):=by
 obtain ⟨t,h⟩:=h
 exact su (xr (v:=.int i) G.g h ⟨t,rfl⟩ G.d) fun _=>.int i
theorem MC (G:Gb X x) (h:X.mg x=none) (hv:bootBuiltins x=some (.type n)):SE X (.Name x pos) (con (.ty n)) :=
 su (EJ (v:=.ty n) G.g h hv rfl G.n G.d) fun _=>.ty n
def rD (X:Cx) (f:D->D->R D):R2:=fun x y H Q=>∃ dx dy d,Rep X.K X.mg H x dx/\Rep X.K X.mg H y dy/\f dx dy=.ok d/\∀ v H',aq H H'->Rep X.K X.mg H' v d->Q v H'
def jP (f:D->D->R D):Prop:=∀ x y C,f x y ≠ .ex C
theorem RQ.op (nx:jP f) (r1:Rep X.K X.mg H x dx) (r2:Rep X.K X.mg H y dy) (h:RQ X σ H (f dx dy) Q):rD X f x y H Q:=by
 cases e:f dx dy with
 | ok d=>rw [e] at h;exact ⟨dx,dy,d,r1,r2,e,h⟩
 | ex C=>exact absurd e (nx dx dy C)
 | bad=>rw [e] at h;exact Å h
theorem zd (h:tE X (EV.bin f ga gb) σ H Q):tE X ga σ H fun x H1=>tE X gb σ H1 fun y H2=>∃ dx dy,Rep X.K X.mg H2 x dx/\Rep X.K X.mg H2 y dy/\RQ X σ H2 (f dx dy) Q:=by
 obtain ⟨δ,hσ,h⟩:=h
 refine ⟨δ,hσ,(RQ.bind h).to fun x H1 s1 ⟨_,dx,r1,h1⟩ => ?_⟩
 refine ⟨δ,hσ.mono s1,(RQ.bind h1).to fun y H2 s2 ⟨_,dy,r2,h2⟩ => ?_⟩
 exact ⟨dx,dy,r1.mono s2,r2,h2⟩
theorem oK (nx:jP f) (ho:OpR X (binaryOp op) (rD X f)) (ha:SE X a ga) (hb:SE X b gb):SE X (.BinOp a op b pos) (EV.bin f ga gb) :=
 PE.weak (L7 ho ha hb) fun σ H Q h=>by
  obtain ⟨δ,hσ,q⟩:=zd h
  refine ⟨δ,hσ,q.to fun x H1 s1 ⟨δ1,hσ1,q1⟩=>⟨δ1,hσ1,q1.to fun y H2 s2 ⟨dx,dy,r1,r2,q2⟩=>RQ.op nx r1 r2 q2⟩⟩
theorem BP (nx:jP f) (ho:OpR X (compareOp op) (rD X f)) (ha:SE X a ga) (hb:SE X b gb) (hm:behindInMarks op b=false):SE X (.Compare a [op] [b] pos) (EV.bin f ga gb) :=
 PE.weak (EI ho ha hb hm) fun σ H Q h=>by
  obtain ⟨δ,hσ,q⟩:=zd h
  refine ⟨δ,hσ,q.to fun x H1 s1 ⟨δ1,hσ1,q1⟩=>⟨δ1,hσ1,q1.to fun y H2 s2 ⟨dx,dy,r1,r2,q2⟩=>RQ.op nx r1 r2 q2⟩⟩
theorem Ge (h:tT X (EV.bin f ga gb) σ H Q):tE X ga σ H fun x H1=>tE X gb σ H1 fun y H2=>∃ dx dy,Rep X.K X.mg H2 x dx/\Rep X.K X.mg H2 y dy/\RT X σ H2 (f dx dy) Q:=by
 obtain ⟨δ,hσ,h⟩:=h
 refine ⟨δ,hσ,(RT.bind h).to fun x H1 s1 ⟨_,dx,r1,h1⟩ => ?_⟩
 refine ⟨δ,hσ.mono s1,(RT.bind h1).to fun y H2 s2 ⟨_,dy,r2,h2⟩ => ?_⟩
 exact ⟨dx,dy,r1.mono s2,r2,h2⟩
theorem RT.op (nx:jP f) (r1:Rep X.K X.mg H x dx) (r2:Rep X.K X.mg H y dy) (h:RT X σ H (f dx dy) Q):rD X f x y H fun v H'=>∃ k,v=.bl k/\Q k H':=by
 cases e:f dx dy with
 | ok d =>
  rw [e] at h
  cases d with
  | bl k=>exact ⟨dx,dy,_,r1,r2,e,fun v H' s r=>by cases r;exact ⟨k,rfl,h H' s⟩⟩
  | _=>exact Å h
 | ex C=>exact absurd e (nx dx dy C)
 | bad=>rw [e] at h;exact Å h
theorem qY (nx:jP f) (ho:OpR X (compareOp op) (rD X f)) (ha:SE X a ga) (hb:SE X b gb) (hm:behindInMarks op b=false):ST X (.Compare a [op] [b] pos) (EV.bin f ga gb) :=
 PT.weak (xi ho ha hb hm) fun σ H Q h=>by
  obtain ⟨δ,hσ,q⟩:=Ge h
  refine ⟨δ,hσ,q.to fun x H1 s1 ⟨δ1,hσ1,q1⟩=>⟨δ1,hσ1,q1.to fun y H2 s2 ⟨dx,dy,r1,r2,q2⟩=>RT.op nx r1 r2 q2⟩⟩
theorem tR {F:Value->Value->Sem Value} {f:D->D->R D} {C:Int->Int->Prop} {g:Int->Int->Int} (ho:OpR X F (rI C fun i j=>.int (g i j)))
  (hf:∀ dx dy d,f dx dy=.ok d->∃ i j,dx=.int i/\dy=.int j/\C i j/\d=.int (g i j)):OpR X F (rD X f):=by
 intro pins s σ H x y v u Q I rx ry ⟨dx,dy,d,r1,r2,e,q⟩
 obtain ⟨i,j,rfl,rfl,hc,rfl⟩:=hf dx dy d e
 cases r1
 cases r2
 exact ho pins s σ H _ _ v u Q I rx ry ⟨i,j,rfl,rfl,hc,q _ _ ↥24 (.int _)⟩
theorem rF {F:Value->Value->Sem Value} {f:D->D->R D} {g:Int->Int->Int} (ho:OpR X F (rI0 fun i j=>.int (g i j)))
  (hf:∀ dx dy d,f dx dy=.ok d->∃ i j,dx=.int i/\dy=.int j/\d=.int (g i j)):OpR X F (rD X f):=by
 intro pins s σ H x y v u Q I rx ry ⟨dx,dy,d,r1,r2,e,q⟩
 obtain ⟨i,j,rfl,rfl,rfl⟩:=hf dx dy d e
 cases r1
 cases r2
 exact ho pins s σ H _ _ v u Q I rx ry ⟨i,j,rfl,rfl,q _ _ ↥24 (.int _)⟩
theorem tU {F:Value->Value->Sem Value} {f:D->D->R D} {g:Int->Int->Bool} (ho:OpR X F (rI0 fun i j=>.bl (g i j)))
  (hf:∀ dx dy d,f dx dy=.ok d->∃ i j,dx=.int i/\dy=.int j/\d=.bl (g i j)):OpR X F (rD X f):=by
 intro pins s σ H x y v u Q I rx ry ⟨dx,dy,d,r1,r2,e,q⟩
 obtain ⟨i,j,rfl,rfl,rfl⟩:=hf dx dy d e
 cases r1
 cases r2
 exact ho pins s σ H _ _ v u Q I rx ry ⟨i,j,rfl,rfl,q _ _ ↥24 (.bl _)⟩
end
theorem xY (i:Int):nb i=ŧ i:=by
 unfold nb ŧ
 by_cases h:i=0
 ·rw [if_pos h,if_pos (by rw [h];rfl)]
 ·rw [if_neg h,if_neg (by simpa using h)]
theorem Bp {i j:Int} (h:MulOk i j):IntMulOk i j:=IntMulOk.of_le (m:=nb i) (n:=nb j) (Ń (xY i).symm) (Ń (xY j).symm) h
def LO (K:PySem.W.Frag):R2:=fun x y H Q=>∃ a b xs ys,x=.ref a/\y=.ref b/\SqL K H a xs/\SqL K H b ys/\xs.length+ys.length<=sizeLine/\∀ p,H p=none->Q (.ref p) (upd H p (.lst (xs++ys)))
section
variable {X:Cx}
theorem aL (h:H p=none) (o:HO):aq H (upd H p o):=fun b u q=>by rw [ar (b9 q h)];exact q
theorem yk (l b:Addr) (xs ys:Array Value) (n m:Nat) (d1 d2:Option Addr) (s1 s2:Array ↥107) (hz:xs.size+ys.size<=sizeLine) :
  Meets (Builtin.«list.__add__» ⟨[.ref l,.ref b],[]⟩) (fun _ R s=>s.heap.get? l=some { cls:=.type "list",dict:=d1,data:=.seq xs n,slots:=s1 }/\s.heap.get? b=some { cls:=.type "list",dict:=d2,data:=.seq ys m,slots:=s2 } /\
   R (.ok (.ret (â s.heap.objs.size))) { s with heap:=s.heap.push { cls:=.type "list",data:=.seq (xs++ys) } }) :=
 .of_wp fun prog w A R s h=>by
  obtain ⟨hp,g,dd,tk,os⟩:=s
  obtain ⟨ha,hb,h⟩:=h
  have f3:=AutoSeq1.sub_list_list
  wp_walk using Ŋ ha,Ŋ hb
  exact ⟨_,rfl,h⟩
theorem EX:OpR X (binaryOp .Add) (LO X.K):=by
 intro pins s σ H x y v u Q I rx ry h
 obtain ⟨l,b,xs,zs,rfl,rfl,hH,hB,hz,q⟩:=h
 cases rx
 cases ry
 obtain ⟨its,r,⟨⟨c1,d1,t1,s1⟩,n,e,g1,g2,g3⟩,_⟩:=I.list hH
 obtain ⟨its2,r2,⟨⟨c2,d2,t2,s2⟩,n2,e2,k1,k2,k3⟩,_⟩:=I.list hB
 simp only at g1 g2 g3 k1 k2 k3
 subst g1 g2 g3 k1 k2 k3
 have hl:=r.length
 have hl2:=r2.length
 refine concat_meets ⟨_,e,rfl⟩ ⟨_,e2,rfl⟩ noFill_list_add seq_list_add F.slot_list_add F.entry_list_add (F.args_list_add_2 _ _) (yk l b its.toArray its2.toArray n n2 _ _ _ _ (by rw [Ì,Ì];omega)) ⟨e,e2,?_⟩
 have ea:its.toArray++its2.toArray=(its++its2).toArray:=by simp
 rw [ea]
 exact ⟨.ref _,_,I.lnew (t':=s.toks) (r.append r2) (by rw [Æ];omega),rfl,q _ I.fresh⟩
theorem fD [Decidable c]:(if c then R.ok d else R.bad)≠R.ex C:=by split<;>exact fun z=>nomatch z
theorem Mq:jP bH:=fun x y C z=>by unfold bH at z;split at z<;>first | cases z | exact fD z
theorem EY:OpR X (binaryOp .Add) (rD X bH):=by
 intro pins s σ H x y v u Q I rx ry ⟨dx,dy,d,r1,r2,e,q⟩
 unfold bH at e
 split at e
 ·cases e;cases r1;cases r2
  exact Jm pins s σ H _ _ v u Q I rx ry ⟨_,_,rfl,rfl,q _ _ ↥24 (.int _)⟩
 ·split at e
  ·rename_i hz
   cases e;cases r1;cases r2
   exact vm pins s σ H _ _ v u Q I rx ry ⟨_,_,rfl,rfl,Ð hz (by rw [sizeLine_eq];decide),q _ _ ↥24 (.str _)⟩
  ·cases e
 ·split at e
  ·rename_i hz
   cases e;cases r1;cases r2
   rename_i a xs h1 r1 b ys h2 r2
   exact EX pins s σ H _ _ v u Q I rx ry ⟨a,b,xs,ys,rfl,rfl,h1,h2,by rw [r1.length,r2.length];exact Ð hz (by rw [sizeLine_eq];decide),fun p hp=>q _ _ ↥127 (.lst (SqL.of au) ((r1.append r2).mono ↥127))⟩
  ·cases e
 ·split at e
  ·rename_i hz
   cases e;cases r1;cases r2
   rename_i a xs h1 r1 b ys h2 r2
   refine EW pins s σ H _ _ v u Q I rx ry ⟨a,b,xs,ys,rfl,rfl,h1,h2,fun z=>hz.1 ?_,by rw [r1.length,r2.length];exact Ð hz.2 (by rw [sizeLine_eq];decide),fun z=>q _ _ ↥24 ?_,fun _ p hp=>q _ _ ↥127 (.tup (SqT.of au) ((r1.append r2).mono ↥127))⟩
   ·subst z
    cases r1;rfl
   ·subst z
    cases r2
    rw [ĭ]
    exact .tup h1 r1
  ·cases e
 ·cases e
theorem Mh:jP dY:=fun x y C z=>by unfold dY at z;split at z<;>cases z
theorem EM:OpR X (binaryOp .Sub) (rD X dY):=rF Jg fun dx dy d e=>by
 unfold dY at e;split at e
 ·cases e;exact ⟨_,_,rfl,rfl,rfl⟩
 ·cases e
theorem Ml:jP eY:=fun x y C z=>by unfold eY at z;split at z<;>first | cases z | exact fD z
theorem ER:OpR X (binaryOp .Mult) (rD X eY):=tR (C:=IntMulOk) (opI fun _ _ _ _ _ _ _ hc q=>mul_int q hc) fun dx dy d e=>by
 unfold eY at e;split at e
 ·split at e
  ·rename_i h;cases e;exact ⟨_,_,rfl,rfl,Bp h,rfl⟩
  ·cases e
 ·cases e
theorem Mo:jP oDiv:=fun x y C z=>by unfold oDiv at z;split at z<;>first | cases z | exact fD z
theorem QT (h:iX i j):Builtin.divisionGoesByPylong i j=false:=by
 obtain ⟨h0,h⟩:=h
 show (decide ((if j == 0 then 0 else j.natAbs.log2 / 30+1)>300)&&decide ((if i == 0 then 0 else i.natAbs.log2 / 30+1)>(if j == 0 then 0 else j.natAbs.log2 / 30+1)+150))=false
 have ej:(j == 0)=false:=by simp;omega
 unfold nb at h
 rw [if_neg (by omega:¬ j=0)] at h
 rw [ej]
 simp only [Ô,if_false]
 rw [Bool.and_eq_false_iff,decide_eq_false_iff_not,decide_eq_false_iff_not]
 by_cases hi:i=0
 ·rw [if_pos (by simp [hi])];omega
 ·rw [if_neg (by simp [hi])]
  rw [if_neg hi] at h
  omega
theorem EU:OpR X (binaryOp .FloorDiv) (rD X oDiv):=tR (C:=iX) (g:=fun i j=>i / j) (opI fun i j _ _ _ _ _ hc q=>by
  have h1:(0:Int)<j:=hc.1
  exact floordiv_int ⋯ (by rw [Int.fdiv_eq_ediv_of_nonneg i ⋯];exact q) (.inl (QT hc))) fun dx dy d e=>by
 unfold oDiv at e;split at e
 ·split at e
  ·rename_i h;cases e;exact ⟨_,_,rfl,rfl,h,rfl⟩
  ·cases e
 ·cases e
theorem Mm:jP oMod:=fun x y C z=>by unfold oMod at z;split at z<;>first | cases z | exact fD z
theorem ET:OpR X (binaryOp .Mod) (rD X oMod):=tR (C:=fun _ j=>0<j) (g:=fun i j=>i%j) Ji fun dx dy d e=>by
 unfold oMod at e;split at e
 ·split at e
  ·rename_i h;cases e;exact ⟨_,_,rfl,rfl,h,rfl⟩
  ·cases e
 ·cases e
theorem Mi:jP gf:=fun x y C z=>by unfold gf at z;split at z<;>first | cases z | exact fD z
theorem EN:OpR X (binaryOp .LShift) (rD X gf):=tR (C:=fun i j=>0<=j/\(nb i:Int)+j<=134217728) (g:=fun i j=>i*pw j) (opI fun _ _ _ _ _ _ _ hc q=>lshift_int hc.1 (by rw [<- xY];exact hc.2) q) fun dx dy d e=>by
 unfold gf at e;split at e
 ·split at e
  ·rename_i h;cases e;exact ⟨_,_,rfl,rfl,h,rfl⟩
  ·cases e
 ·cases e
theorem Jt:jP p9:=fun x y C z=>by unfold p9 at z;split at z<;>first | cases z | exact fD z
theorem Js:jP rK:=fun x y C z=>by unfold rK at z;split at z<;>first | cases z | exact fD z
theorem zg (hi:0<=i) (hj:0<=j):Builtin.bitAnd i j=((i.toNat &&& j.toNat:Nat):Int):=by
 unfold Builtin.bitAnd
 rw [decide_eq_true hi,decide_eq_true hj]
theorem Ks (hi:0<=i) (hj:0<=j):Builtin.bitOr i j=((i.toNat ||| j.toNat:Nat):Int):=by
 unfold Builtin.bitOr Builtin.bitAnd Builtin.bitNot
 have h1:decide (0 <= -i - 1)=false:=decide_eq_false ⋯
 have h2:decide (0 <= -j - 1)=false:=decide_eq_false ⋯
 rw [h1,h2]
 dsimp only
 rw [show -(-i - 1) - 1=i by omega,show -(-j - 1) - 1=j by omega]
 omega
theorem vk (x:Nat):∀ y:Nat,x ||| y=(x ^^^ y)+(x &&& y):=by
 induction x using Nat.strongRecOn with
 | ind x ih =>
  intro y
  by_cases h0:x=0
  ·subst h0;simp
  ·have z:=ih (x / 2) ⋯ (y / 2)
   rw [<- Nat.or_div_two,<-Nat.xor_div_two,<-Nat.and_div_two] at z
   have m1 := @Nat.or_mod_two_eq_one x y
   have m2 := @Nat.xor_mod_two_eq_one x y
   have m3 := @Nat.and_mod_two_eq_one x y
   omega
theorem F8 (hi:0<=i) (hj:0<=j):Builtin.bitXor i j=((i.toNat ^^^ j.toNat:Nat):Int):=by
 unfold Builtin.bitXor
 rw [Ks hi hj,zg hi hj]
 have h:i.toNat ||| j.toNat=(i.toNat ^^^ j.toNat)+(i.toNat &&& j.toNat):=vk _ _
 omega
theorem AX:OpR X (binaryOp .BitAnd) (rD X p9):=rF Jl fun dx dy d e=>by
 unfold p9 at e;split at e
 ·split at e
  ·rename_i h;cases e;exact ⟨_,_,rfl,rfl,by rw [zg h.1 h.2]⟩
  ·cases e
 ·cases e
theorem AW:OpR X (binaryOp .BitXor) (rD X rK):=rF Jf fun dx dy d e=>by
 unfold rK at e;split at e
 ·split at e
  ·rename_i h;cases e;exact ⟨_,_,rfl,rfl,by rw [F8 h.1 h.2]⟩
  ·cases e
 ·cases e
theorem KY:jP oLt:=fun x y C z=>by unfold oLt at z;split at z<;>cases z
theorem O9:jP oLe:=fun x y C z=>by unfold oLe at z;split at z<;>cases z
theorem QS:jP oGt:=fun x y C z=>by unfold oGt at z;split at z<;>cases z
theorem Pb:jP oGe:=fun x y C z=>by unfold oGe at z;split at z<;>cases z
theorem tV:OpR X (compareOp .Lt) (rD X oLt):=tU Mc fun dx dy d e=>by
 unfold oLt at e;split at e
 ·cases e;exact ⟨_,_,rfl,rfl,rfl⟩
 ·cases e
theorem CD:OpR X (compareOp .LtE) (rD X oLe):=tU Md fun dx dy d e=>by
 unfold oLe at e;split at e
 ·cases e;exact ⟨_,_,rfl,rfl,rfl⟩
 ·cases e
theorem Jk:OpR X (compareOp .Gt) (rD X oGt):=tU Me fun dx dy d e=>by
 unfold oGt at e;split at e
 ·cases e;exact ⟨_,_,rfl,rfl,rfl⟩
 ·cases e
theorem CI:OpR X (compareOp .GtE) (rD X oGe):=tU Mf fun dx dy d e=>by
 unfold oGe at e;split at e
 ·cases e;exact ⟨_,_,rfl,rfl,rfl⟩
 ·cases e
end
section
variable {X:Cx} {pos:Pos} {a b c e:Expr} {ga gb gc g:E}
theorem aF (ha:SE X a ga) (hb:SE X b gb):SE X (.BinOp a .Add b pos) (EV.bin bH ga gb):=oK Mq EY ha hb
theorem b7 (ha:SE X a ga) (hb:SE X b gb):SE X (.BinOp a .Sub b pos) (EV.bin dY ga gb):=oK Mh EM ha hb
theorem cN (ha:SE X a ga) (hb:SE X b gb):SE X (.BinOp a .Mult b pos) (EV.bin eY ga gb):=oK Ml ER ha hb
theorem dS (ha:SE X a ga) (hb:SE X b gb):SE X (.BinOp a .FloorDiv b pos) (EV.bin oDiv ga gb):=oK Mo EU ha hb
theorem aZ (ha:SE X a ga) (hb:SE X b gb):SE X (.BinOp a .Mod b pos) (EV.bin oMod ga gb):=oK Mm ET ha hb
theorem gE (ha:SE X a ga) (hb:SE X b gb):SE X (.BinOp a .LShift b pos) (EV.bin gf ga gb):=oK Mi EN ha hb
theorem Kk (ha:SE X a ga) (hb:SE X b gb):SE X (.BinOp a .BitAnd b pos) (EV.bin p9 ga gb):=oK Jt AX ha hb
theorem Kj (ha:SE X a ga) (hb:SE X b gb):SE X (.BinOp a .BitXor b pos) (EV.bin rK ga gb):=oK Js AW ha hb
theorem Rw (ha:SE X a ga) (hb:SE X b gb):SE X (.Compare a [.Lt] [b] pos) (EV.bin oLt ga gb):=BP KY tV ha hb (ir _)
theorem Rx (ha:SE X a ga) (hb:SE X b gb):SE X (.Compare a [.GtE] [b] pos) (EV.bin oGe ga gb):=BP Pb CI ha hb (ir _)
theorem wF (ha:SE X a ga) (hb:SE X b gb):ST X (.Compare a [.Lt] [b] pos) (EV.bin oLt ga gb):=qY KY tV ha hb (ir _)
theorem GL (ha:SE X a ga) (hb:SE X b gb):ST X (.Compare a [.Gt] [b] pos) (EV.bin oGt ga gb):=qY QS Jk ha hb (ir _)
theorem KQ (ha:SE X a ga) (hb:SE X b gb):ST X (.Compare a [.GtE] [b] pos) (EV.bin oGe ga gb):=qY Pb CI ha hb (ir _)
theorem Kh (ha:SE X a ga):SE X (.UnaryOp .USub a pos) (un Jn ga) :=
 PE.weak (LY Hm ha) fun σ H Q ⟨δ,hσ,h⟩=>⟨δ,hσ,(RQ.bind h).to fun v H1 s1 ⟨_,d,r,q⟩=>by
  unfold Jn at q
  split at q
  ·cases r;exact ⟨_,rfl,q _ _ ↥24 (.int _)⟩
  ·exact Å q⟩
end
end ES
namespace ES
open PySem PySem.Spec PyProof.Rows L2 EV
unseal SE ST SW SA
mutual
def py:D->PyData
 | .non=>.none
 | .bl b=>.bool b
 | .int i=>.int i
 | .str x=>.str x
 | .tup ds=>.tuple (pys ds)
 | .lst ds=>.list (pys ds)
 | _=>.dict []
def pys:List D->List PyData
 | []=>[]
 | d::r=>py d::pys r
end
section
variable {X:Cx} {pins:List ↥6} {σ:L2.St} {H:Hp} {s:Shared}
mutual
theorem oh (I:Inv X pins σ H s):∀ {v:V} {d:D} {u:Value},(py d).canLay0=true->Rep X.K X.mg H v d->RelV v u->∃ as,Reads s.heap u (py d) as
 | _,_,u,_,.non,r=>by cases r;exact ⟨_,.none⟩
 | _,_,u,_,.bl b,r=>by cases r;exact ⟨_,.bool b⟩
 | _,_,u,_,.int i,r=>by obtain ⟨t,rfl⟩:=r;exact ⟨_,.int i t⟩
 | _,_,u,_,.str x,r=>by obtain ⟨t,rfl⟩:=r;exact ⟨_,.str x t⟩
 | _,.tup ds,u,hc,.tup hq rs,r=>by
  cases r
  obtain ⟨its,rv,⟨o,h1,h2,n,h3⟩,_⟩:=I.tuple hq
  obtain ⟨as,ra⟩:=gU I (by simpa [py,Ĩ] using hc) rs rv
  exact ⟨_,.tuple h1 h2 h3 (by simpa using ra)⟩
 | _,.lst ds,u,hc,.lst hq rs,r=>by
  cases r
  obtain ⟨its,rv,⟨o,n,h1,h2,_,h3⟩,_⟩:=I.list hq
  obtain ⟨as,ra⟩:=gU I (by simpa [py,Ĩ] using hc) rs rv
  exact ⟨_,.list h1 h2 h3 (by simpa using ra)⟩
 | _,.ty n,u,hc,_,_=>by simp [py,Ĩ] at hc
 | _,.cls a,u,hc,_,_=>by simp [py,Ĩ] at hc
 | _,.exc a,u,hc,_,_=>by simp [py,Ĩ] at hc
 | _,.ins a b,u,hc,_,_=>by simp [py,Ĩ] at hc
theorem gU (I:Inv X pins σ H s):∀ {vs:List V} {ds:List D} {us:List Value},Ś (pys ds)=true->Reps X.K X.mg H vs ds->Vals vs us->∃ as,ReadsAll s.heap us (pys ds) as
 | _,_,_,_,.nil,r=>by cases r;exact ⟨_,.nil⟩
 | _,dd::dr,_,hc,.cons r t,q=>by
  cases q with
  | cons q1 q2 =>
   have hc':PyData.canLay0 (py dd)=true/\Ś (pys dr)=true:=by simpa [pys,Ś] using hc
   obtain ⟨a1,r1⟩:=oh I hc'.1 r q1
   obtain ⟨a2,r2⟩:=gU I hc'.2 t q2
   exact ⟨_,.cons r1 r2⟩
end
end
mutual
theorem xo:∀ (n:Nat) (d:D),D.pl n d=true->(py d).canLay0=true/\(py d).depth<=n
 | _,.non,_=>⟨rfl,Ā _⟩
 | _,.bl _,_=>⟨rfl,Ā _⟩
 | _,.int _,_=>⟨rfl,Ā _⟩
 | _,.str x,h=>⟨by simpa [py,Ĩ,PyData.strOk,D.pl] using h,Ā _⟩
 | 0,.tup _,h=>by simp [D.pl] at h
 | 0,.lst _,h=>by simp [D.pl] at h
 | n+1,.tup ds,h=>by
  have z:=rB n ds (by simpa [D.pl] using h)
  exact ⟨by simpa [py,Ĩ] using z.1,by simp only [py,PyData.depth];omega⟩
 | n+1,.lst ds,h=>by
  have z:=rB n ds (by simpa [D.pl] using h)
  exact ⟨by simpa [py,Ĩ] using z.1,by simp only [py,PyData.depth];omega⟩
 | n,.own _,h=>by cases n<;>simp [D.pl] at h
 | n,.ty _,h=>by cases n<;>simp [D.pl] at h
 | n,.cls _,h=>by cases n<;>simp [D.pl] at h
 | n,.exc _,h=>by cases n<;>simp [D.pl] at h
 | n,.ins _ _,h=>by cases n<;>simp [D.pl] at h
theorem rB:∀ (n:Nat) (ds:List D),(∀ d∈ds,D.pl n d=true)->Ś (pys ds)=true/\PyData.depthAll (pys ds)<=n
 | _,[],_=>⟨rfl,Ā _⟩
 | n,d::r,h=>by
  have z1:=xo n d (h d (.head _))
  have z2:=rB n r (fun x hx=>h x (.tail _ hx))
  exact ⟨by simp [pys,Ś,z1.1,z2.1],by simp only [pys,PyData.depthAll];omega⟩
end
mutual
theorem ze:∀ (n:Nat) (a b:D),D.pl n a=true->D.pl n b=true->D.beq a b=PyData.eqv (py a) (py b)
 | n,a,b,ha,hb=>by
  cases a<;>cases b<;>first
   | rfl
   | (cases n<;>simp [D.pl] at ha;done)
   | (cases n<;>simp [D.pl] at hb;done)
   | skip
  all_goals cases n with
   | zero=>simp [D.pl] at ha
   | succ n =>
    simp only [D.beq,py,PyData.eqv]
    exact uA n _ _ (by simpa [D.pl] using ha) (by simpa [D.pl] using hb)
theorem uA:∀ (n:Nat) (as bs:List D),(∀ d∈as,D.pl n d=true)->(∀ d∈bs,D.pl n d=true)->D.beqs as bs=PyData.eqvAll (pys as) (pys bs)
 | _,[],[],_,_=>rfl
 | _,[],_::_,_,_=>rfl
 | _,_::_,[],_,_=>rfl
 | n,a::as,b::bs,ha,hb=>by
  simp only [D.beqs,pys,PyData.eqvAll]
  rw [ze n a b (ha a (.head _)) (hb b (.head _)),uA n as bs (fun x hx=>ha x (.tail _ hx)) (fun x hx=>hb x (.tail _ hx))]
end
section
variable {X:Cx}
theorem Pc:jP oEq:=fun x y C z=>by unfold oEq at z;exact fD z
theorem QQ:jP oNe:=fun x y C z=>by unfold oNe at z;exact fD z
theorem MO (r1:Rep X.K X.mg H x dx) (r2:Rep X.K X.mg H y dy) (sx:dx.sc=true) (sy:dy.sc=true) (n:KS x y=true):decide (x=y)=D.beq dx dy:=by
 cases r1<;>cases sx<;>cases r2<;>cases sy<;>first
  | exact absurd (show false=true from n) Í
  | exact sC
  | exact yT
  | exact sA
  | (simp [D.beq];done)
theorem yK (n:Bool) (hu:X.A.units+64<cLine) (I:Inv X pins σ H s) (rx:RelV x v) (ry:RelV y u) (r1:Rep X.K X.mg H x dx) (r2:Rep X.K X.mg H y dy)
  (hc:D.cmp dx dy=true) (q:Q (.bl (xor n (D.beq dx dy))) H):wpAny ↥4 X.A (compareOp (if n then .NotEq else .Eq) v u) ↥70 X.xe s:=by
 unfold D.cmp at hc
 by_cases hp:(D.pl 8 dx&&D.pl 8 dy)=true
 ·rw [ò] at hp
  obtain ⟨l1,d1⟩:=xo 8 dx hp.1
  obtain ⟨l2,d2⟩:=xo 8 dy hp.2
  obtain ⟨as,ra⟩:=oh I l1 r1 rx
  obtain ⟨bs,rb⟩:=oh I l2 r2 ry
  have e:=ze 8 dx dy hp.1 hp.2
  cases n with
  | false =>
   refine (SeqAt.rcAt_reads ra rb l1 l2 ⋯ X.prog X.w X.xe _ ?_:wpAny ↥4 X.A (compareOp .Eq v u) _ _ _)
   exact dR I q (by rw [Ş,e])
  | true =>
   refine (SeqAt.rcNeAt_reads ra rb l1 l2 ⋯ X.prog X.w X.xe _ ?_:wpAny ↥4 X.A (compareOp .NotEq v u) _ _ _)
   exact dR I q (by rw [ū,e])
 ·have hs:(dx.sc&&dy.sc)=true:=by
   rw [Bool.or_eq_true] at hc
   exact hc.resolve_right hp
  rw [ò] at hs
  have hsc:KS x y=true:=by
   cases r1<;>cases (hs.1)<;>cases r2<;>cases (hs.2)<;>first | rfl | exact absurd rfl hp
  have e:=MO r1 r2 hs.1 hs.2 hsc
  cases n with
  | false=>exact Mg pins s σ H x y v u Q I rx ry ⟨hsc,by rw [e];rw [Ş] at q;exact q⟩
  | true=>exact Mb pins s σ H x y v u Q I rx ry ⟨hsc,by rw [e];rw [ū] at q;exact q⟩
theorem CJ (hu:X.A.units+64<cLine):OpR X (compareOp .Eq) (rD X oEq):=by
 intro pins s σ H x y v u Q I rx ry ⟨dx,dy,d,r1,r2,e,q⟩
 unfold oEq at e
 split at e
 ·rename_i hc
  cases e
  exact yK false hu I rx ry r1 r2 hc (by rw [Ş];exact q _ _ ↥24 (.bl _))
 ·cases e
theorem Jh (hu:X.A.units+64<cLine):OpR X (compareOp .NotEq) (rD X oNe):=by
 intro pins s σ H x y v u Q I rx ry ⟨dx,dy,d,r1,r2,e,q⟩
 unfold oNe at e
 split at e
 ·rename_i hc
  cases e
  exact yK true hu I rx ry r1 r2 hc (by rw [ū];exact q _ _ ↥24 (.bl _))
 ·cases e
theorem nV (r:Rep X.K X.mg H x d) (h:d.sc=true):mB x=true:=by cases r<;>first | rfl | cases h
theorem kI:∀ {xs:List V} {ds:List D},Reps X.K X.mg H xs ds->ds.all D.sc=true->xs.all mB=true
 | _,_,.nil,_=>rfl
 | _,_,.cons r t,h=>by
  rw [ĵ,ò] at h
  rw [ĵ,nV r h.1,kI t h.2];rfl
theorem FV (r1:Rep X.K X.mg H x dx) (r2:Rep X.K X.mg H y dy) (sx:dx.sc=true) (sy:dy.sc=true):eqV x y=D.beq dx dy:=by
 cases r1<;>cases sx<;>cases r2<;>cases sy<;>rfl
theorem yx (r:Rep X.K X.mg H x dx) (sx:dx.sc=true):∀ {xs:List V} {ds:List D},Reps X.K X.mg H xs ds->ds.all D.sc=true->inV x xs=ds.any fun y=>D.beq y dx
 | _,_,.nil,_=>rfl
 | _,_,.cons r' t,h=>by
  rw [ĵ,ò] at h
  unfold inV
  rw [ŉ,ŉ,FV r' r h.1 sx]
  exact congrArg _ (yx r sx t h.2)
theorem yw (neg:Bool) (I:Inv X pins σ H s) (rx:RelV x v) (ry:RelV y u) (r1:Rep X.K X.mg H x dx) (r2:Rep X.K X.mg H y dy)
  (hc:oIn dx dy=.ok (.bl k)) (q:Q (.bl (xor neg k)) H):wpAny ↥4 X.A (compareOp (if neg then .NotIn else .In) v u) ↥70 X.xe s:=by
 have seq:∀ {p:Addr} {xs:List V} {ds:List D},y=.ref p->(SqL X.K H p xs\/SqT X.K H p xs)->Reps X.K X.mg H xs ds->isIn dx ds=some k->wpAny ↥4 X.A (compareOp (if neg then .NotIn else .In) v u) ↥70 X.xe s:=fun {p xs ds} ey hq rs hi=>by
  subst ey
  unfold isIn at hi
  split at hi
  ·rename_i hs
   rw [ò] at hs
   cases hi
   have e:=yx r1 hs.1 rs hs.2
   cases neg with
   | false=>exact xx pins s σ H _ _ v u Q I rx ry ⟨p,xs,rfl,hq,nV r1 hs.1,kI rs hs.2,by rw [if_neg ↥1,e];rw [Ş] at q;exact q⟩
   | true=>exact p0 pins s σ H _ _ v u Q I rx ry ⟨p,xs,rfl,hq,nV r1 hs.1,kI rs hs.2,by rw [if_pos rfl,e];rw [ū] at q;exact q⟩
  ·cases hi
 have hseq:∀ {ds:List D},(match isIn dx ds with | some k=>R.ok (D.bl k) | none=>R.bad)=.ok (.bl k)->isIn dx ds=some k:=fun {ds} h=>by
  cases e:isIn dx ds with
  | none=>rw [e] at h;cases h
  | some k'=>rw [e] at h;cases h;rfl
 cases r2 with
 | tup hq rs=>exact seq rfl (.inr hq) rs (hseq (by cases dx<;>exact hc))
 | lst hq rs=>exact seq rfl (.inl hq) rs (hseq (by cases dx<;>exact hc))
 | str b =>
  cases r1 with
  | str a =>
   obtain ⟨⟨l⟩⟩:=a
   cases l with
   | nil=>cases hc
   | cons c t =>
    cases t with
    | cons _ _=>cases hc
    | nil =>
     cases hc
     have e:=empty_one b c
     cases neg with
     | false=>exact xw pins s σ H _ _ v u Q I rx ry ⟨_,_,rfl,rfl,by rw [e,Bool.not_not];rw [Ş] at q;exact q⟩
     | true=>exact pZ pins s σ H _ _ v u Q I rx ry ⟨_,_,rfl,rfl,by rw [e,Bool.not_not];rw [ū] at q;exact q⟩
  | _=>cases hc
 | _=>cases dx<;>cases hc
theorem tW:(∃ k,oIn a b=.ok (.bl k))\/oIn a b=.bad:=by
 unfold oIn
 split<;>first
  | exact .inr rfl
  | (split<;>first | exact .inl ⟨_,rfl⟩ | exact .inr rfl)
theorem Pa:jP oIn:=fun x y C z=>by rcases tW (a:=x) (b:=y) with ⟨k,e⟩ | e<;>rw [e] at z<;>cases z
theorem Fj:jP gJ:=fun x y C z=>by unfold gJ at z;rcases tW (a:=x) (b:=y) with ⟨k,e⟩ | e<;>rw [e] at z<;>cases z
theorem CG:OpR X (compareOp .In) (rD X oIn):=by
 intro pins s σ H x y v u Q I rx ry ⟨dx,dy,d,r1,r2,e,q⟩
 rcases tW (a:=dx) (b:=dy) with ⟨k,e'⟩ | e'<;>rw [e'] at e<;>cases e
 exact yw false I rx ry r1 r2 e' (by rw [Ş];exact q _ _ ↥24 (.bl _))
theorem xv:OpR X (compareOp .NotIn) (rD X gJ):=by
 intro pins s σ H x y v u Q I rx ry ⟨dx,dy,d,r1,r2,e,q⟩
 unfold gJ at e
 rcases tW (a:=dx) (b:=dy) with ⟨k,e'⟩ | e'<;>rw [e'] at e<;>cases e
 exact yw true I rx ry r1 r2 e' (by rw [ū];exact q _ _ ↥24 (.bl _))
end
section
variable {X:Cx} {pos:Pos} {a b c e:Expr} {ga gb gc g:E} {k:Nat}
theorem F4 (hu:Room k X.A) (ha:SE X a ga) (hb:SE X b gb):SE X (.Compare a [.Eq] [b] pos) (EV.bin oEq ga gb):=BP Pc (CJ hu.units) ha hb (ir _)
theorem kD (hu:Room k X.A) (ha:SE X a ga) (hb:SE X b gb):ST X (.Compare a [.Eq] [b] pos) (EV.bin oEq ga gb):=qY Pc (CJ hu.units) ha hb (ir _)
theorem KP (hu:Room k X.A) (ha:SE X a ga) (hb:SE X b gb):ST X (.Compare a [.NotEq] [b] pos) (EV.bin oNe ga gb):=qY QQ (Jh hu.units) ha hb (ir _)
theorem ME (ha:SE X a ga) (hb:SE X b gb) (hm:behindInMarks .In b=false:=by rfl):SE X (.Compare a [.In] [b] pos) (EV.bin oIn ga gb):=BP Pa CG ha hb hm
theorem GK (ha:SE X a ga) (hb:SE X b gb) (hm:behindInMarks .In b=false:=by rfl):ST X (.Compare a [.In] [b] pos) (EV.bin oIn ga gb):=qY Pa CG ha hb hm
theorem DZ (ha:SE X a ga) (hb:SE X b gb) (hm:behindInMarks .NotIn b=false:=by rfl):ST X (.Compare a [.NotIn] [b] pos) (EV.bin gJ ga gb):=qY Fj xv ha hb hm
theorem JS (r:Rep X.K X.mg H v d):rJ d=.ok (.bl (decide (v=.non)))/\rG d=.ok (.bl (!decide (v=.non))):=by
 cases r<;>exact ⟨rfl,rfl⟩
theorem JR (h:tE X (un rJ ga) σ H Q):tE X ga σ H fun x H1=>tE X (con .non) σ H1 fun y H2=>y=.non/\Q (.bl (decide (x=.non))) H2:=by
 obtain ⟨δ,hσ,h⟩:=h
 refine ⟨δ,hσ,(RQ.bind h).to fun x H1 s1 ⟨_,d,r,q⟩=>⟨δ,hσ.mono s1,fun v H2 s2 r2 => ?_⟩⟩
 cases r2
 rw [(JS r).1] at q
 exact ⟨rfl,q _ _ s2 (.bl _)⟩
theorem td (h:tT X g σ H Q):tE X g σ H fun v H'=>∃ k,v=.bl k/\Q k H':=by
 obtain ⟨δ,hσ,h⟩:=h
 refine ⟨δ,hσ,?_⟩
 cases q:g δ with
 | ok d =>
  rw [q] at h
  cases d with
  | bl k=>exact fun v H' s r=>by cases r;exact ⟨k,rfl,h H' s⟩
  | _=>exact Å h
 | ex C=>rw [q] at h;exact h
 | bad=>rw [q] at h;exact Å h
theorem D0 (ha:SE X a ga):ST X (.Compare a [.Is] [.Constant .none j p2] pos) (un rJ ga):=PT.weak (xi Jj ha FZ (ir _)) fun σ H Q h=>JR (td h)
theorem nG (h:SE X e g) (he:∀ whole,isTrue e X.env whole=(do let v<-whole;standAt e.pos;holding [v] (truthy v)):=by intro _;rfl):ST X e g:=PT.weak (Iz h he) fun σ H Q q=>td q
theorem RT.truth (h:RT X σ H (r.bind fun d=>truth d t f) Q):RT X σ H r fun k H'=>aq H H'/\if k=true then RT X σ H' t Q else RT X σ H' f Q:=by
 cases r with
 | ok d =>
  cases d with
  | bl k =>
   cases k with
   | true=>exact fun H' s=>⟨s,GO (RT.mono s h)⟩
   | false=>exact fun H' s=>⟨s,GP (RT.mono s h)⟩
  | _=>exact Å h
 | ex C=>exact h
 | bad=>exact Å h
theorem RT.to (h:RT X σ H r Q) (g:∀ k H',aq H H'->Q k H'->Q' k H'):RT X σ H r Q':=by
 cases r with
 | ok d =>
  cases d with
  | bl k=>exact fun H' s=>g k H' s (h H' s)
  | _=>exact Å h
 | ex C=>exact h
 | bad=>exact Å h
theorem RQ.truthT (h:RQ X σ H (r.bind fun d=>truth d t f) Q):RT X σ H r fun k H'=>aq H H'/\if k=true then RQ X σ H' t Q else RQ X σ H' f Q:=by
 cases r with
 | ok d =>
  cases d with
  | bl k =>
   cases k with
   | true=>exact fun H' s=>⟨s,GO (RQ.mono s h)⟩
   | false=>exact fun H' s=>⟨s,GP (RQ.mono s h)⟩
  | _=>exact Å h
 | ex C=>exact h
 | bad=>exact Å h
theorem RQ.truth (h:RQ X σ H (r.bind fun d=>truth d t f) Q):RQ X σ H r fun v H'=>∃ k,v=.bl k/\if k=true then RQ X σ H' t Q else RQ X σ H' f Q:=by
 cases r with
 | ok d =>
  cases d with
  | bl k =>
   cases k with
   | true=>exact fun v H' s r=>by cases r;exact ⟨true,rfl,GO (RQ.mono s h)⟩
   | false=>exact fun v H' s r=>by cases r;exact ⟨false,rfl,GP (RQ.mono s h)⟩
  | _=>exact Å h
 | ex C=>exact h
 | bad=>exact Å h
theorem mS {k:Bool} {A B A' B':Prop} (h:if k=true then A else B) (f:A->A') (g:B->B'):if k=true then A' else B':=by
 cases k with
 | true=>exact GO (f (by simpa using h))
 | false=>exact GP (g (by simpa using h))
theorem Av (h:ST X a ga):ST X (.UnaryOp .Not a pos) (CM ga):=PT.weak (IA h) fun σ H Q ⟨δ,hσ,q⟩=>⟨δ,hσ,(RT.truth q).to fun k H' s ⟨_,z⟩=>by
 cases k with
 | true=>exact (show RT X σ H' (.ok ↥56) Q by simpa using z) H' ↥24
 | false=>exact (show RT X σ H' (.ok ↥29) Q by simpa using z) H' ↥24⟩
theorem t_w (h:SW X e g):ST X e g:=PW.pt h
theorem pB (h:ST X a ga):SW X (.BoolOp .And [a] pos) ga:=EA h
theorem uX (h:ST X a ga):SW X (.BoolOp .Or [a] pos) ga:=Ir h
theorem w_and {rest:List Expr} (h:ST X a ga) (hb:SW X (.BoolOp .And (b::rest) pos) gb):SW X (.BoolOp .And (a::b::rest) pos) (sS ga gb) :=
 PW.weak (Iu h hb) fun σ H Q ⟨δ,hσ,q⟩=>⟨δ,hσ,(RT.truth q).to fun k H' s ⟨_,z⟩=>mS z ↥88 (fun z=>z H' ↥24)⟩
theorem w_or {rest:List Expr} (h:ST X a ga) (hb:SW X (.BoolOp .Or (b::rest) pos) gb):SW X (.BoolOp .Or (a::b::rest) pos) (or_ ga gb) :=
 PW.weak (LP h hb) fun σ H Q ⟨δ,hσ,q⟩=>⟨δ,hσ,(RT.truth q).to fun k H' s ⟨_,z⟩=>mS z (fun z=>z H' ↥24) ↥88⟩
theorem sr {op} (h:SE X a g):SE X (.BoolOp op [a] pos) g:=IL h
theorem vL {rest:List Expr} (h:SE X a ga) (hb:SE X (.BoolOp .And (b::rest) pos) gb):SE X (.BoolOp .And (a::b::rest) pos) (sS ga gb) :=
 PE.weak (IW h hb) fun σ H Q ⟨δ,hσ,q⟩=>⟨δ,hσ,(RQ.truth q).to fun v H' s ⟨k,e,z⟩=>⟨k,e,mS z ↥88 (fun z=>z _ H' ↥24 (.bl _))⟩⟩
theorem Rv {rest:List Expr} (h:SE X a ga) (hb:SE X (.BoolOp .Or (b::rest) pos) gb):SE X (.BoolOp .Or (a::b::rest) pos) (or_ ga gb) :=
 PE.weak (LZ h hb) fun σ H Q ⟨δ,hσ,q⟩=>⟨δ,hσ,(RQ.truth q).to fun v H' s ⟨k,e,z⟩=>⟨k,e,mS z (fun z=>z _ H' ↥24 (.bl _)) ↥88⟩⟩
theorem MD (h:SE X a ga):SE X (.UnaryOp .Not a pos) (CM ga):=PE.weak (IM h) fun σ H Q ⟨δ,hσ,q⟩=>⟨δ,hσ,(RQ.truth q).to fun v H' s ⟨k,e,z⟩=>⟨k,e,by
 cases k with
 | true=>exact (show RQ X σ H' (.ok ↥56) Q by simpa using z) _ H' ↥24 (.bl _)
 | false=>exact (show RQ X σ H' (.ok ↥29) Q by simpa using z) _ H' ↥24 (.bl _)⟩⟩
theorem yN (h:ST X c gc) (ha:SE X a ga) (hb:SE X b gb):SE X (.IfExp c a b pos) (ife gc ga gb) :=
 PE.weak (AQ h ha hb) fun σ H Q ⟨δ,hσ,q⟩=>⟨δ,hσ,(RQ.truthT q).to fun k H' s ⟨_,z⟩=>mS z ↥88 ↥88⟩
theorem yO {op op':CmpOp} {f f':D->D->R D} (nx:jP f) (nx':jP f') (ho:OpR X (compareOp op) (rD X f)) (ho':OpR X (compareOp op') (rD X f')) (ha:SE X a ga) (hb:SE X b gb) (hc:SE X c gc)
  (hm:lastMarks [op,op'] [b,c]=false:=by with_unfolding_all rfl):SE X (.Compare a [op,op'] [b,c] pos) (chain f f' ga gb gc):=by
 refine PE.weak (AR ho ho' ha hb hc hm) fun σ H Q ⟨δ,hσ,q⟩ => ?_
 refine ⟨δ,hσ,(RQ.bind q).to fun x H1 s1 ⟨_,dx,r1,q1⟩=>⟨δ,hσ.mono s1,(RQ.bind q1).to fun y H2 s2 ⟨_,dy,r2,q2⟩ => ?_⟩⟩
 have q3:=RQ.truth q2
 refine RQ.op nx (r1.mono s2) r2 (q3.to fun v H3 s3 ⟨k,e,z⟩=>⟨k,e,mS z (fun z=>⟨δ,((hσ.mono s1).mono s2).mono s3,(RQ.bind z).to fun w H4 s4 ⟨_,dw,r4,q4⟩ => ?_⟩) (fun z=>z _ H3 ↥24 (.bl _))⟩)
 exact RQ.op nx' ((r2.mono s3).mono s4) r4 q4
theorem gH:SA X [] []:=PA.weak ip fun σ H Q ⟨δ,hσ,h⟩=>h [] H (aq.refl H) .nil
theorem RA.cons (h:RA X σ H (evs (g::gs) δ) Q):RQ X σ H (g δ) fun v H1=>RA X σ H1 (evs gs δ) fun vs H2=>aq H1 H2->∀ d,Rep X.K X.mg H1 v d->Q (v::vs) H2:=by
 unfold evs at h
 cases q:g δ with
 | ok d =>
  rw [q] at h
  refine fun v H1 s1 r1 => ?_
  simp only [R.bind] at h
  cases q2:evs gs δ with
  | ok ds =>
   rw [q2] at h
   exact fun vs H2 s2 rs s2' d' r'=>h (v::vs) H2 (s1.trans s2) (.cons (r1.mono s2) rs)
  | ex C=>rw [q2] at h;exact fun Ca hc H' s'=>h Ca hc H' (s1.trans s')
  | bad=>rw [q2] at h;exact h
 | ex C=>rw [q] at h;exact h
 | bad=>rw [q] at h;exact h
theorem RA.to (h:RA X σ H r Q) (g:∀ v H',aq H H'->Q v H'->Q' v H'):RA X σ H r Q':=by
 cases r with
 | ok d=>exact fun v H' s r=>g v H' s (h v H' s r)
 | ex C=>exact h
 | bad=>exact h
theorem ak (ha:SE X e g) (hr:SA X es gs) (hs:starEach (e::es) X.env=↥27::starEach es X.env:=by rfl):SA X (e::es) (g::gs) :=
 PA.weak (fz ha hr hs) fun σ H Q ⟨δ,hσ,h⟩=>by
  refine ⟨δ,hσ,?_⟩
  cases q:g δ with
  | ok d =>
   have h':=RA.cons h
   rw [q] at h'
   exact fun v H1 s1 r1=>⟨δ,hσ.mono s1,(h' v H1 s1 r1).to fun vs H2 s2 z=>z s2 d r1⟩
  | ex C =>
   have h':=RA.cons h
   rw [q] at h'
   exact h'
  | bad =>
   have h':=RA.cons h
   rw [q] at h'
   exact h'
theorem bu {x1} (h:SA X es gs) (hl:es.length<=1000) (hg:gs.length=es.length:=by rfl):SE X (.Tuple es x1 pos) (fk gs) :=
 PE.weak (IJ h) fun σ H Q ⟨δ,hσ,q⟩=>⟨δ,hσ,by
  have q':=RA.bind q
  cases e:evs gs δ with
  | ok ds =>
   have hd:ds.length=gs.length:=evs_len e
   rw [e] at q'
   refine fun vs H1 s1 rs => ?_
   obtain ⟨_,ds',rs',q2⟩:=q' vs H1 s1 rs
   refine ⟨by rw [rs.length,hd,hg];exact ı (kF hl),fun p hp=>q2 _ _ ↥127 (.tup (SqT.of au) (rs'.mono ↥127))⟩
  | ex C=>rw [e] at q';exact q'
  | bad=>rw [e] at q';exact q'⟩
where
 evs_len {δ:Dt}:∀ {gs:List E} {ds:List D},evs gs δ=.ok ds->ds.length=gs.length
  | [],ds,e=>by cases e;rfl
  | g::gs,ds,e=>by
   unfold evs at e
   cases q:g δ with
   | ok d =>
    rw [q] at e
    simp only [R.bind] at e
    cases q2:evs gs δ with
    | ok ds'=>rw [q2] at e;cases e;simp [evs_len q2]
    | ex C=>rw [q2] at e;cases e
    | bad=>rw [q2] at e;cases e
   | ex C=>rw [q] at e;cases e
   | bad=>rw [q] at e;cases e
theorem yL (h:SA X es gs) (hl:es.length<=1000) (hg:gs.length=es.length:=by rfl):SE X (.List es pos) (Fu gs) :=
 PE.weak (CC h) fun σ H Q ⟨δ,hσ,q⟩=>⟨δ,hσ,by
  have q':=RA.bind q
  cases e:evs gs δ with
  | ok ds =>
   have hd:ds.length=gs.length:=bu.evs_len e
   rw [e] at q'
   refine fun vs H1 s1 rs => ?_
   obtain ⟨_,ds',rs',q2⟩:=q' vs H1 s1 rs
   refine ⟨by rw [rs.length,hd,hg];exact ı (kF hl),fun p hp=>q2 _ _ ↥127 (.lst (SqL.of au) (rs'.mono ↥127))⟩
  | ex C=>rw [e] at q';exact q'
  | bad=>rw [e] at q';exact q'⟩
theorem QR:jP oIx:=fun x y C z=>by
 unfold oIx at z
 split at z
 ·split at z<;>cases z
 ·split at z<;>cases z
 ·split at z
  ·split at z<;>cases z
  ·cases z
 ·cases z
theorem uC (rs:Reps X.K X.mg H xs ds) (h:((EV.ixN ds.length i).bind fun j=>ds[j]?)=some d):∃ v,atI xs i=some v/\Rep X.K X.mg H v d:=by
 have el:=rs.length
 cases q:EV.ixN ds.length i with
 | none=>rw [q] at h;cases h
 | some j =>
  rw [q] at h
  obtain ⟨v,h1,h2⟩:=rs.get h
  refine ⟨v,?_,h2⟩
  unfold atI
  rw [el,show L2.ixN ds.length i=some j from q]
  exact h1
theorem Ra:IxR X (rD X oIx):=by
 intro value slice pins s σ H x y v u Q I rx ry ⟨dx,dy,d,r1,r2,e,q⟩ hs
 unfold oIx at e
 split at e
 ·split at e
  ·rename_i h
   cases e;cases r1;cases r2
   rename_i a xs hq rs
   obtain ⟨w,h1,h2⟩:=uC rs h
   exact mR value slice pins s σ H _ _ v u Q I rx ry ⟨a,xs,_,w,rfl,rfl,hq,h1,q _ _ ↥24 h2⟩ hs
  ·cases e
 ·split at e
  ·rename_i h
   cases e;cases r1;cases r2
   rename_i a xs hq rs
   obtain ⟨w,h1,h2⟩:=uC rs h
   exact Fz value slice pins s σ H _ _ v u Q I rx ry ⟨a,xs,_,w,rfl,rfl,hq,h1,q _ _ ↥24 h2⟩ hs
  ·cases e
 ·split at e
  ·rename_i hz
   split at e
   ·rename_i c h
    cases e;cases r1;cases r2
    refine JK value slice pins s σ H _ _ v u Q I rx ry ⟨_,_,c,rfl,rfl,Ð hz (by rw [sizeLine_eq];decide),?_,q _ _ ↥24 (.str _)⟩ hs
    exact h
   ·cases e
  ·cases e
 ·cases e
theorem pd (ha:SE X a ga) (hb:SE X b gb) (hs:zu b:=by intro _ _;rfl):SE X (.Subscript a b pos) (EV.bin oIx ga gb) :=
 PE.weak (L8 Ra ha hb hs) fun σ H Q h=>by
  obtain ⟨δ,hσ,q⟩:=zd h
  refine ⟨δ,hσ,q.to fun x H1 s1 ⟨δ1,hσ1,q1⟩=>⟨δ1,hσ1,q1.to fun y H2 s2 ⟨dx,dy,r1,r2,q2⟩=>RQ.op QR r1 r2 q2⟩⟩
end
end ES
namespace ES
open PySem PySem.Spec PyProof.Rows L2 EV
unseal SE ST SW SA
abbrev Os:=List (Nat×Addr)
def iZ (os:Os):List Addr:=os.map (·.2)
def hide (H:Hp) (os:Os):Hp:=fun a=>if a∈iZ os then none else H a
theorem uc (H:Hp):hide H []=H:=by
 funext a
 unfold hide iZ
 simp
theorem lE {H:Hp} {os:Os} {a:Addr} (h:a∈iZ os):hide H os a=none:=if_pos h
theorem aU {H:Hp} {os:Os} {a:Addr} (h:a∉iZ os):hide H os a=H a:=if_neg h
theorem bj (H:Hp) (os:Os):aq ↥26 H:=fun b o e=>by
 unfold hide at e
 split at e
 ·cases e
 ·exact e
theorem fG (os:Os) (s:aq H H'):aq ↥26 (hide H' os):=fun b o e=>by
 unfold hide at e ⊢
 split at e
 ·cases e
 ·rename_i h
  rw [if_neg h]
  exact s b o e
structure StO (X:Cx) (H:Hp) (σ:L2.St) (δ:Dt) (os:Os):Prop where
 st:Stt X.K X.mg ↥26 σ δ
 lst:∀ p∈os,∃ xs ds,H p.2=some ↥131/\σ[p.1]? = some (some (.ref p.2))/\δ[p.1]? = some (some (.own ds))/\Reps X.K X.mg ↥26 xs ds
 own:∀ i ds,δ[i]? = some (some (.own ds))->∃ a,(i,a)∈os
 inj:∀ i j a,(i,a)∈os->(j,a)∈os->i=j
theorem gh {os:Os} {a:Addr} (h:a∈iZ os):∃ p∈os,p.2=a:=by
 obtain ⟨p,hp,e⟩:=å.mp h
 exact ⟨p,hp,e⟩
theorem eT {os:Os} {p:Nat×Addr} (h:p∈os):p.2∈iZ os:=å.mpr ⟨p,h,rfl⟩
def Cz (h:Heap) (os:Os):List ↥6:=mM (iZ os) h
section
variable {X:Cx} {pins:List ↥6} {σ:L2.St} {H H':Hp} {s s':Shared} {os:Os}
def GS (H:Hp) (os:Os):Prop:=∀ a∈iZ os,∃ xs,H a=some ↥131
theorem j7 (I:Inv X pins σ H s) (hl:GS H os):Inv X (pins++Cz s.heap os) σ ↥26 s:=by
 have ne:∀ {b:Addr} {o:HO},H b=some o->(∀ xs,o ≠ .lst xs)->hide H os b=some o:=fun {b o} e n=>by
  rw [aU fun z => ?_];exact e
  obtain ⟨xs,q⟩:=hl b z
  rw [e] at q
  exact n xs (Ó.inj q)
 refine ⟨I.ok,I.os,I.bare,⟨I.base.keep,I.base.slot,fun b o e n hx => ?_,I.base.there,fun b xs e => ?_,fun b o u e => ?_,fun b ps e => ?_⟩,I.loc,I.cell,?_,fun x c e => ?_,fun p hp => ?_,fun a o e => ?_,I.len⟩
 ·unfold hide;split
  ·rfl
  ·exact I.base.free b o e n hx
 ·exact ne (I.base.tups b xs e) fun _ z=>nomatch z
 ·exact ne (I.base.frzs b o u e) fun _ z=>nomatch z
 ·obtain ⟨more,q⟩:=I.base.tbls b ps e
  exact ⟨more,ne q fun _ z=>nomatch z⟩
 ·unfold hide;split
  ·rfl
  ·exact I.free
 ·unfold hide;split
  ·rfl
  ·exact I.freeC x c e
 ·rw [<- Ć] at hp
  rcases È.mp hp with z | z
  ·obtain ⟨e,n,r⟩:=I.pin p z
   refine ⟨e,?_,r⟩
   unfold hide;split
   ·rfl
   ·exact n
  ·obtain ⟨hb,e⟩:=p5 z
   obtain ⟨xs,q⟩:=hl p.1 hb
   obtain ⟨_,its,n,_,e'⟩:=I.hok p.1 _ q
   rw [e] at e'
   have e2:p.2={ cls:=.type "list",data:=.seq its.toArray n }:=Ó.inj e'
   refine ⟨e,lE hb,fun z => ?_,fun z => ?_,fun v z => ?_⟩
   ·rw [z,I.free] at q;cases q
   ·have hx:p.1∉X.ex:=fun w=>I.ok.exfs p.1 w z
    obtain ⟨_,o0,ho0,_⟩:=I.ok.funs.mem z
    rw [I.base.free p.1 o0 ho0 (I.ok.frf p.1 z) hx] at q;cases q
   ·rw [e2] at z;cases z
 ·have hna:a∉iZ os:=fun z=>by rw [lE z] at e;cases e
  rw [aU hna] at e
  exact (I.hok a o e).stay (fun _ _ _ q=>q) (fun b q=>ne q fun _ z=>nomatch z) fun b xs q=>ne q fun _ z=>nomatch z
def dZ (H H':Hp) (os:Os):Hp:=fun a=>if a∈iZ os then H a else H' a
theorem iy (h:∀ a∈iZ os,H' a=none):hide (dZ H H' os) os=H':=by
 funext a
 unfold hide dZ
 by_cases z:a∈iZ os
 ·rw [if_pos z,h a z]
 ·rw [if_neg z,if_neg z]
theorem j6 (hx:X.ex=[]) (I0:Inv X pins σ H s) (hl:GS H os) (I:Inv X (pins++Cz s.heap os) σ H' s'):Inv X pins σ (dZ H H' os) s'/\∀ a∈iZ os,H' a=none:=by
 have pin:∀ a∈iZ os,∃ o,s.heap.get? a=some o/\s'.heap.get? a=some o/\H' a=none/\a≠X.env.locals/\a∉X.fs:=fun a ha=>by
  obtain ⟨xs,q⟩:=hl a ha
  obtain ⟨o,e⟩:∃ o,s.heap.get? a=some o:=by
   obtain ⟨_,its,n,_,e⟩:=I0.hok a _ q
   exact ⟨_,e⟩
  obtain ⟨e1,e2,e3,e4,_⟩:=I.pin (a,o) (Ç _ (Ç _ (cQ ha e)))
  exact ⟨o,e,e1,e2,e3,e4⟩
 have hn:∀ a∈iZ os,H' a=none:=fun a ha=>(pin a ha).choose_spec.2.2.1
 have vis:∀ {b:Addr} {o:HO},H' b=some o->dZ H H' os b=some o:=fun {b o} e=>by
  unfold dZ;rw [if_neg fun z => ?_];exact e
  rw [hn b z] at e;cases e
 refine ⟨⟨I.ok,I.os,I.bare,⟨I.base.keep,I.base.slot,fun b o e n hx' => ?_,I.base.there,fun b xs e=>vis (I.base.tups b xs e),fun b o u e=>vis (I.base.frzs b o u e),fun b ps e => ?_⟩,I.loc,I.cell,?_,fun x c e => ?_,fun p hp => ?_,fun a o e => ?_,I.len⟩,hn⟩
 ·unfold dZ;split
  ·exact I0.base.free b o e n hx'
  ·exact I.base.free b o e n hx'
 ·obtain ⟨more,q⟩:=I.base.tbls b ps e
  exact ⟨more,vis q⟩
 ·unfold dZ;split
  ·exact I0.free
  ·exact I.free
 ·unfold dZ;split
  ·exact I0.freeC x c e
  ·exact I.freeC x c e
 ·obtain ⟨e,n,r⟩:=I.pin p (by rw [<- Ć];exact ð _ hp)
  refine ⟨e,?_,r⟩
  unfold dZ;split
  ·exact (I0.pin p hp).2.1
  ·exact n
 ·by_cases z:a∈iZ os
  ·obtain ⟨ob,e0,e1,_⟩:=pin a z
   unfold dZ at e
   rw [if_pos z] at e
   obtain ⟨xs,q⟩:=hl a z
   rw [e] at q
   have q':o=.lst xs:=Ó.inj q
   subst q'
   obtain ⟨hz,its,n,r,e2⟩:=I0.hok a _ e
   rw [e0] at e2
   have e3:ob=_:=Ó.inj e2
   subst e3
   exact ⟨hz,its,n,r,e1⟩
  ·unfold dZ at e
   rw [if_neg z] at e
   exact (I.hok a o e).stay (fun _ _ _ q=>q) (fun b q=>vis q) fun b xs q=>vis q
end
section
variable {K:PySem.W.Frag} {mg:Str->Option Value} {H H':Hp}
def NoL (H H':Hp):Prop:=∀ b o,H b=some o->(∀ xs,o ≠ .lst xs)->(∀ ob xs,o ≠ .frz ob ↥131)->H' b=some o
theorem Az (k:NoL H H') (h:SqT K H a xs):SqT K H' a xs:=by
 rcases h with (h | ⟨o,h⟩) | h
 ·exact .inl (.inl (k _ _ h ↥141 fun _ _ z=>nomatch z))
 ·exact .inl (.inr ⟨o,k _ _ h ↥141 fun _ _ z=>by cases z⟩)
 ·exact .inr h
mutual
theorem og (k:NoL H H'):∀ {v:V} {d:D},d.flat=true->Rep K mg H v d->Rep K mg H' v d
 | _,_,_,.non=>.non
 | _,_,_,.bl b=>.bl b
 | _,_,_,.int i=>.int i
 | _,_,_,.str x=>.str x
 | _,.tup ds,f,.tup h r=>.tup (Az k h) (jX k (by simpa [D.flat] using f) r)
 | _,.lst ds,f,_=>by simp [D.flat] at f
 | _,_,_,.ty n=>.ty n
 | _,_,_,.cls h=>.cls h
 | _,_,_,.exc h e=>.exc h (k _ _ e ↥141 fun _ _ z=>nomatch z)
 | _,.ins n ds,f,.ins h e r=>.ins h (k _ _ e ↥141 fun _ _ z=>nomatch z) (tL k (by simpa [D.flat] using f) r)
theorem jX (k:NoL H H'):∀ {vs:List V} {ds:List D},D.flats ds=true->Reps K mg H vs ds->Reps K mg H' vs ds
 | _,_,_,.nil=>.nil
 | _,d::r,f,.cons h t=>by
  have f':d.flat=true/\D.flats r=true:=by simpa [D.flats] using f
  exact .cons (og k f'.1 h) (jX k f'.2 t)
theorem tL (k:NoL H H'):∀ {vs:List (Str×V)} {ds:List (String×D)},D.flatf ds=true->Repf K mg H vs ds->Repf K mg H' vs ds
 | _,_,_,.nil=>.nil
 | _,(_,d)::r,f,.cons h t=>by
  have f':d.flat=true/\D.flatf r=true:=by simpa [D.flatf] using f
  exact .cons (og k f'.1 h) (tL k f'.2 t)
end
theorem tY {os:Os} (hl:GS H os):NoL H ↥26:=fun b o e n _=>by
 rw [aU fun z => ?_];exact e
 obtain ⟨xs,q⟩:=hl b z
 rw [e] at q
 exact n xs (Ó.inj q)
end
section
variable {X:Cx} {σ:L2.St} {δ:Dt} {H H':Hp} {os:Os}
theorem StO.lsts (S:StO X H σ δ os):GS H os:=fun a ha=>by
 obtain ⟨p,hp,rfl⟩:=gh ha
 obtain ⟨xs,_,h,_⟩:=S.lst p hp
 exact ⟨xs,h⟩
theorem StO.nil (h:Stt X.K X.mg H σ δ) (hn:∀ (i:Nat) (ds:List D),δ[i]? ≠ some (some (.own ds))):StO X H σ δ []:=⟨by rw [uc];exact h,fun p hp=>(nomatch hp),fun i ds e=>absurd e (hn i ds),fun _ _ _ z=>(nomatch z)⟩
theorem StO.mono (S:StO X H σ δ os) (s:aq H H'):StO X H' σ δ os :=
 ⟨S.st.mono (fG os s),fun p hp=>let ⟨xs,ds,a,b,c,d⟩:=S.lst p hp;⟨xs,ds,s _ _ a,b,c,d.mono (fG os s)⟩,S.own,S.inj⟩
theorem StO.shown (S:StO X H σ δ os) (s:aq ↥26 H') (hn:∀ a∈iZ os,H' a=none):StO X (dZ H H' os) σ δ os:=by
 have e:=iy (H:=H) hn
 refine ⟨by rw [e];exact S.st.mono s,fun p hp => ?_,S.own,S.inj⟩
 obtain ⟨xs,ds,a,b,c,d⟩:=S.lst p hp
 exact ⟨xs,ds,by unfold dZ;rw [if_pos (eT hp)];exact a,b,c,by rw [e];exact d.mono s⟩
theorem StO.view (S:StO X H σ δ os):Stt X.K X.mg H σ ↥66:=by
 refine ⟨by unfold EV.view;rw [Á];exact S.st.1,fun i d e n => ?_⟩
 unfold EV.view at e
 rw [Ë] at e
 cases q:δ[i]? with
 | none=>rw [q] at e;cases e
 | some c =>
  rw [q] at e
  cases c with
  | none=>cases e
  | some d0 =>
   by_cases ho:∃ ds,d0=.own ds
   ·obtain ⟨ds,rfl⟩:=ho
    have e':D.lst ds=d:=Ó.inj ↥109
    subst e'
    obtain ⟨a,ha⟩:=S.own i ds q
    obtain ⟨xs,ds',h1,h2,h3,h4⟩:=S.lst _ ha
    rw [q] at h3
    cases h3
    exact ⟨.ref a,h2,.lst (SqL.of h1) (h4.mono (bj H os))⟩
   ·have e':d0=d:=by
     cases d0<;>first | exact absurd ⟨_,rfl⟩ ho | exact Ó.inj ↥109
    subst e'
    obtain ⟨v,h1,h2⟩:=S.st.2 i d0 q n
    exact ⟨v,h1,h2.mono (bj H os)⟩
theorem StO.noOwn (S:StO X H σ δ os) (s:aq ↥26 H'):Stt X.K X.mg H' σ ↥113:=by
 refine ⟨by unfold EV.noOwn;rw [Á];exact S.st.1,fun i d e n => ?_⟩
 unfold EV.noOwn at e
 rw [Ë] at e
 cases q:δ[i]? with
 | none=>rw [q] at e;cases e
 | some c =>
  rw [q] at e
  cases c with
  | none=>cases e
  | some d0 =>
   by_cases ho:∃ ds,d0=.own ds
   ·obtain ⟨ds,rfl⟩:=ho
    cases e
   ·have e':d0=d:=by
     cases d0<;>first | exact absurd ⟨_,rfl⟩ ho | exact Ó.inj ↥109
    subst e'
    obtain ⟨v,h1,h2⟩:=S.st.2 i d0 q n
    exact ⟨v,h1,h2.mono s⟩
end
def FQ (X:Cx) (σ:L2.St) (H:Hp) (os:Os) (δ:Dt) (r:R D) (Q:VK):Prop:=match r with
 | .ok d=>∀ v H',StO X H' σ δ os->aq ↥26 (hide H' os)->Rep X.K X.mg (hide H' os) v d->Q v H'
 | .ex C=>∀ Ca,X.mg C=some (.ref Ca)->∀ H',aq ↥26 H'->Stt X.K X.mg H' σ ↥113->ew X Ca σ H'
 | .bad=>False
def tF (X:Cx) (g:E):TE:=fun σ H Q=>∃ δ os,StO X H σ δ os/\FQ X σ H os δ (g δ) Q
def FT (X:Cx) (σ:L2.St) (H:Hp) (os:Os) (δ:Dt) (r:R D) (Q:Bool->Hp->Prop):Prop:=match r with
 | .ok (.bl b)=>∀ H',StO X H' σ δ os->aq ↥26 (hide H' os)->Q b H'
 | .ex C=>∀ Ca,X.mg C=some (.ref Ca)->∀ H',aq ↥26 H'->Stt X.K X.mg H' σ ↥113->ew X Ca σ H'
 | _=>False
def tFT (X:Cx) (g:E):TT:=fun σ H Q=>∃ δ os,StO X H σ δ os/\FT X σ H os δ (g δ) Q
section
variable {X:Cx} {e:Expr} {g:E}
theorem uh (hx:X.ex=[]) (h:SE X e g):PE X e (tF X g):=by
 intro pins s σ H Q I ⟨δ,os,S,q⟩
 have hl:=S.lsts
 have hw:RQ X σ ↥26 (g δ) (fun v H1=>aq ↥26 H1/\∃ d,g δ=.ok d/\Rep X.K X.mg H1 v d):=by
  cases r:g δ with
  | ok d=>exact fun v H' s r=>⟨s,d,rfl,r⟩
  | ex C =>
   rw [r] at q
   exact fun Ca hc H' s'=>q Ca hc H' s' (S.noOwn s')
  | bad=>rw [r] at q;exact q
 refine thn (h _ s σ _ _ (j7 I hl) ⟨δ,S.st,hw⟩) fun u s' ⟨v,H1,I1,rv,sm,d,e,rd⟩ => ?_
 obtain ⟨I2,hn⟩:=j6 hx I hl I1
 rw [e] at q
 have eh:=iy (H:=H) hn
 exact ⟨v,_,I2,rv,q v _ (S.shown sm hn) (by rw [eh];exact sm) (by rw [eh];exact rd)⟩
theorem JZ (hx:X.ex=[]) (h:ST X e g):PT X e (tFT X g):=by
 intro pins s σ H Q I ⟨δ,os,S,q⟩
 have hl:=S.lsts
 have hw:RT X σ ↥26 (g δ) (fun b H1=>aq ↥26 H1/\g δ=.ok (.bl b)):=by
  cases r:g δ with
  | ok d =>
   rw [r] at q
   cases d with
   | bl b=>exact fun H' s=>⟨s,rfl⟩
   | _=>exact Å q
  | ex C =>
   rw [r] at q
   exact fun Ca hc H' s'=>q Ca hc H' s' (S.noOwn s')
  | bad=>rw [r] at q;exact Å q
 refine thn (h _ s σ _ _ (j7 I hl) ⟨δ,S.st,hw⟩) fun b s' ⟨H1,I1,sm,e⟩ => ?_
 obtain ⟨I2,hn⟩:=j6 hx I hl I1
 rw [e] at q
 have eh:=iy (H:=H) hn
 exact ⟨_,I2,q _ (S.shown sm hn) (by rw [eh];exact sm)⟩
def tB (X:Cx) (g:E):TE:=fun σ H Q=>∃ δ os,StO X H σ δ os/\(∀ d,g ↥66=.ok d->d.flat=true)/\FQ X σ H os δ (g ↥66) Q
def tBT (X:Cx) (g:E):TT:=fun σ H Q=>∃ δ os,StO X H σ δ os/\FT X σ H os δ (g ↥66) Q
theorem zb (h:SE X e g):PE X e (tB X g):=by
 intro pins s σ H Q I ⟨δ,os,S,hf,q⟩
 refine h pins s σ H Q I ⟨_,S.view,?_⟩
 cases r:g ↥66 with
 | ok d =>
  rw [r] at q
  refine fun v H' s r'=>q v H' (S.mono s) (fG os s) (og (tY ((S.mono s).lsts)) (hf d r) r')
 | ex C =>
  rw [r] at q
  exact fun Ca hc H' s'=>q Ca hc H' ↥128 (S.noOwn ↥128)
 | bad=>rw [r] at q;exact q
theorem F9 (h:ST X e g):PT X e (tBT X g):=by
 intro pins s σ H Q I ⟨δ,os,S,q⟩
 refine h pins s σ H Q I ⟨_,S.view,?_⟩
 cases r:g ↥66 with
 | ok d =>
  rw [r] at q
  cases d with
  | bl b=>exact fun H' s=>q H' (S.mono s) (fG os s)
  | _=>exact Å q
 | ex C =>
  rw [r] at q
  exact fun Ca hc H' s'=>q Ca hc H' ↥128 (S.noOwn ↥128)
 | bad=>rw [r] at q;exact Å q
end
def OQ (X:Cx) (D:Ends) (F:Hp):O->Prop
 | .nx δ=>∀ σ H os,StO X H σ δ os->aq F ↥26->D.nx σ H
 | .bk δ=>∀ σ H os,StO X H σ δ os->aq F ↥26->D.bk σ H
 | .ct δ=>∀ σ H os,StO X H σ δ os->aq F ↥26->D.ct σ H
 | .rt d=>∀ v H,aq F H->Rep X.K X.mg H v d->D.rt v H
 | .ex C δ=>∀ σ H,aq F H->Stt X.K X.mg H σ δ->∀ Ca,X.mg C=some (.ref Ca)->ew X Ca σ H
 | .mk C δ=>∀ σ H,aq F H->∀ Ca,X.mg C=some (.ref Ca)->em X Ca σ H
 | .hx C δ=>∀ σ H,aq F H->Stt X.K X.mg H σ δ->∀ Ca,X.mg C=some (.ref Ca)->ehx X Ca σ H
 | .bad=>False
def tS (X:Cx) (g:S):TS:=fun D σ H=>∃ δ os,StO X H σ δ os/\OQ X D ↥26 (g δ)
@[irreducible] def SS (X:Cx) (st:Stmt) (g:S):Prop:=PS X st (tS X g)
@[irreducible] def SSs (X:Cx) (st:List Stmt) (g:S):Prop:=PSs X st (tS X g)
unseal SS SSs
theorem OQ.mono {X:Cx} {D:Ends} {F F':Hp} {o:O} (s:aq F F') (h:OQ X D F o):OQ X D F' o:=by
 cases o with
 | nx δ=>exact fun σ H os S s'=>h σ H os S (s.trans s')
 | bk δ=>exact fun σ H os S s'=>h σ H os S (s.trans s')
 | ct δ=>exact fun σ H os S s'=>h σ H os S (s.trans s')
 | rt d=>exact fun v H s' r=>h v H (s.trans s') r
 | ex C δ=>exact fun σ H s' S=>h σ H (s.trans s') S
 | mk C δ=>exact fun σ H s'=>h σ H (s.trans s')
 | hx C δ=>exact fun σ H s' S=>h σ H (s.trans s') S
 | bad=>exact h
theorem OQ.lv {X:Cx} {D:Ends} {F:Hp} {o:O} {n:L2.St->Hp->Prop} (hn:∀ δ,o ≠ .nx δ) (h:OQ X D F o):OQ X { D with nx:=n } F o:=by
 cases o with
 | nx δ=>exact absurd rfl (hn δ)
 | _=>exact h
section
variable {X:Cx} {N:List Str} {H:Hp} {σ:L2.St} {δ:Dt} {os:Os}
theorem aG (os:Os) (i:Nat):∀ p∈os.filter (fun p=>p.1 != i),p∈os/\p.1≠i:=fun p hp=>by
 have:=Ĭ.mp hp
 exact ⟨this.1,by simpa using this.2⟩
theorem qg (h:∀ p∈os',p∈os):aq ↥26 (hide H os'):=fun b o e=>by
 have hb:b∉iZ os:=fun z=>by rw [lE z] at e;cases e
 rw [aU hb] at e
 rw [aU fun z => ?_];exact e
 obtain ⟨p,hp,rfl⟩:=gh z
 exact hb (eT (h p hp))
theorem StO.set (S:StO X H σ δ os) (r:Rep X.K X.mg ↥26 v d):StO X H (σ.set i (some v)) ↥108 (os.filter fun p=>p.1 != i)/\aq ↥26 (hide H (os.filter fun p=>p.1 != i)):=by
 have sm:aq ↥26 (hide H (os.filter fun p=>p.1 != i)):=qg fun p hp=>(aG os i p hp).1
 refine ⟨⟨(S.st.mono sm).set (r.mono sm),fun p hp => ?_,fun j ds e => ?_,fun a b c h1 h2=>S.inj a b c (aG os i _ h1).1 (aG os i _ h2).1⟩,sm⟩
 ·obtain ⟨hp',ne⟩:=aG os i p hp
  obtain ⟨xs,ds,h1,h2,h3,h4⟩:=S.lst p hp'
  exact ⟨xs,ds,h1,by rw [Ï (ė ne)];exact h2,by rw [Ï (ė ne)];exact h3,h4.mono sm⟩
 ·by_cases hj:j=i
  ·subst hj
   by_cases hl:j<δ.length
   ·rw [Ý hl] at e
    have e':d=.own ds:=Ó.inj ↥109
    subst e'
    cases r
   ·rw [Ą (by simp;omega)] at e
    cases e
  ·rw [Ï ↥136] at e
   obtain ⟨a,ha⟩:=S.own j ds e
   exact ⟨a,Ĭ.mpr ⟨ha,by simpa using hj⟩⟩
structure Sx (X:Cx) (N:List Str):Prop where
 sc:Sc X N
 ex:X.ex=[]
variable {e c:Expr} {g gc:E} {pos:Pos} {st:Stmt} {rest body els:List Stmt} {gs gr gb ge:S}
theorem FQ.then {r:R EV.D} {Q:VK} {D:Ends} {f:EV.D->O} (h:OQ X D ↥26 (match r with | .ok d=>f d | .ex C=>.ex C ↥113 | .bad=>.bad))
  (hq:∀ d v H',r=.ok d->StO X H' σ δ os->aq ↥26 (hide H' os)->Rep X.K X.mg (hide H' os) v d->OQ X D (hide H' os) (f d)->Q v H'):FQ X σ H os δ r Q:=by
 cases r with
 | ok d=>exact fun v H' S s r=>hq d v H' rfl S s r (OQ.mono s h)
 | ex C=>exact fun Ca hc H' s' st=>h σ H' s' st Ca hc
 | bad=>exact h
theorem aC:SSs X [] EK:=PSs.weak EB fun D σ H ⟨δ,os,S,h⟩=>h σ H os S ↥24
theorem ah (h:SS X st gs):SSs X [st] gs:=xj h
theorem ae (h:SS X st gs) (hr:SSs X rest gr):SSs X (st::rest) (seq gs gr):=PSs.weak (oj h hr) fun D σ H ⟨δ,os,S,h⟩=>⟨δ,os,S,by
 unfold seq at h
 cases q:gs δ with
 | nx δ' =>
  rw [q] at h
  exact fun σ' H' os' S' s'=>⟨δ',os',S',OQ.mono s' h⟩
 | _=>rw [q] at h;exact OQ.lv ↥141 h⟩
theorem LI (C:Sx X N) (i:Nat) (hN:N[i]? = some x) (hx:Sto X x) (h:SE X e g) (hsw:swapsWith e (some (.Name x pos')) pos.line X.env=pure false:=by rfl):SS X (.Assign [.Name x pos'] e pos) (assign i g) :=
 PS.weak (xk (i:=i) (by rw [C.sc.n];exact C.sc.nd) (by rw [C.sc.n];exact hN) hx.1 (uh C.ex h) hsw hx.2) fun D σ H ⟨δ,os,S,q⟩=>⟨δ,os,S,FQ.then q fun d v H' e S' s r q'=>by
  obtain ⟨S2,s2⟩:=S'.set (i:=i) r
  exact q' _ _ _ S2 s2⟩
theorem Ie (C:Sx X N) (h:SE X e g) (hs:swapsWith e none pos.line X.env=pure false:=by rfl):SS X (.Expr e pos) (expr g) :=
 PS.weak (rA (uh C.ex h) hs) fun D σ H ⟨δ,os,S,q⟩=>⟨δ,os,S,FQ.then q fun d v H' e S' s r q'=>q' _ _ _ S' ↥24⟩
theorem LJ (C:Sx X N) (h:SE X e g):SS X (.Return (some e) pos) (ret g) :=
 PS.weak (IB (uh C.ex h)) fun D σ H ⟨δ,os,S,q⟩=>⟨δ,os,S,FQ.then q fun d v H' e S' s r q'=>q' v H' (bj _ _) (r.mono (bj _ _))⟩
theorem FT.then {r:R EV.D} {Q:Bool->Hp->Prop} {D:Ends} {ta fa:O} (h:OQ X D ↥26 (match r with | .ok ↥29=>ta | .ok ↥56=>fa | .ex C=>.ex C ↥113 | _=>.bad))
  (hq:∀ b H',StO X H' σ δ os->aq ↥26 (hide H' os)->OQ X D (hide H' os) (if b=true then ta else fa)->Q b H'):FT X σ H os δ r Q:=by
 cases r with
 | ok d =>
  cases d with
  | bl b =>
   cases b with
   | true=>exact fun H' S s=>hq true H' S s (by rw [if_pos rfl];exact OQ.mono s h)
   | false=>exact fun H' S s=>hq false H' S s (by rw [if_neg ↥1];exact OQ.mono s h)
  | _=>exact h
 | ex C=>exact fun Ca hc H' s' st=>h σ H' s' st Ca hc
 | bad=>exact h
theorem PU (C:Sx X N) (hc:ST X c gc) (ha:SSs X body gb) (hb:SSs X els ge):SS X (.If c body els pos) (ifs gc gb ge) :=
 PS.weak (IC (JZ C.ex hc) ha hb) fun D σ H ⟨δ,os,S,q⟩=>⟨δ,os,S,FT.then q fun b H' S' s q'=>by
  cases b with
  | true=>exact GO ⟨δ,os,S',by simpa using q'⟩
  | false=>exact GP ⟨δ,os,S',by simpa using q'⟩⟩
theorem jr {α:Type} {xs:List α} {n:Nat} {x:α} (h:xs[n]? = some x):xs.drop n=x::xs.drop (n+1):=by
 obtain ⟨h1,h2⟩:=É.mp h
 rw [đ h1,h2]
def Pv (X:Cx) (D:Ends) (F F1:Hp) (i:Nat) (gb:S) (ds:List EV.D) (n:Nat) (σ:L2.St) (H:Hp):Prop:=∃ δ os,StO X H σ δ os/\aq F1 ↥26/\aq F F1/\OQ X D F (forL i gb (ds.drop n) δ)
theorem Am {D:Ends} {F F1:Hp} {i n:Nat} {ds:List EV.D} {d:EV.D} {v:V} {δ:Dt} {os:Os} (hd:ds[n]? = some d) (S:StO X H σ δ os) (s1:aq F1 ↥26) (s0:aq F F1) (q:OQ X D F (forL i gb (ds.drop n) δ)) (r:Rep X.K X.mg ↥26 v d) :
  vF i v σ H fun σ2 H2=>tS X gb { D with nx:=Pv X D F F1 i gb ds (n+1),ct:=Pv X D F F1 i gb ds (n+1),bk:=D.nx } σ2 H2:=by
 rw [jr hd] at q
 obtain ⟨S2,s2⟩:=S.set (i:=i) r
 refine ⟨_,_,S2,?_⟩
 unfold forL trn at q
 have s3:=(s0.trans s1).trans s2
 cases e:gb ↥108 with
 | nx δ1=>rw [e] at q;exact fun σ' H' os' S' s'=>⟨δ1,os',S',(s1.trans s2).trans s',s0,q⟩
 | ct δ1=>rw [e] at q;exact fun σ' H' os' S' s'=>⟨δ1,os',S',(s1.trans s2).trans s',s0,q⟩
 | bk δ1=>rw [e] at q;exact fun σ' H' os' S' s'=>q σ' H' os' S' (s3.trans s')
 | rt d'=>rw [e] at q;exact fun v' H' s' r'=>q v' H' (s3.trans s') r'
 | ex C δ1=>rw [e] at q;exact fun σ' H' s' r'=>q σ' H' (s3.trans s') r'
 | mk C δ1=>rw [e] at q;exact fun σ' H' s'=>q σ' H' (s3.trans s')
 | hx C δ1=>rw [e] at q;exact fun σ' H' s' r'=>q σ' H' (s3.trans s') r'
 | bad=>rw [e] at q;exact q
theorem Ke {D:Ends} {F F1:Hp} {i n:Nat} {ds:List EV.D} (hn:ds.length<=n) (p:Pv X D F F1 i gb ds n σ H):D.nx σ H:=by
 obtain ⟨δ,os,S,s1,s0,q⟩:=p
 rw [Çg hn] at q
 exact q σ H os S (s0.trans s1)
structure Lp (X:Cx):Prop where
 own:PassesOwn ↥4 X.A X.env X.xe
 calm:X.calm=true
theorem Eu {lo hi:Int} {k:Nat} (h:k<(hi - lo).toNat):(iY lo hi)[k]? = some (.int (lo+k)):=by
 unfold iY
 rw [Ë,Áe h]
 rfl
theorem tH (lo hi:Int):(iY lo hi).length=(hi - lo).toNat:=by simp [iY]
end
end ES
namespace ES
open PySem PySem.Spec PyProof.Rows L2 EV
unseal SE ST SW SA SS SSs
theorem p7 {P:Program} {w:World} {H:Hp} {h:Heap} {a:Addr} {o:HO} (x:gI P w H h a o):∃ ob,h.get? a=some ob:=by
 cases o with
 | lst xs=>obtain ⟨_,_,_,_,e⟩:=x;exact ⟨_,e⟩
 | tup xs=>obtain ⟨_,_,_,ob,e,_⟩:=x;exact ⟨_,e⟩
 | dK kvs=>obtain ⟨_,_,_,_,ob,_,_,e,_⟩:=x;exact ⟨_,e⟩
 | dT kvs=>obtain ⟨_,_,_,_,ob,_,_,e,_⟩:=x;exact ⟨_,e⟩
 | set S n=>obtain ⟨ob,_,_,_,e,_⟩:=x;exact ⟨_,e⟩
 | ins C dx fs=>obtain ⟨_,_,_,e,_⟩:=x;exact ⟨_,e⟩
 | own y=>exact x
 | xd fs=>obtain ⟨_,⟨_,_,_,e,_⟩,_⟩:=x;exact ⟨_,e⟩
 | rng lo hi=>obtain ⟨_,_,_,e⟩:=x;exact ⟨_,e⟩
 | frz ob u=>obtain ⟨e,_⟩:=x;exact ⟨_,e⟩
 | tbl ps=>exact ⟨_,(show h.get? a=some _ from x)⟩
 | met f y=>exact ⟨_,(show h.get? a=some _ from x)⟩
 | ext φ=>obtain ⟨_,e,_⟩:=x;exact e
theorem wy {fs:List Addr} {H H':Hp} {h h1 h2 B:Heap} (u:Un fs [] H H' h h1) (same:aq H H') (i1:∀ b o,h.get? b=some o->H b=none->b∉fs->B.get? b=some o)
  (i2:∀ b u o,H' b=some u->h1.get? b=some o->B.get? b=some o) (st:B.StaysIn h2) (up:h1.UpToSlots h2) (ff:∀ b∈fs,∀ o,h1.get? b=some o->∀ vs,o.data ≠ .fields vs):Un fs [] H H' h h2:=by
 have slot:∀ b o,h.get? b=some o->H b=none->b∈fs->b∉([]:List Addr)->∃ sl,h2.get? b=some { o with slots:=sl }:=fun b o e n hb hx=>by
  obtain ⟨sl,e1⟩:=u.slot b o e n hb hx
  obtain ⟨sl2,e2⟩:=up b _ e1 (ff b hb _ e1)
  exact ⟨sl2,e2⟩
 refine ⟨fun b o e n hb _=>st b o (i1 b o e n hb),slot,u.free,fun b o e hx => ?_,u.tups,u.frzs,u.tbls⟩
 cases n:H b with
 | none =>
  by_cases hb:b∈fs
  ·obtain ⟨sl,e2⟩:=slot b o e n hb hx
   exact ⟨_,e2⟩
  ·exact ⟨o,st b o (i1 b o e n hb)⟩
 | some x =>
  obtain ⟨o',e1⟩:=u.there b o e hx
  exact ⟨o',st b o' (i2 b x o' (same b x n) e1)⟩
theorem oB {P:Program} {w:World} {H':Hp} {h1 h2 B:Heap} (hok:HOk P w H' h1) (i2:∀ b u o,H' b=some u->h1.get? b=some o->B.get? b=some o) (st:B.StaysIn h2):HOk P w H' h2:=fun a o e =>
 (hok a o e).stay (fun b u hb q=>by
  rcases hb with rfl | hb
  ·exact st b u (i2 b o u e q)
  ·exact st b u (i2 b _ u hb q)) (fun _ q=>q) fun _ _ q=>q
theorem ub {P:Program} {w:World} {H':Hp} {h1 h2 B:Heap} (hok:HOk P w H' h1) (i2:∀ b u o,H' b=some u->h1.get? b=some o->B.get? b=some o) (st:B.StaysIn h2):∀ b u o,H' b=some u->h2.get? b=some o->B.get? b=some o:=fun b u o e q=>by
 obtain ⟨ob,e1⟩:=p7 (hok b u e)
 have e2:=i2 b u ob e e1
 have e3:=st b ob e2
 rw [q] at e3
 cases e3
 exact e2
theorem vG {base h:Heap} {l:List Env} (x:h.FunFrames base l):∀ b∈frs l,∀ o,h.get? b=some o->∀ vs,o.data ≠ .fields vs:=fun b hb o e=>by
 obtain ⟨_,o',e',d⟩:=x.mem hb
 rw [e] at e'
 cases e'
 exact d
section
variable {X:Cx} {pins:List ↥6} {σ:L2.St} {H H':Hp} {s s':Shared} {C ea:Addr}
structure Own (X:Cx):Prop where
 stk:X.stack=X.env::X.outer
 frm:X.env.frame=some X.env.locals
 ex:X.ex=[]
theorem Own.frs (h:Own X):L2.frs X.stack=X.env.locals::X.fs:=by
 rw [h.stk]
 unfold L2.frs
 rw [İ,h.frm]
 rfl
theorem iC (I:Inv X pins σ H s) (O:Own X) {B:Heap} (i1:∀ b o,s.heap.get? b=some o->H b=none->b∉L2.frs X.stack->B.get? b=some o):∀ b o,X.s₀.heap.get? b=some o->X.H₀ b=none->b∉X.fs->B.get? b=some o:=fun b o e n hb=>by
 have hx:b∉X.ex:=by rw [O.ex];simp
 refine i1 b o (I.base.keep b o e n hb hx) (I.base.free b o e n hx) fun z => ?_
 rw [O.frs] at z
 rcases Ö.mp z with q | q
 ·exact absurd ↥105 (by rw [q];exact ĉ _)
 ·exact hb q
theorem xW (I:Inv X pins σ H s) (O:Own X) (h:s.heap.get? ea=none):X.s₀.heap.get? ea=none:=by
 cases q:X.s₀.heap.get? ea with
 | none=>rfl
 | some o =>
  obtain ⟨o',e⟩:=I.base.there ea o q (by rw [O.ex];simp)
  rw [h] at e
  cases e
theorem oO (I:Inv X pins σ H s) (O:Own X):Un X.fs [] X.H₀ H X.s₀.heap s.heap:=by
 have z:=I.base
 rw [O.ex] at z
 exact z
theorem yI (I:Inv X pins σ H s) (F:FlyX X.prog X.w X.stack H s C H' ea s'):Inv X pins σ H' s':=I.call' (ch:=[]) F.os F.un F.hok F.bare fun b z=>absurd z ↥80
theorem ym {M:Model} {E:Value->Shared->Prop} {Q:Unit->Shared->Prop} (I:Inv X pins σ H s) (O:Own X) (F:FlyX X.prog X.w X.stack H s C H' ea s') (same:aq X.H₀ H')
  (hQ:∀ s'',FlyX X.prog X.w X.outer X.H₀ X.s₀ C H' ea s''->Q () s''):wpAny M X.A (leaving X.env (.ref ea)) Q E s':=by
 obtain ⟨a0,B,hfl,i1,i2⟩:=F.fly
 have I':=yI I F
 have ff:=vG hfl.2.2.1
 rw [O.stk] at hfl
 refine wpAny_leaves_onW (by rw [I.ok.frames,O.stk]) O.frm hfl fun h' f1 up=>hQ _ ⟨F.os.trans I.os,F.bare,?_,oB F.hok i2 f1.1,same,xW I O F.new,a0,B,f1,iC I O i1,ub F.hok i2 f1.1⟩
 exact wy (oO I' O) same (iC I O i1) i2 f1.1 up fun b hb=>ff b (by rw [O.frs];exact ÿ _ hb)
theorem rV {M:Model} {E:Value->Shared->Prop} {Q:Unit->Shared->Prop} (O:Own X) (F:HeldX X pins σ C H' ea s') (same:aq X.H₀ H')
  (hQ:∀ s'',FlyX X.prog X.w X.outer X.H₀ X.s₀ C H' ea s''->Q () s''):wpAny M X.A (leaving X.env (.ref ea)) Q E s':=by
 obtain ⟨a0,B,hh,i1,i2⟩:=F.fly
 have I:=F.inv
 have ff:=vG hh.2.2.1
 rw [O.stk] at hh
 unfold leaving
 refine wpAny_bind (wpAny_noteFrame_againW O.frm hh.2.2.2 ?_)
 refine wpAny_landsW hh fun h' f1 up => ?_
 obtain ⟨k1,k2,⟨_,_,k3⟩,k4⟩:=f1
 refine hQ _ ⟨I.os,I.bare,?_,oB I.hok i2 k1,same,F.new,a0,B,⟨k1,k2,k3,k4⟩,i1,ub I.hok i2 k1⟩
 exact wy (oO I O) same i1 i2 k1 up fun b hb=>ff b (by rw [O.frs];exact ÿ _ hb)
theorem rT {M:Model} {E:Value->Shared->Prop} {Q:Unit->Shared->Prop} {h1:Heap} {vs:List Value} (I:Inv X pins σ H s) (O:Own X) (made:Heap.MadeExcOf s.heap h1 ea ↥52 vs) (same:aq X.H₀ H)
  (hQ:∀ s'',FlyX X.prog X.w X.outer X.H₀ X.s₀ C H ea s''->Q () s''):wpAny M X.A (leaving X.env (.ref ea)) Q E { s with heap:=h1 }:=by
 have hst:=I.stack
 have ff:=vG hst
 have i1:∀ b o,s.heap.get? b=some o->H b=none->b∉L2.frs X.stack->(ē s.heap (L2.frs X.stack)).get? b=some o:=fun b o e _ hb=>į _ e hb
 have i2:∀ b u o,H b=some u->s.heap.get? b=some o->(ē s.heap (L2.frs X.stack)).get? b=some o:=fun b u o e q=>į _ q fun z=>by
  rw [I.stkFree b z] at e
  cases e
 have hl:=PySem.W.funFrames_hide (as:=L2.frs X.stack) hst fun env he b hb=>Ĺ.mpr ⟨env,he,hb⟩
 rw [O.stk] at hl
 refine wpAny_leaves_madeW (s:={ s with heap:=h1 }) (base:=ē s.heap (L2.frs X.stack)) (by rw [I.ok.frames,O.stk]) O.frm (fun b o e=>Âc _ e) (by rw [O.stk] at *;exact hl) made fun h' t f1 _ _ up=>hQ _ ⟨I.os,I.bare,?_,oB I.hok i2 f1.1,same,xW I O made.new,_,_,f1,iC I O i1,ub I.hok i2 f1.1⟩
 exact wy (oO I O) same (iC I O i1) i2 f1.1 ((Heap.UpToSlots.of_keeps made.keeps).trans up) fun b hb=>ff b (by rw [O.frs];exact ÿ _ hb)
end
def CXF (P:Program) (w:World):CXT:=fun outer H s E e s'=>∃ C H' ea,e=.ref ea/\FlyX P w outer H s C H' ea s'/\E ↥52 none H'
def spP (K:PySem.W.Frag) (mg:Str->Option Value) (f:List D->R D):Sp:=fun vs H Q E=>∃ ds,Reps K mg H vs ds/\match f ds with
 | .ok d=>∀ v H',aq H H'->Rep K mg H' v d->Q v H'
 | .ex C=>∀ Ca,mg C=some (.ref Ca)->∀ H',aq H H'->E (.ref Ca) none H'
 | .bad=>False
theorem lb {CX:CXT} {P:Program} {w:World} {K:PySem.W.Frag} {mg:Str->Option Value} {base:Heap} {N:List Str} {qual:Str} {sc:Scope} {f:Addr} {cdv:Value} {A:Around} {outer:List Env} {s:Shared} {H:Hp} {E:XK} :
  Own (CU CX P w K mg base N qual sc f cdv A outer s H E):=⟨rfl,rfl,rfl⟩
section
variable {P:Program} {w:World} {K:PySem.W.Frag} {mg:Str->Option Value} {base:Heap} {N:List Str} {qual:Str} {sc:Scope} {f:Addr} {cdv:Value} {A:Around} {outer:List Env} {s:Shared} {H H':Hp} {E:XK} {C:Addr} {σ:L2.St}
theorem Kc (same:aq H H') (hE:E ↥52 none H'):ew ↥129 C σ H' :=
 fun pins H1 s1 ea s' I F=>ym I lb F same fun s'' F'=>⟨C,H',ea,rfl,F',hE⟩
theorem FW (same:aq H H') (hE:E ↥52 none H'):ehx ↥129 C σ H' :=
 fun pins ea s' F=>rV lb F same fun s'' F'=>⟨C,H',ea,rfl,F',hE⟩
theorem Kf (same:aq H H') (hE:E ↥52 none H'):em ↥129 C σ H' :=
 fun pins s1 h' ea vs I made=>rT I lb made same fun s'' F'=>⟨C,H',ea,rfl,F',hE⟩
end
structure ScF (N G ps:List Str) (sc:Scope):Prop where
 fs:FnScope N ps sc
 loc:∀ x∈N,Loc sc x
 glb:∀ x∈G,sc.names.lookup x=some .globalImplicit
 dbg:∀ x∈N,↥35=false/\(x == ("__classdict__":Str))=false
 dbgG:∀ x∈G,↥35=false/\x≠"__name__"
structure Pl (X:Cx) (N G:List Str):Prop extends Sx X N where
 sto:∀ x∈N,Sto X x
 gb:∀ x∈G,Gb X x
noncomputable instance locDec {sc:Scope} {x:Str}:Decidable (Loc sc x):=inferInstanceAs (Decidable (_\/_))
theorem CO {sc:Scope} {x:Str} (h:Loc sc x):Vis sc x:=h.elim .inl fun z=>.inr (.inl z)
theorem pI {K:PySem.W.Frag} {mg:Str->Option Value} {H:Hp} {N:List Str} {n m:Nat}:∀ {vs:List V} {ds:List D},Reps K mg H vs ds->ds.length=n->N.length=m->Stt K mg H (L2.start N vs) (EV.start n m ds):=by
 intro vs ds r hn hm
 have hl:=r.length
 refine ⟨by simp [L2.start,EV.start,hl,hn,hm],fun i d e _ => ?_⟩
 unfold EV.start at e
 by_cases hi:i<ds.length
 ·rw [ý (by simpa using hi),Ë] at e
  cases q:ds[i]? with
  | none=>rw [q] at e;cases e
  | some d' =>
   rw [q] at e
   have e':d'=d:=Ó.inj ↥109
   subst e'
   obtain ⟨v,h1,h2⟩:=r.get q
   exact ⟨v,by unfold L2.start;rw [ý (by simp;omega),Ë,h1];rfl,h2⟩
 ·rw [û (by simpa using hi),Ŏ] at e
  split at e<;>cases e
theorem kE {K:PySem.W.Frag} {mg:Str->Option Value} {H:Hp} {n m:Nat} {vs:List V} {ds:List D} (r:Reps K mg H vs ds) (i:Nat) (es:List D):(EV.start n m ds)[i]? ≠ some (some (.own es)):=fun e=>by
 unfold EV.start at e
 by_cases hi:i<ds.length
 ·rw [ý (by simpa using hi),Ë] at e
  cases q:ds[i]? with
  | none=>rw [q] at e;cases e
  | some d' =>
   rw [q] at e
   have e':d'=.own es:=Ó.inj ↥109
   subst e'
   obtain ⟨v,h1,h2⟩:=r.get q
   cases h2
 ·rw [û (by simpa using hi),Ŏ] at e
  split at e<;>cases e
theorem MB {P:Program} {w:World} {K:PySem.W.Frag} {mg:Str->Option Value} {base:Heap} {x qual:Str} {st:Stmt} {f:Addr} {fd:FuncData} {N G ps:List Str} {k n m:Nat} {g:S}
  (F:Fun K x qual st f fd) (S:ScF N G ps (aa st)) (hn:ps.length=n) (hm:N.length=m)
  (hbody:∀ X:Cx,X.prog=P->X.w=w->X.K=K->X.mg=mg->X.base=base->Room k X.A->Lp X->Own X->Pl X N G->X.env.scope=aa st->SSs X (ag st) g) :
  FnOk P w K mg base (CXF P w) (k+1) f fd ps (spP K mg (fn n m g)):=by
 obtain ⟨oc,od,kV,doc,pm,an,cdv,ct,osl,rfl,lk,hcd⟩:=F.ex
 have len:∀ {ds:List D},fn n m g ds ≠ .bad->ds.length=n:=fun {ds} h=>by
  unfold fn at h
  split at h
  ·assumption
  ·exact absurd rfl h
 refine FK lk hcd S.fs (fun vs H Q E h => ?_) fun A outer s H vs Q E hr h => ?_
 ·obtain ⟨ds,rs,h⟩:=h
  rw [rs.length,hn]
  refine len fun z => ?_
  rw [z] at h
  exact h
 ·obtain ⟨ds,rs,h⟩:=h
  have hl:ds.length=n:=len fun z=>by rw [z] at h;exact h
  refine ⟨_,hbody (CU (CXF P w) P w K mg base N qual (aa st) f cdv A outer s H E) rfl rfl rfl rfl rfl hr ⟨PassesOwn.leaving,rfl⟩ lb ⟨⟨⟨rfl,S.fs.nd,fun y hy=>CO (S.loc y hy),S.dbg⟩,rfl⟩,fun y hy=>⟨S.loc y hy,.inl rfl⟩,fun y hy=>⟨S.glb y hy,(S.dbgG y hy).1,(S.dbgG y hy).2⟩⟩ rfl,_,[],StO.nil (pI rs hl hm) (kE rs),?_⟩
  rw [uc]
  unfold fn at h
  rw [if_pos hl] at h
  cases e:g (EV.start n m ds) with
  | nx δ=>rw [e] at h;exact fun σ H' os _ s'=>h .non H' (s'.trans (bj _ _)) .non
  | rt d=>rw [e] at h;exact fun v H' s' r=>h v H' s' r
  | ex C δ=>rw [e] at h;exact fun σ H' s' _ Ca hc=>Kc s' (h Ca hc H' s')
  | mk C δ=>rw [e] at h;exact fun σ H' s' Ca hc=>Kf s' (h Ca hc H' s')
  | hx C δ=>rw [e] at h;exact fun σ H' s' _ Ca hc=>FW s' (h Ca hc H' s')
  | bk δ=>rw [e] at h;exact Å h
  | ct δ=>rw [e] at h;exact Å h
  | bad=>rw [e] at h;exact Å h
abbrev at5 (X:Cx) (P:Program) (w:World) (K:PySem.W.Frag) (mg:Str->Option Value) (base:Heap):Cx:={ X with prog:=P,w:=w,K:=K,mg:=mg,base:=base }
theorem uj {P:Program} {w:World} {K:PySem.W.Frag} {mg:Str->Option Value} {base:Heap} {x qual:Str} {st:Stmt} {f:Addr} {fd:FuncData} {N G ps:List Str} {k n m:Nat} {g:S}
  (F:Fun K x qual st f fd) (S:ScF N G ps (aa st)) (hn:ps.length=n) (hm:N.length=m)
  (hbody:∀ X:Cx,Room k (at5 X P w K mg base).A->Lp ↥60->Own ↥60->Pl ↥60 N G->(at5 X P w K mg base).env.scope=aa st->SSs ↥60 (ag st) g) :
  FnOk P w K mg base (CXF P w) (k+1) f fd ps (spP K mg (fn n m g)):=MB F S hn hm fun X hP hw hK hM hB hr L O Pl hS=>by
 subst hP hw hK hM hB
 exact hbody X hr L O Pl hS
theorem us1 {C:List Value->Prop} (h:∀ a,C [a]) (us:List Value) (hl:us.length=1):C us:=by
 match us,hl with
 | [_],_=>exact h _
theorem us2 {C:List Value->Prop} (h:∀ a b,C [a,b]) (us:List Value) (hl:us.length=2):C us:=by
 match us,hl with
 | a::us,hl=>exact us1 (C:=fun us=>C (a::us)) (h a) us (Ëd.inj hl)
theorem us3 {C:List Value->Prop} (h:∀ a b c,C [a,b,c]) (us:List Value) (hl:us.length=3):C us:=by
 match us,hl with
 | a::us,hl=>exact us2 (C:=fun us=>C (a::us)) (h a) us (Ëd.inj hl)
theorem us4 {C:List Value->Prop} (h:∀ a b c d,C [a,b,c,d]) (us:List Value) (hl:us.length=4):C us:=by
 match us,hl with
 | a::us,hl=>exact us3 (C:=fun us=>C (a::us)) (h a) us (Ëd.inj hl)
theorem us5 {C:List Value->Prop} (h:∀ a b c d e,C [a,b,c,d,e]) (us:List Value) (hl:us.length=5):C us:=by
 match us,hl with
 | a::us,hl=>exact us4 (C:=fun us=>C (a::us)) (h a) us (Ëd.inj hl)
theorem us6 {C:List Value->Prop} (h:∀ a b c d e f,C [a,b,c,d,e,f]) (us:List Value) (hl:us.length=6):C us:=by
 match us,hl with
 | a::us,hl=>exact us5 (C:=fun us=>C (a::us)) (h a) us (Ëd.inj hl)
theorem dX {K:PySem.W.Frag} {x qual:Str} {st:Stmt} {f:Addr} {fd:FuncData} {ps:List Str} (F:Fun K x qual st f fd) (hp:ps.length=1)
  (h:∀ (kV doc pm:Value) (an:Option Addr) (cdv ct:Value) (a:Value),bindArgs ↥0 ⟨[a],[]⟩=pure (ps.zip [a])):Binds K fd ps [] :=
 F.binds fun kV doc pm an cdv ct us hl=>us1 (C:=fun us=>bindArgs ↥0 ⟨us,[]⟩=pure (ps.zip us)) ↥132 us (hl.trans hp)
theorem cy {K:PySem.W.Frag} {x qual:Str} {st:Stmt} {f:Addr} {fd:FuncData} {ps:List Str} (F:Fun K x qual st f fd) (hp:ps.length=2)
  (h:∀ (kV doc pm:Value) (an:Option Addr) (cdv ct:Value) (a b:Value),bindArgs ↥0 ⟨[a,b],[]⟩=pure (ps.zip [a,b])):Binds K fd ps [] :=
 F.binds fun kV doc pm an cdv ct us hl=>us2 (C:=fun us=>bindArgs ↥0 ⟨us,[]⟩=pure (ps.zip us)) ↥132 us (hl.trans hp)
theorem dW {K:PySem.W.Frag} {x qual:Str} {st:Stmt} {f:Addr} {fd:FuncData} {ps:List Str} (F:Fun K x qual st f fd) (hp:ps.length=3)
  (h:∀ (kV doc pm:Value) (an:Option Addr) (cdv ct:Value) (a b c:Value),bindArgs ↥0 ⟨[a,b,c],[]⟩=pure (ps.zip [a,b,c])):Binds K fd ps [] :=
 F.binds fun kV doc pm an cdv ct us hl=>us3 (C:=fun us=>bindArgs ↥0 ⟨us,[]⟩=pure (ps.zip us)) ↥132 us (hl.trans hp)
theorem uy {K:PySem.W.Frag} {x qual:Str} {st:Stmt} {f:Addr} {fd:FuncData} {ps:List Str} (F:Fun K x qual st f fd) (hp:ps.length=4)
  (h:∀ (kV doc pm:Value) (an:Option Addr) (cdv ct:Value) (a b c d:Value),bindArgs ↥0 ⟨[a,b,c,d],[]⟩=pure (ps.zip [a,b,c,d])):Binds K fd ps [] :=
 F.binds fun kV doc pm an cdv ct us hl=>us4 (C:=fun us=>bindArgs ↥0 ⟨us,[]⟩=pure (ps.zip us)) ↥132 us (hl.trans hp)
theorem Ku {K:PySem.W.Frag} {x qual:Str} {st:Stmt} {f:Addr} {fd:FuncData} {ps:List Str} (F:Fun K x qual st f fd) (hp:ps.length=5)
  (h:∀ (kV doc pm:Value) (an:Option Addr) (cdv ct:Value) (a b c d e:Value),bindArgs ↥0 ⟨[a,b,c,d,e],[]⟩=pure (ps.zip [a,b,c,d,e])):Binds K fd ps [] :=
 F.binds fun kV doc pm an cdv ct us hl=>us5 (C:=fun us=>bindArgs ↥0 ⟨us,[]⟩=pure (ps.zip us)) ↥132 us (hl.trans hp)
theorem Kt {K:PySem.W.Frag} {x qual:Str} {st:Stmt} {f:Addr} {fd:FuncData} {ps:List Str} (F:Fun K x qual st f fd) (hp:ps.length=6)
  (h:∀ (kV doc pm:Value) (an:Option Addr) (cdv ct:Value) (a b c d e f:Value),bindArgs ↥0 ⟨[a,b,c,d,e,f],[]⟩=pure (ps.zip [a,b,c,d,e,f])):Binds K fd ps [] :=
 F.binds fun kV doc pm an cdv ct us hl=>us6 (C:=fun us=>bindArgs ↥0 ⟨us,[]⟩=pure (ps.zip us)) ↥132 us (hl.trans hp)
structure FnP (P:Program) (w:World) (K:PySem.W.Frag) (mg:Str->Option Value) (base:Heap) (x:Str) (k:Nat) (f:List D->R D):Prop where
 ex:∃ fa fd ps,FnOk P w K mg base (CXF P w) k fa fd ps (spP K mg f)/\mg x=some (.ref fa)/\ŏ K (.ref fa)=true/\Binds K fd ps []
theorem J8 {P:Program} {w:World} {K:PySem.W.Frag} {mg:Str->Option Value} {base:Heap} {x:Str} {fa:Addr} {fd:FuncData} {ps:List Str} {k:Nat} {f:List D->R D}
  (F:FnOk P w K mg base (CXF P w) k fa fd ps (spP K mg f)) (kp:PySem.W.keepIn K (.ref fa)=true) (hm:mg x=some (.ref fa)) (hb:Binds K fd ps []):FnP P w K mg base x k f:=⟨fa,fd,ps,F,hm,kp,hb⟩
structure Callee (X:Cx) (x:Str) (f:List D->R D):Prop where
 ex:∃ k fa fd ps,FnOk X.prog X.w X.K X.mg X.base (CXF X.prog X.w) k fa fd ps (spP X.K X.mg f)/\Room k X.A/\X.mg x=some (.ref fa)/\ŏ X.K (.ref fa)=true/\Binds X.K fd ps []
theorem FnP.callee {X:Cx} {x:Str} {k j:Nat} {f:List D->R D} (F:FnP X.prog X.w X.K X.mg X.base x k f) (hr:Room j X.A) (h:k<=j):Callee X x f:=by
 obtain ⟨fa,fd,ps,a,b,c,d⟩:=F.ex
 exact ⟨k,fa,fd,ps,a,hr.mono h,b,c,d⟩
section
variable {X:Cx} {x:Str} {f:List D->R D} {e:Expr} {es:List Expr} {gs:List E} {p pos:Pos}
theorem Ih {k:Nat} {fa:Addr} {fd:FuncData} {ps:List Str} {pins:List ↥6} {σ:L2.St} {H:Hp} {s:Shared} {Q:VK} {us:List Value} {vs:List V} {ds:List D}
  (F:FnOk X.prog X.w X.K X.mg X.base (CXF X.prog X.w) k fa fd ps (spP X.K X.mg f)) (hr:Room k X.A) (hb:Binds X.K fd ps []) (I:Inv X pins σ H s) (r:Vals vs us) (rs:Reps X.K X.mg H vs ds) (q:RQ X σ H (f ds) Q) :
  wpAny ↥4 X.A (ż (.ref fa) us) ↥70 X.xe s:=by
 have hsp:spP X.K X.mg f vs H Q (fun c _ H'=>∃ C Ca,f ds=.ex C/\X.mg C=some (.ref Ca)/\c=.ref Ca/\aq H H'):=⟨ds,rs,by
  cases e:f ds with
  | ok d=>rw [e] at q;exact q
  | ex C=>exact fun Ca hc H' s'=>⟨C,Ca,rfl,hc,rfl,s'⟩
  | bad=>rw [e] at q;exact q⟩
 have hl:us.length=ps.length:=by rw [<- r.length];exact F.len _ _ _ _ hsp
 have hb':=hb s us I.kIn (by rw [ĭ];exact hl)
 rw [ĭ] at hb'
 refine wpAny_call (codeAny_mono (F.run X.A X.stack s H ⟨us,[]⟩ us vs _ _ hr I.env0 hb' r hsp) fun r s' hq => ?_)
 cases r with
 | error er =>
  obtain ⟨C',H',ea,rfl,FX,C,Ca,e1,hc,e2,s2⟩:=hq
  cases e2
  rw [e1] at q
  exact q C' hc H' s2 pins H s ea s' I FX
 | ok fl =>
  cases fl with
  | ret u=>exact I.after hq
  | next=>exact Å hq
  | brk=>exact Å hq
  | cont=>exact Å hq
theorem lH (c:Callee X x f) (G:Gb X x) (ha:SA X (e::es) gs) (he:starEach (e::es) X.env=↥27::starEach es X.env:=by rfl) (hpl:(backTo pos ↥65).any (·.1)=false:=by rfl) :
  SE X ↥55 (EV.call f gs):=by
 obtain ⟨k,fa,fd,ps,F,hr,hm,hk,hb⟩:=c.ex
 intro pins s σ H Q I ⟨δ,hσ,h⟩
 refine wpAny_Call_Name_kw (oy I G.g hm ?_ G.d)
 refine Âh (h₀:=X.base) I.ok.mod.kin hk (thn (ha pos pins s σ H _ I ⟨δ,hσ,RA.bind h⟩) fun us s1 ⟨vs,H1,I1,r,sm,ds,rs,q⟩=>⟨I1.kIn,Ih F hr hb I1 r rs q⟩) he hpl
end
theorem EL {K:PySem.W.Frag} {h:Heap} {C:Addr} {bmB:List Value} {newId:String} (KX:K.In h) (q:PySem.W.excIn K C bmB newId=true) :
  ∃ bm M nm qn bs hd sn sub ab col dd k0 k1 k2 k3 k5 mN,h.get? C=some (excClassObj nm qn C M bs bm hd sn sub ab col dd k0 k1 k2 k3 k5 newId)/\h.Ns M mN/\mN "__init__"=none/\OwnTail h bmB bm:=by
 unfold PySem.W.excIn at q
 split at q
 ·rename_i d1 cd sl hlk
  split at q
  ·rename_i C' bm k0 k1 k2 k3 n k5 e1 e2
   simp only [ò,beq_iff_eq,Äg] at q
   obtain ⟨⟨⟨⟨⟨r1,r2⟩,r3⟩,r4⟩,r5⟩,r6⟩:=q
   subst r1 r2
   obtain ⟨nm,bs,mro,ns,qn,hd,sn,sub,ab,col,del⟩:=cd
   dsimp only at e1 r3 r5 r6
   subst e1 r3
   have e3:sl = #[k0,k1,k2,k3,some (.builtin n),k5]:=by
    obtain ⟨l⟩:=sl
    simp only at e2
    rw [e2]
   subst e3
   exact ⟨bm,ns,nm,qn,bs,hd,sn,sub,ab,col,d1,k0,k1,k2,k3,k5,_,KX _ _ hlk,.of_isNs (PySem.W.isNs_of_in KX r5),PySem.W.nsMap_none_of_in KX r5 r6,PySem.W.tail_of_in KX r4⟩
  ·cases q
 ·cases q
def bmV:List Value:=[.type "ValueError",.type "Exception",.type "BaseException",.type "object"]
section
variable {X:Cx} {pos:Pos} {x:String} {C:Addr}
theorem kL (hc:X.calm=true) {np cp p3:Pos} {m:Str} {j:Nat} (G:Gb X x) (hm:X.mg x=some ↥52) (hq:PySem.W.excIn X.K C bmV "ValueError.__new__"=true) :
  SS X (.Raise (some (.Call (.Name x np) [.Constant (.str m) j p3] [] cp)) none pos) (raise x):=by
 intro pins s σ H D I ⟨δ,os,S,h⟩
 obtain ⟨bm,M,nm,qn,bs,hd,sn,sub,ab,col,dd,k0,k1,k2,k3,k5,mN,hC,hN,hni,T⟩:=EL I.mod.kin hq
 have FB:ExcBaseFacts "ValueError" "ValueError.__new__" "ValueError.__init__" bmV:=PySem.F.excBase_ValueError
 refine wpAny_Raise_call_subT (C:=C) (nm:=nm) (q:=qn) (N:=M) (bs:=bs) (bm:=bm) (hdct:=hd) (sn:=sn) (sub:=sub) (ab:=ab) (col:=col) (dd:=dd) (k0:=k0) (k1:=k1) (k2:=k2) (k3:=k3) (k5:=k5)
  FB (mN:=mN) (T.hasType FB.hasBase) (I.ok.hd hc) rfl hni (oy I G.g hm ⟨rfl,?_⟩ G.d)
 have hsp:=(fz (X:=X) (CA (x:=m) (j:=j) (pos:=p3)) ip) cp pins s σ H (fun vs H1=>vs.length=1/\H1=H) I (show (1=1/\H=H) from ⟨rfl,rfl⟩)
 refine Èh (thn hsp fun us s2 ⟨vs,H1,I1,r,q1,q2⟩ => ?_)
 subst q2
 have hl:us.length=1:=by rw [<- r.length];exact q1
 exact ⟨rfl,by show us.length<=_;rw [hl,sizeLine_eq];decide,I1.bk _ _ hC,hN.keeps I1.bk,T.keeps I1.bk,fun h' e1 made=>h σ H1 (bj _ _) C hm pins s2 h' e1 us I1 made⟩
end
section
variable {K:PySem.W.Frag} {M:Model} {h:Heap} {C C' e:Addr}
end
section
variable {X:Cx} {pins:List ↥6} {σ:L2.St} {H H':Hp} {s s':Shared} {C ea:Addr} {W:Value->Shared->Prop}
end
structure Catch (K:PySem.W.Frag) (C C':Addr):Prop where
 c1:(Êf K C').isSome=true
 c2:PySem.W.typeIn K (.ref C')=some (.type "type")
 c3:PySem.W.subIn K (.type "type") ↥10=some false
 c4:PySem.W.mroIn K C' ↥58=some true
 c5:PySem.W.mroIn K C (.ref C')=some true
section
variable {X:Cx} {N G:List Str} {pos np hpos:Pos} {n:Str} {cls:String} {C':Addr} {body suite:List Stmt} {b₀:Stmt} {gb gs:S}
end
end ES
namespace ES
open PySem PySem.Spec PyProof.Rows L2 EV
unseal SE ST SW SA SS SSs
def rC (X:Cx) (f:List D->R D):List V->Hp->VK->Prop:=fun vs H Q=>∃ ds d,Reps X.K X.mg H vs ds/\f ds=.ok d/\∀ v H',aq H H'->Rep X.K X.mg H' v d->Q v H'
def NoX (f:List D->R D):Prop:=∀ ds C,f ds ≠ .ex C
theorem RQ.cl (nx:NoX f) (r:Reps X.K X.mg H vs ds) (h:RQ X σ H (f ds) Q):rC X f vs H Q:=by
 cases e:f ds with
 | ok d=>rw [e] at h;exact ⟨ds,d,r,e,h⟩
 | ex C=>exact absurd e (nx ds C)
 | bad=>rw [e] at h;exact Å h
section
variable {X:Cx} {x:Str} {id T:String} {f:List D->R D} {e o:Expr} {es:List Expr} {gs:List E} {g:E} {p pos apos:Pos}
theorem cW (hc:fS X (.builtin id) (rC X f)) (nx:NoX f) (G:Gb X x) (hm:X.mg x=none) (hv:bootBuiltins x=some (.builtin id)) (ha:SA X (e::es) gs)
  (he:starEach (e::es) X.env=↥27::starEach es X.env:=by rfl) (hpl:(backTo pos ↥65).any (·.1)=false:=by rfl):SE X ↥55 (EV.call f gs) :=
 PE.weak (tQ hc G.g hm hv ha G.n G.d he hpl) fun σ H Q ⟨δ,hσ,h⟩=>⟨δ,hσ,(RA.bind h).to fun vs H' s ⟨_,ds,rs,q⟩=>RQ.cl nx rs q⟩
theorem yP (hc:fS X (.type T) (rC X f)) (nx:NoX f) (G:Gb X x) (hm:X.mg x=none) (hv:bootBuiltins x=some (.type T)) (ha:SA X (e::es) gs)
  (he:starEach (e::es) X.env=↥27::starEach es X.env:=by rfl) (hpl:(backTo pos ↥65).any (·.1)=false:=by rfl):SE X ↥55 (EV.call f gs) :=
 PE.weak (pW hc G.g hm hv ha G.n G.d he hpl) fun σ H Q ⟨δ,hσ,h⟩=>⟨δ,hσ,(RA.bind h).to fun vs H' s ⟨_,ds,rs,q⟩=>RQ.cl nx rs q⟩
theorem mn (r:Reps X.K X.mg H vs [d]):∃ v,vs=[v]/\Rep X.K X.mg H v d:=by
 cases r with
 | cons r rr=>cases rr;exact ⟨_,rfl,r⟩
theorem AL (r:Reps X.K X.mg H vs [d,d']):∃ v v',vs=[v,v']/\Rep X.K X.mg H v d/\Rep X.K X.mg H v' d':=by
 cases r with
 | cons r rr =>
  cases rr with
  | cons r' rr=>cases rr;exact ⟨_,_,rfl,r,r'⟩
theorem mv:NoX gG:=fun ds C z=>by unfold gG at z;split at z<;>first | cases z | exact fD z
theorem mC:fS X (.builtin "len") (rC X gG):=by
 intro pins s σ H xs us Q I rs ⟨ds,d,r,e,q⟩
 unfold gG at e
 split at e
 ·cases e
  obtain ⟨v,rfl,r1⟩:=mn r
  cases r1 with
  | @lst a ys _ hq rr=>exact jt pins s σ H _ us Q I rs ⟨a,ys,rfl,.inl hq,by rw [rr.length];exact q _ _ ↥24 (.int _)⟩
 ·cases e
  obtain ⟨v,rfl,r1⟩:=mn r
  cases r1 with
  | @tup a ys _ hq rr=>exact jt pins s σ H _ us Q I rs ⟨a,ys,rfl,.inr hq,by rw [rr.length];exact q _ _ ↥24 (.int _)⟩
 ·split at e
  ·rename_i hz
   cases e
   obtain ⟨v,rfl,r1⟩:=mn r
   cases r1
   exact qu pins s σ H _ us Q I rs ⟨_,rfl,Ð hz (by rw [sizeLine_eq];decide),q _ _ ↥24 (.int _)⟩
  ·cases e
 ·cases e
theorem Mr:NoX GR:=fun ds C z=>by unfold GR at z;split at z<;>cases z
theorem MM:fS X (.builtin "abs") (rC X GR):=by
 intro pins s σ H xs us Q I rs ⟨ds,d,r,e,q⟩
 unfold GR at e
 split at e
 ·cases e
  obtain ⟨v,rfl,r1⟩:=mn r
  cases r1
  exact BV pins s σ H _ us Q I rs ⟨_,rfl,q _ _ ↥24 (.int _)⟩
 ·cases e
theorem Jr:NoX CW:=fun ds C z=>by unfold CW at z;split at z<;>cases z
theorem Kr (hc:X.calm=true):fS X (.builtin "max") (rC X CW):=by
 intro pins s σ H xs us Q I rs ⟨ds,d,r,e,q⟩
 unfold CW at e
 split at e
 ·cases e
  obtain ⟨v,v',rfl,r,r'⟩:=AL r
  cases r;cases r'
  exact yZ hc pins s σ H _ us Q I rs ⟨_,_,rfl,q _ _ ↥24 (.int _)⟩
 ·cases e
theorem Mn:NoX Gm:=fun ds C z=>by unfold Gm at z;split at z<;>cases z
theorem MJ (hc:X.calm=true):fS X (.builtin "min") (rC X Gm):=by
 intro pins s σ H xs us Q I rs ⟨ds,d,r,e,q⟩
 unfold Gm at e
 split at e
 ·cases e
  obtain ⟨v,v',rfl,r,r'⟩:=AL r
  cases r;cases r'
  exact yY hc pins s σ H _ us Q I rs ⟨_,_,rfl,q _ _ ↥24 (.int _)⟩
 ·cases e
theorem xG:NoX oY:=fun ds C z=>by unfold oY at z;split at z<;>cases z
theorem za:fS X (.type "list") (rC X oY):=by
 intro pins s σ H xs us Q I rs ⟨ds,d,r,e,q⟩
 unfold oY at e
 split at e
 ·cases e
  obtain ⟨v,rfl,r1⟩:=mn r
  cases r1 with
  | @lst a ys _ hq rr=>exact fJ pins s σ H _ us Q I rs ⟨a,ys,rfl,.inl hq,fun l hl=>q _ _ (aL hl _) (.lst (SqL.of au) (rr.mono (aL hl _)))⟩
 ·cases e
  obtain ⟨v,rfl,r1⟩:=mn r
  cases r1 with
  | @tup a ys _ hq rr=>exact fJ pins s σ H _ us Q I rs ⟨a,ys,rfl,.inr hq,fun l hl=>q _ _ (aL hl _) (.lst (SqL.of au) (rr.mono (aL hl _)))⟩
 ·cases e
theorem qf:∀ {xs:List V} {ds:List D} {ns:List Int} {us:List Value},intsOf ds=some ns->Reps X.K X.mg H xs ds->Vals xs us->∃ ts:List (Int×Tok),us=ts.map (fun p=>ű p.1 p.2)/\ts.map (·.1)=ns
 | _,[],_,_,e,.nil,.nil=>by cases e;exact ⟨[],rfl,rfl⟩
 | _,.int i::r,ns,_,e,.cons h t,.cons h' t'=>by
  cases h
  unfold intsOf at e
  cases q:intsOf r with
  | none=>rw [q] at e;cases e
  | some ms =>
   rw [q] at e
   have e':i::ms=ns:=Ó.inj e
   subst e'
   obtain ⟨tk,rfl⟩:=h'
   obtain ⟨ts,e1,e2⟩:=qf q t t'
   exact ⟨(i,tk)::ts,by rw [e1];rfl,by rw [Ê,e2]⟩
 | _,.non::_,_,_,e,_,_=>by cases e
 | _,.bl _::_,_,_,e,_,_=>by cases e
 | _,.str _::_,_,_,e,_,_=>by cases e
 | _,.tup _::_,_,_,e,_,_=>by cases e
 | _,.lst _::_,_,_,e,_,_=>by cases e
 | _,.own _::_,_,_,e,_,_=>by cases e
 | _,.ty _::_,_,_,e,_,_=>by cases e
 | _,.cls _::_,_,_,e,_,_=>by cases e
 | _,.exc _::_,_,_,e,_,_=>by cases e
 | _,.ins _ _::_,_,_,e,_,_=>by cases e
theorem ya:MtR X "int.bit_length" (fun x xs H Q=>∃ i,x=.int i/\xs=[]/\Q (.int (nb i)) H):=by
 intro pins s σ H x xs v us Q I rx rs ⟨i,ex,exs,q⟩
 subst ex exs
 obtain ⟨t,rfl⟩:=rx
 cases rs
 refine call_int_bit_length ⟨.int (nb i),H,I.tok _,⟨_,by rw [xY]⟩,q⟩
theorem uu (ho:SE X o g) (hbase:attributeBase o "bit_length" X.env (eval o X.env)=eval o X.env:=by rfl) (hline:(apos.endLine == pos.line)=true:=by rfl):SE X (.Call (.Attribute o "bit_length" apos) [] [] pos) (EV.call jj [g]) :=
 PE.weak (IU PySem.F.plainAttrs_int PySem.F.slot_int_bit_length PySem.F.type_int_bit_length ya ho hbase hline) fun σ H Q ⟨δ,hσ,h⟩=>⟨δ,hσ,by
  have h':RQ X σ H ((g δ).bind fun d=>jj [d]) Q:=by
   unfold EV.call evs at h
   cases r:g δ with
   | ok d=>rw [r] at h;exact h
   | ex C=>rw [r] at h;exact h
   | bad=>rw [r] at h;exact h
  refine (RQ.bind h').to fun v H' s ⟨_,d,r,q⟩ => ?_
  unfold jj at q
  split at q
  ·rename_i e
   cases e
   cases r
   exact ⟨rfl,_,rfl,rfl,q _ _ ↥24 (.int _)⟩
  ·exact Å q⟩
def tyV (mg:Str->Option Value):D->Option Value
 | .non=>some (.type "NoneType")
 | .bl _=>some (.type "bool")
 | .int _=>some (.type "int")
 | .str _=>some (.type "str")
 | .tup _=>some ↥10
 | .lst _=>some (.type "list")
 | .exc n=>mg n
 | _=>none
def Pg (mg:Str->Option Value):D->Option Value
 | .ty n=>some (.type n)
 | .cls n=>mg n
 | _=>none
def Isi (X:Cx) (c:D):Prop:=∀ d k t u,mH [d,c]=.ok (.bl k)->tyV X.mg d=some t->Pg X.mg c=some u->PySem.W.kitOne X.K t u=some k
def qO (X:Cx):Prop:=∀ (e C:Addr) (n:String),aj.contains n=true->X.mg n=some ↥52->PySem.W.KitX X.K (.ref e) ↥52 (fun h=>∃ o vs,h.get? e=some o/\o.cls=.ref C/\o.data=.fields vs)
theorem zo:(∃ d c k,ds=[d,c]/\mH ds=.ok (.bl k))\/mH ds=.bad:=by
 rcases ds with _ | ⟨d,_ | ⟨c,_ | ⟨x,y⟩⟩⟩
 ·exact .inr rfl
 ·exact .inr rfl
 ·cases c<;>first
   | exact .inr rfl
   | (cases d<;>first
     | exact .inr rfl
     | exact JQ rfl)
 ·first
   | exact .inr rfl
   | (cases c<;>exact .inr rfl)
theorem yJ (h:mH [.exc n,c]=.ok (.bl k)):aj.contains n=true:=by
 cases c with
 | cls B =>
  have z:=(eG h).1
  rw [ò] at z
  exact z.1
 | ty B =>
  have z:=(eG h).1
  rw [ò] at z
  exact z.1
 | _=>cases h
theorem MK (hI:Isi X c) (hE:qO X):fS X (.builtin "isinstance") (fun vs H Q=>∃ dx d,Reps X.K X.mg H vs [dx,c]/\mH [dx,c]=.ok d/\∀ v H',aq H H'->Rep X.K X.mg H' v d->Q v H'):=by
 intro pins s σ H xs us Q I rs ⟨dx0,d,r,e,q⟩
 rcases zo (ds:=[dx0,c]) with ⟨dx,dc,k,ez,e'⟩ | e'<;>rw [e'] at e<;>cases e
 cases ez
 obtain ⟨v,v',rfl,r1,r2⟩:=AL r
 cases rs with
 | cons h1 h2 =>
  cases h2 with
  | cons h2 h3 =>
   cases h3
   rename_i u w
   have fin:∀ tk,EP X pins σ Q (.bool k) { s with toks:=tk }:=fun tk=>⟨.bl k,H,I.tok tk,rfl,q _ _ ↥24 (.bl k)⟩
   have hw:Pg X.mg c=some w:=by
    cases r2 with
    | ty n=>cases h2;rfl
    | cls hc=>cases h2;exact hc
    | _=>cases dx0<;>cases e'
   cases r1 with
   | non=>cases (show u=Ŝ from h1);exact ŀ PySem.W.kitx_none I.kIn Âf (hI _ k _ _ e' rfl hw) ↥115 fin
   | bl y=>cases (show u=Ŭ y from h1);exact ŀ PySem.W.kitx_bool I.kIn Âf (hI _ k _ _ e' rfl hw) ↥115 fin
   | int i=>obtain ⟨t,z⟩:=(show ∃ t,u=ű i t from h1);cases z;exact ŀ PySem.W.kitx_int I.kIn Âf (hI _ k _ _ e' rfl hw) ↥115 fin
   | str y=>obtain ⟨t,z⟩:=(show ∃ t,u=Ég y t from h1);cases z;exact ŀ PySem.W.kitx_str I.kIn Âf (hI _ k _ _ e' rfl hw) ↥115 fin
   | @tup a ys ds hq rr =>
    cases (show u=â a from h1)
    obtain ⟨its,_,⟨o,g1,g2,_⟩,_⟩:=I.tuple hq
    exact ŀ PySem.W.kitx_tuple I.kIn ⟨o,g1,g2⟩ (hI _ k _ _ e' rfl hw) ↥115 fin
   | @lst a ys ds hq rr =>
    cases (show u=â a from h1)
    obtain ⟨its,_,⟨o,n,g1,g2,_⟩,_⟩:=I.list hq
    exact ŀ PySem.W.kitx_list I.kIn ⟨o,g1,g2⟩ (hI _ k _ _ e' rfl hw) ↥115 fin
   | @exc a C n hn hq =>
    cases (show u=â a from h1)
    exact ŀ (hE a C n (yJ e') hn) I.kIn (I.hok a _ hq).1 (hI _ k _ _ e' hn hw) ↥115 fin
   | ty n=>cases c<;>cases e'
   | cls _=>cases c<;>cases e'
   | ins _ _ _=>cases c<;>cases e'
theorem F3 (hI:Isi X c) (hE:qO X) (G:Gb X "isinstance") (hm:X.mg "isinstance"=none) (ha:SE X e g) (hb:SE X e2 (con c))
  (hs:starEach [e,e2] X.env=↥27::starEach [e2] X.env:=by rfl) (hs2:starEach [e2] X.env=[(false,eval e2 X.env)]:=by rfl) (hpl:(backTo pos (starEach [e2] X.env)).any (·.1)=false:=by rfl) :
  SE X (.Call (.Name "isinstance" p) [e,e2] [] pos) (EV.call mH [g,con c]) :=
 PE.weak (tQ (MK hI hE) G.g hm PyProof.Rows.boot_isinstance (ak ha (ak hb gH hs2) hs) G.n G.d hs hpl) fun σ H Q ⟨δ,hσ,h⟩=>⟨δ,hσ,by
  cases r:g δ with
  | ok d =>
   have e1:evs [g,con c] δ=.ok [d,c]:=by simp [evs,r,con,R.bind]
   unfold EV.call at h
   rw [e1] at h ⊢
   refine fun vs H' s rs => ?_
   have h':RQ X σ H' (mH [d,c]) Q:=RQ.mono s h
   rcases zo (ds:=[d,c]) with ⟨_,_,k,_,e'⟩ | e'
   ·rw [e'] at h';exact ⟨d,_,rs,e',h'⟩
   ·rw [e'] at h';exact Å h'
  | ex C =>
   have e1:evs [g,con c] δ=.ex C:=by simp [evs,r,R.bind]
   unfold EV.call at h
   rw [e1] at h ⊢
   exact h
  | bad =>
   have e1:evs [g,con c] δ=.bad:=by simp [evs,r,R.bind]
   unfold EV.call at h
   rw [e1] at h
   exact Å h⟩
end
end ES
namespace ES
open PySem PySem.Spec PyProof.Rows L2 EV
unseal SE ST SW SA SS SSs
section
variable {prog:Program} {w:World} {A:Around} {s:Shared} {K:PySem.W.Frag} {e C:Addr}
open PySem.W PySem.Builtin PySem.Builtin.Getset_descriptor in
theorem G9 {R:Result->Shared->Prop} {tp:Value} (L1:Looks ↥3 s.heap (isSubtype ↥52 ↥91) true) (L0:Looks ↥3 s.heap (typeOf (.ref e)) ↥52) (done:R (.ok (.ret ↥52)) s) :
  codeAny ↥3 A (.call (.builtin "getset_descriptor.__get__") ⟨[.builtin "object.__class__",.ref e,tp],[]⟩) R s:=by
 obtain ⟨hh,g,dr,t,os⟩:=s
 refine codeAny_call_builtin KF.slot_gs.plain KF.entry_gs (KF.slot_gs.check _ _ _ _ _ _ _ _ KF.type_class (KF.args_gs _ _ tp) ?_)
 unfold Builtin.«getset_descriptor.__get__»;unfold descrGet;rw [dga_obj]
 refine wpAny_bind (wpAny_pure ?_)
 simp only [descrGetter,descrCheckInstance,descrNameAndClass,isInstance,KF.owner_class]
 repeat lk
 refine ⟨Code.quiet_builtin _ ↥41,?_⟩
 refine codeAny_builtin KF.entry_class ?_
 unfold Builtin.«object.__class__»;unfold shownTypeOf
 repeat lk
 exact done
open PySem.W PySem.Builtin PySem.Builtin.Getset_descriptor in
theorem zL {E:Value->Shared->Prop} {Q:Fin->Shared->Prop} {tk:Tok} (L1:Looks ↥3 s.heap (isSubtype ↥52 ↥91) true) (L0:Looks ↥3 s.heap (typeOf (.ref e)) ↥52)
  (L2:Looks ↥3 s.heap (typeLookup ↥52 "__class__") (some ↥40)) (done:Q (.done (.ret ↥52)) s) :
  wpAny ↥3 A (Builtin.«object.__getattribute__» ⟨[.ref e,.str "__class__" tk],[]⟩) Q E s:=by
 obtain ⟨hh,g,dr,t,os⟩:=s
 have f5:=Èd
 have f6:=F.slot_gs_get.lookup
 have f7:=F.slot_gs_set.lookup
 have hT5:(⟨hh,g,dr,t,os⟩:Shared).TypeIs ↥40 "getset_descriptor":=Èd
 repeat (any_goals (first | assumption | with_reducible refine L0.at ?_ | with_reducible refine L2.at ?_ | wp_step))
 refine G9 L1 L0 ?_
 repeat (any_goals (first | assumption | wp_step))
open PySem.W PySem.Builtin PySem.Builtin.Getset_descriptor in
theorem zM {M:Model} {E:Value->Shared->Prop} {nameV:Value} {Q:Unit->Shared->Prop} (L3:Looks M s.heap (isSubtype ↥52 ↥58) true) (L0:Looks M s.heap (typeOf (.ref e)) ↥52) (done:Q () s) :
  wpAny M A (checkBuiltinCall "BaseException.__getattribute__" ⟨[.ref e,nameV],[]⟩) Q E s:=by
 obtain ⟨hh,g,dr,t,os⟩:=s
 have k1:builtinKind "BaseException.__getattribute__"=some .slot:=by decide +kernel
 have k2:splitId "BaseException.__getattribute__"=some ("BaseException","__getattribute__"):=by decide +kernel
 have ha:=F.args_bexc_ga (.ref e) nameV
 simp only [checkBuiltinCall,k1,k2]
 refine wpAny_bind ?_
 unfold isInstance
 repeat (first | with_reducible refine L0.at ?_ | with_reducible refine L3.at ?_ | wp_step)
 exact done
structure XCls (K:PySem.W.Frag) (C:Addr):Prop where
 c0:PySem.W.mroIn K C ↥91=some true
 c1:PySem.W.mroIn K C ↥58=some true
 c2:PySem.W.findIn K ↥52 "__class__"=some (some ↥40)
 c3:PySem.W.findIn K ↥52 "__getattribute__"=some (some (.builtin "BaseException.__getattribute__"))
 c4:PySem.W.findIn K ↥52 "__getattr__"=some none
 c5:∃ cd,Êf K C=some cd
open PySem.W PySem.Builtin PySem.Builtin.Getset_descriptor in
theorem K6 {E:Value->Shared->Prop} {Q:Value->Shared->Prop} {tk:Tok} (FB:ExcAttrFacts "ValueError") (L0:Looks ↥3 s.heap (typeOf (.ref e)) ↥52) (c:XCls K C) (KX:K.In s.heap) (done:Q ↥52 s) :
  wpAny ↥3 A (getAttrBy (.ref e) (.str "__class__" tk) false) Q E s:=by
 have L1:Looks ↥3 s.heap (isSubtype ↥52 ↥91) true:=looks_mroIn KX c.c0
 have L3:Looks ↥3 s.heap (isSubtype ↥52 ↥58) true:=looks_mroIn KX c.c1
 have L2:Looks ↥3 s.heap (typeLookup ↥52 "__class__") (some ↥40):=looks_findIn KX c.c2
 have L4:Looks ↥3 s.heap (typeLookup ↥52 "__getattribute__") (some (.builtin "BaseException.__getattribute__")):=looks_findIn KX c.c3
 have L5:Looks ↥3 s.heap (typeLookup ↥52 "__getattr__") none:=looks_findIn KX c.c4
 obtain ⟨hh,g,dr,t,os⟩:=s
 have f3:=FB.ga.bind (.ref e)
 have q2:(Àb "BaseException.__getattribute__" == Àb "object.__getattribute__")=false:=by decide +kernel
 have q0:(false&&onTheHeap (Àb "BaseException.__getattribute__"))=false:=rfl
 have q1:(onTheHeap (â C)&&Àb "BaseException.__getattribute__" == Àb "object.__getattribute__")=false:=by rw [q2];rfl
 repeat (any_goals (first | assumption | with_reducible refine L0.at ?_ | with_reducible refine L4.at ?_ | with_reducible refine L5.at ?_ | wp_step))
 refine codeAny_call_builtin FB.ga.plain F.entry_bexc_ga (zM L3 L0 (zL L1 L0 L2 ?_))
 repeat (any_goals (first | assumption | wp_step))
open PySem.W in
theorem FR (c:XCls K C):KitX K (.ref e) ↥52 (fun h=>∃ o vs,h.get? e=some o/\o.cls=.ref C/\o.data=.fields vs) where
 ty:=fun M h KX ⟨o,vs,h1,h2,h3⟩=>h2▸(Looks.ld h1).andThen .now
 it:=fun M h KX _=>by
  obtain ⟨cd,hc⟩:=c.c5
  unfold clsIn at hc
  split at hc
  ·rename_i hlk
   intro A' Q' E' s' k q
   unfold isType loadHead
   exact wpAny_bind (wpAny_loadPart (k _ _ (KX _ _ hlk)) (wpAny_pure q))
  ·cases hc
 ne:=fun h tp dd its n sl KX htp=>by
  obtain ⟨cd,hc⟩:=c.c5
  unfold clsIn at hc
  split at hc
  ·rename_i hlk
   have h1:=KX _ _ hlk
   by_cases z:C=tp
   ·subst z
    rw [htp] at h1
    cases h1
   ·simpa using z
  ·cases hc
 ca:=fun {prog w A E Q s} KX ⟨o,vs,h1,h2,h3⟩ q=>by
  obtain ⟨hh,g,dr,t,os⟩:=s
  have L0:Looks ↥3 hh (typeOf (.ref e)) ↥52:=h2▸(Looks.ld h1).andThen .now
  have by_:∀ {tk:Tok} {t':Nat} {E':Value->Shared->Prop} {Q':Value->Shared->Prop},Q' ↥52 ⟨hh,g,dr,t',os⟩->wpAny ↥3 A (getAttrBy (.ref e) (.str "__class__" tk) false) Q' E' ⟨hh,g,dr,t',os⟩:=fun {tk t' E' Q'} done=>K6 (s:=⟨hh,g,dr,t',os⟩) PySem.F.excAttr_ValueError L0 c KX done
  clear h1
  unfold getAttr? getAttrBy?
  repeat (any_goals (first | assumption | with_reducible apply by_ | wp_step))
end
theorem qj (h:∀ (n:String) (C:Addr),aj.contains n=true->X.mg n=some ↥52->XCls X.K C):qO X:=fun e C n hx hn=>FR (h n C hx hn)
end ES
namespace ES
open PySem PySem.Spec PyProof.Rows L2 EV
unseal SE ST SW SA SS SSs
theorem mG {G:List Str} (i:Nat) {x:Str} (h:G[i]? = some x:=by rfl):x∈G:=ê h
structure XF (K:PySem.W.Frag) (mg:Str->Option Value) (n:String):Prop where
 ex:mg n=none\/∃ C,mg n=some ↥52/\XCls K C
theorem wd {K:PySem.W.Frag} {mg:Str->Option Value} (h:∀ n∈aj,XF K mg n) (n:String) (C:Addr) (hn:aj.contains n=true) (hm:mg n=some ↥52):XCls K C:=by
 rcases (h n (by simpa using hn)).ex with z | ⟨C',z,x⟩
 ·rw [hm] at z;cases z
 ·rw [hm] at z;cases z;exact x
structure CF (K:PySem.W.Frag) (mg:Str->Option Value) (B:Addr) (n:String):Prop where
 ex:mg n=none\/∃ C,mg n=some ↥52/\PySem.W.mroIn K C (.ref B)=some true
structure CB (K:PySem.W.Frag) (B:Addr):Prop where
 c1:∃ cd,Êf K B=some cd
 c2:PySem.W.typeIn K (.ref B)=some (.type "type")
 c3:PySem.W.subIn K (.type "type") ↥10=some false
 c4:PySem.W.mroIn K B ↥58=some true
theorem yu (hn:n≠"ValueError") (i0:PySem.W.kitOne X.K (.type "NoneType") (.type n)=some false) (i1:PySem.W.kitOne X.K (.type "bool") (.type n)=some (n == "int"||n == "bool")) (i2:PySem.W.kitOne X.K (.type "int") (.type n)=some (n == "int"))
  (i3:PySem.W.kitOne X.K (.type "str") (.type n)=some (n == "str")) (i4:PySem.W.kitOne X.K ↥10 (.type n)=some (n == "tuple")) (i5:PySem.W.kitOne X.K (.type "list") (.type n)=some (n == "list")):Isi X (.ty n):=by
 intro d k t u e ht hu
 cases hu
 cases d with
 | exc C =>
  have z:=(eG e).1
  rw [ò,beq_iff_eq] at z
  exact absurd z.2 hn
 | non=>cases ht;obtain ⟨_,rfl⟩:=eG e;exact i0
 | bl b=>cases ht;obtain ⟨_,rfl⟩:=eG e;exact i1
 | int b=>cases ht;obtain ⟨_,rfl⟩:=eG e;exact i2
 | str b=>cases ht;obtain ⟨_,rfl⟩:=eG e;exact i3
 | tup b=>cases ht;obtain ⟨_,rfl⟩:=eG e;exact i4
 | lst b=>cases ht;obtain ⟨_,rfl⟩:=eG e;exact i5
 | _=>cases e
structure IF (K:PySem.W.Frag) (mg:Str->Option Value) (c:Value) (k:Bool) (n:String):Prop where
 ex:mg n=none\/∃ C,mg n=some ↥52/\PySem.W.kitOne K ↥52 c=some k
theorem gL:∀ {ns:List Int},Åh (ns.map PySem.W.WData.int)<=2^20->∀ n∈ns,nb n<=2^20
 | [],_,_,h=>nomatch h
 | m::r,hw,n,h=>by
  rw [Ê,Åh] at hw
  rcases Ö.mp h with rfl | h
  ·have:PySem.W.WData.weight (.int n)=ŧ n:=by simp only [PySem.W.WData.weight,ŧ]
   rw [xY]
   omega
  ·exact gL (ns:=r) ⋯ n h
open PySem.W PySem.Calls Att in
theorem sQ {l:OpenLaw} {n:Nat} {q:Program} {loose:List Str} {XP:(Str->Option Value)->Heap->Prop} {YP:World->Heap->Prop} {d:DefRec}
  (hn:l.most=some n) (hdf:d.params.defaults=[])
  (call:∀ (w:World) (s₀ s₁:Shared) (mg mb:Str->Option Value) (fa:Addr) (a:Addr) (vs:List Value) (ns:List Int),
   Ground q loose [] XP w s₀ mg mb s₁.heap->YP w s₁.heap->mg d.name=some (.ref fa) ->
   s₁.heap.get? a=some { cls:=.type "list",data:=.seq vs.toArray }->IntsAre vs ns->ns.length<=n->(∀ m∈ns,nb m<=2^20)->s₁.gens = #[] ->
   codeAny (model l.prog w) callerA (.call (.ref fa) ⟨[.ref a],[]⟩) (fun r s'=>r=.ok (.ret ↥75)/\OldK s₁.heap s'.heap/\s'.os=s₁.os/\AllBare s'.gens) s₁) :
  WalkO q loose XP YP l.row.toRowW d [] (fun f vs=>ż f vs):=by
 intro w s₀ s₁ mg mb G Y fa o pm cd doc dV kV ho hd hcd hD hmg hg args vals as hpre hlay hrd hwl hlo
 obtain rfl:dV=.none:=Dflts.none hD hdf
 obtain rfl:kV=.none:=Dflts.noKw hD
 obtain ⟨a,vs,ns,rfl,rfl,hobj,hints,hlen⟩:=wV hn hpre hwl
 have hb:∀ m∈ns,nb m<=2^20:=by
  have h1:=(layableW_iff.mp (layW_cons hlay).1).2.2
  rw [WData.weight] at h1
  exact gL h1
 refine enter_call (codeAny_mono (call w s₀ s₁ mg mb fa a vs ns G Y hmg hobj hints hlen hb hg) fun r s' hq => ?_)
 obtain ⟨rfl,h2,h3,h4⟩:=hq
 exact ⟨.inl ⟨.bool true,.bool true,[],rfl,fun _=>rfl,.bool true,xm l _,fun _=>⟨Ŷ,fun _ hm=>(nomatch hm)⟩⟩,h2,h3,h4⟩
end ES
namespace ES
open PySem PySem.Spec PyProof.Rows L2 EV
unseal SE ST SW SA SS SSs
structure FldOk (X:Cx) (cn f:String):Prop where
 ex:∃ C,X.mg cn=some ↥52/\Cls X.K C/\iI X.K C f
structure MethOk (X:Cx) (cn m:String) (F:List D->R D):Prop where
 ex:∃ C fa k fd ps,X.mg cn=some ↥52/\Cls X.K C/\Meth X.K C m fa/\FnOk X.prog X.w X.K X.mg X.base (CXF X.prog X.w) k fa fd ps (spP X.K X.mg F)/\Room k X.A/\Binds X.K fd ps []
section
variable {X:Cx} {o e:Expr} {es:List Expr} {go:E} {gs:List E} {pos apos p:Pos} {cn f m:String} {F:List D->R D}
theorem MF (h:FldOk X cn f) (ho:SE X o go) (hb:attributeBase o f X.env (eval o X.env)=eval o X.env:=by rfl):SE X (.Attribute o f pos) (un (CK cn f) go):=by
 obtain ⟨C,hC,cl,na⟩:=h.ex
 refine PE.weak (IS ho hb) fun σ H Q ⟨δ,hσ,h⟩=>⟨δ,hσ,(RQ.bind h).to fun v H' s ⟨_,d,r,q⟩ => ?_⟩
 cases r with
 | @ins a C' dx n fs ds hn ha rf =>
  unfold CK at q
  simp only at q
  split at q
  ·rename_i hcn
   rw [beq_iff_eq] at hcn
   subst hcn
   split at q
   ·rename_i d hd
    obtain ⟨v,e1,e2⟩:=rf.lookup hd
    rw [hC] at hn
    cases hn
    exact ⟨a,C,dx,fs,v,rfl,ha,cl,na,e1,q _ _ ↥24 e2⟩
   ·exact Å q
  ·exact Å q
 | _=>exact Å q
theorem Fq {σ:L2.St} {H:Hp} {δ:Dt} {d:D} {es:List E} {Q:VK} (h:RQ X σ H (if dP cn m d then (evs es δ).bind fun ds=>F (d::ds) else .bad) Q):dP cn m d=true/\RA X σ H (evs es δ) fun vs H'=>aq H H'/\∃ ds,Reps X.K X.mg H' vs ds/\RQ X σ H' (F (d::ds)) Q:=by
 by_cases hm:dP cn m d=true
 ·rw [if_pos hm] at h
  refine ⟨hm,?_⟩
  have h2:RQ X σ H ((evs es δ).bind fun ds=>F (d::ds)) Q:=h
  cases r:evs es δ with
  | ok ds=>rw [r] at h2;exact fun vs H' s rs=>⟨s,ds,rs,RQ.mono s h2⟩
  | ex C=>rw [r] at h2;exact h2
  | bad=>rw [r] at h2;exact h2
 ·rw [if_neg hm] at h;exact Å h
theorem ur (h:MethOk X cn m F) (ho:SE X o go) (ha:SA X (e::es) gs)
  (hst:starEach (e::es) X.env=↥27::starEach es X.env:=by rfl) (hpl:(backTo pos ↥65).any (·.1)=false:=by rfl)
  (ht:eval (.Call (.Attribute o m apos) (e::es) [] pos) X.env=(do
   let ov<-eval o X.env
   standAt apos.atName
   let (f,first)<-holding [ov] (getMethod ov m pl)
   callWith pos f first (backTo pos (starEach (e::es) X.env)) (backToKw pos (keywordEach [] X.env))):=by rfl) :
  SE X (.Call (.Attribute o m apos) (e::es) [] pos) (GN cn m F go gs):=by
 obtain ⟨C,fa,k,fd,ps,hC,cl,hm,FO,hr,hb⟩:=h.ex
 intro pins s σ H Q I ⟨δ,hσ,h⟩
 refine PySem.W.methodCall_KW (pl:=pl) (thn (ho pins s σ H _ I ⟨δ,hσ,RQ.bind h⟩) fun u s1 ⟨x,H1,I1,rx,sm,d,rd,q⟩ => ?_) ht
 obtain ⟨im,qa⟩:=Fq q
 cases rd with
 | @ins a C' dx n fs ds hn hA rf =>
  unfold dP at im
  rw [ò,beq_iff_eq] at im
  obtain ⟨e1,e2⟩:=im
  subst e1
  rw [hC] at hn
  cases hn
  have l:fs.lookup (m:Str)=none:=rf.lookupN (by simpa using e2)
  obtain rfl:u=â a:=rx
  refine vD I1 hA cl hm l ?_
  refine Âh (first:=[.ref a]) (h₀:=X.base) I.ok.mod.kin hm.kp (thn (ha pos pins s1 σ H1 _ I1 ⟨δ,hσ.mono sm,qa⟩) fun us s2 ⟨vs,H2,I2,r,sm2,ds',rs,q2⟩=>⟨I2.kIn,?_⟩) hst hpl
  exact Ih (us:=.ref a::us) (vs:=.ref a::vs) FO hr hb I2 (.cons rfl r) (.cons (.ins hC (sm2 _ _ hA) (rf.mono sm2)) rs) q2
 | _=>cases im
def spI (K:PySem.W.Frag) (f:Str):Sp:=fun vs H Q _=>∃ x v C dx,vs=[.ref x,v]/\H x=some (.ins C dx [])/\Cls K C/\iI K C f/\Q .non (upd H x (.ins C dx [(f,v)]))
theorem FC {P:Program} {w:World} {K:PySem.W.Frag} {mg:Str->Option Value} {base:Heap} {x qual ps pa f:Str} {st:Stmt} {fa:Addr} {fd:FuncData} {p1 p2 p3 p4:Pos} {k:Nat} (F:Fun K x qual st fa fd)
  (S:FnScope [ps,pa] [ps,pa] (aa st)) (h0:(aa st).names.lookup ps=some .local) (h1:(aa st).names.lookup pa=some .local) (d0:(ps == ("__debug__":Str))=false/\(ps == ("__classdict__":Str))=false) (d1:(pa == ("__debug__":Str))=false/\(pa == ("__classdict__":Str))=false)
  (hb:ag st=[.Assign [.Attribute (.Name ps p1) f p2] (.Name pa p3) p4]) (hsw:∀ env,swapsWith (.Name pa p3) (some (.Attribute (.Name ps p1) f p2)) p4.line env=pure false):FnOk P w K mg base CX0 (k+1) fa fd [ps,pa] (spI K f):=by
 refine F.ok S (fun vs H Q E h => ?_) fun cdv A outer s H vs Q E hr h => ?_
 ·obtain ⟨_,_,_,_,rfl,_⟩:=h
  rfl
 ·obtain ⟨a,v,C,dx,rfl,hH,cl,na,q⟩:=h
  rw [hb]
  refine ⟨_,xj (IE (pV (i:=0) rfl (.inl h0) d0.1 d0.2) (pV (i:=1) rfl (.inl h1) d1.1 d1.2) (hsw _)),?_⟩
  exact ⟨v,rfl,_,rfl,a,C,dx,[],rfl,hH,cl,na,by decide,q⟩
structure MakeOk (X:Cx) (cn f:String):Prop where
 ex:∃ C fa k fd ps,X.mg cn=some ↥52/\Cls X.K C/\iI X.K C f/\Mk X.K C fa/\FnOk X.prog X.w X.K X.mg X.base CX0 k fa fd ps (spI X.K f)/\Room (k+1) X.A/\Binds X.K fd ps []
theorem F0 (h:MakeOk X cn f) (G:Gb X cn) (ha:SA X (e::es) gs) (he:starEach (e::es) X.env=↥27::starEach es X.env:=by rfl) (hpl:(backTo pos ↥65).any (·.1)=false:=by rfl) :
  SE X (.Call (.Name cn p) (e::es) [] pos) (EV.call (mk1 cn f) gs):=by
 obtain ⟨C,fa,k,fd,ps,hC,cl,na,M,F,hr,hb⟩:=h.ex
 refine PE.weak (EH (E:=fun _ _ _=>False) M F hr G.g hC hb .nil Ma ha G.d he hpl) fun σ H Q ⟨δ,hσ,h⟩=>⟨δ,hσ,(RA.bind h).to fun vs H' s ⟨_,ds,rs,q⟩ x dx hx hdx hne => ?_⟩
 unfold mk1 at q
 split at q
 ·rename_i d
  obtain ⟨v,rfl,r⟩:=mn rs
  refine ⟨x,v,C,dx,rfl,au,cl,na,rfl,?_⟩
  have s1:aq H' (upd H' dx (.own x)):=aL hdx _
  have hx1:(upd H' dx (.own x)) x=none:=by rw [ar (ė hne)];exact hx
  have s2:aq (upd H' dx (.own x)) (upd (upd H' dx (.own x)) x (.ins C dx [])):=aL hx1 _
  have s3:aq H' (upd (upd (upd H' dx (.own x)) x (.ins C dx [])) x (.ins C dx [((f:Str),v)])):=fun b o e=>by
   have hb:b≠x:=b9 e hx
   rw [ar hb,ar hb]
   exact s1 b o e
  exact q _ _ s3 (.ins hC au (.cons (r.mono s3) .nil))
 ·exact Å q
end
end ES
namespace ES
open PySem PySem.Spec PyProof.Rows L2 EV
unseal SE ST SW SA SS SSs
def zt (X:Cx) (J:It) (H:Hp) (ds:List D):Prop:=∀ Hc,aq H Hc ->
 (∀ i d,ds[i]? = some d->J.go i Hc/\∀ x H',J.yld i Hc x H'->aq Hc H'/\∀ Hq,aq H Hq->(∀ b o,H' b=some o->Hc b=none->Hq b=some o)->Rep X.K X.mg Hq x d)/\∀ i,ds.length<=i->J.stop i Hc
theorem qW {X:Cx} {H Hc H':Hp} {x:V} {d:D} (e:H'=Hc) (r:Rep X.K X.mg H x d):aq Hc H'/\∀ Hq,aq H Hq->(∀ b o,H' b=some o->Hc b=none->Hq b=some o)->Rep X.K X.mg Hq x d :=
 ⟨by rw [e];exact aq.refl _,fun Hq s _=>r.mono s⟩
def RI (X:Cx) (σ:L2.St) (H:Hp) (r:R (List D)) (Q:It->Hp->Prop):Prop:=match r with
 | .ok ds=>∀ J H',aq H H'->zt X J H' ds->Q J H'
 | .ex C=>∀ Ca,X.mg C=some (.ref Ca)->∀ H',aq H H'->ew X Ca σ H'
 | .bad=>False
def tI (X:Cx) (g:IT):TI:=fun σ H Q=>∃ δ,Stt X.K X.mg H σ δ/\RI X σ H (g δ) Q
@[irreducible] def SI (X:Cx) (tg iter:Expr) (g:IT):Prop:=PI X tg iter (tI X g)
unseal SI
section
variable {X:Cx} {tg e a b:Expr} {g ga gb:E} {σ:L2.St} {H H1:Hp}
theorem RI.mono (s:aq H H1) (h:RI X σ H r Q):RI X σ H1 r Q:=by
 cases r with
 | ok d=>exact fun v H' s' r=>h v H' (s.trans s') r
 | ex C=>exact fun Ca hc H' s'=>h Ca hc H' (s.trans s')
 | bad=>exact h
theorem RI.bind (h:RI X σ H (r.bind f) Q):RQ X σ H r (fun v H'=>aq H H'/\∃ d,Rep X.K X.mg H' v d/\RI X σ H' (f d) Q):=by
 cases r with
 | ok d=>exact fun v H' s r=>⟨s,d,r,h.mono s⟩
 | ex C=>exact h
 | bad=>exact h
theorem PI.weak (h:PI X tg e t) (w:∀ σ H Q,t' σ H Q->t σ H Q):PI X tg e t':=fun pins s σ H Q I q=>h pins s σ H Q I (w σ H Q q)
theorem CP (h:SE X e g):SI X tg e (itL g):=PI.weak (EF h) fun σ H Q ⟨δ,hσ,q⟩=>⟨δ,hσ,(RI.bind q).to fun v H' s ⟨_,d,r,q⟩=>by
 cases d with
 | lst ds =>
  cases r with
  | @lst p xs _ hq rs =>
   refine ⟨p,rfl,⟨xs,hq⟩,q _ _ ↥24 fun Hc sc=>⟨fun i d hd => ?_,fun i hi=>⟨xs,sc.seq hq,by rw [rs.length];exact hi⟩⟩⟩
   obtain ⟨v,e1,r1⟩:=rs.get hd
   exact ⟨⟨xs,v,sc.seq hq,e1⟩,fun x H'' ⟨e2,y⟩=>by
    have:=y xs (sc.seq hq)
    rw [e1] at this
    cases this
    exact qW e2 r1⟩
 | _=>exact Å q⟩
theorem Mu (h:SE X e g):SI X tg e (itT g):=PI.weak (IH h) fun σ H Q ⟨δ,hσ,q⟩=>⟨δ,hσ,(RI.bind q).to fun v H' s ⟨_,d,r,q⟩=>by
 cases d with
 | tup ds =>
  cases r with
  | @tup p xs _ hq rs =>
   refine ⟨p,rfl,⟨xs,hq⟩,q _ _ ↥24 fun Hc sc=>⟨fun i d hd => ?_,fun i hi=>⟨xs,dI sc hq,by rw [rs.length];exact hi⟩⟩⟩
   obtain ⟨v,e1,r1⟩:=rs.get hd
   exact ⟨⟨xs,v,dI sc hq,e1⟩,fun x H'' ⟨e2,y⟩=>by
    have:=y xs (dI sc hq)
    rw [e1] at this
    cases this
    exact qW e2 r1⟩
 | _=>exact Å q⟩
theorem zT {lo hi:Int}:zt X (Itr lo (hi - lo).toNat) H (iY lo hi):=fun Hc sc=>⟨fun i d hd=>by
  have hl:=(É.mp hd).1
  rw [tH] at hl
  rw [Eu hl] at hd
  cases hd
  exact ⟨hl,fun x H' ⟨e,ex⟩=>by subst ex;exact qW e (.int _)⟩,fun i hi'=>by rw [tH] at hi';exact hi'⟩
theorem ua (G:Gb X "range") (hm:X.mg "range"=none) (h:SE X e g) (hs:starEach [e] X.env=[↥27]:=by rfl):SI X tg (.Call (.Name "range" p) [e] [] pos) (Bv g) :=
 PI.weak (xq G.g hm (fz h ip hs) hs) fun σ H Q ⟨δ,hσ,q⟩=>⟨δ,hσ,(RI.bind q).to fun v H' s ⟨_,d,r,q⟩=>by
  cases d with
  | int hi =>
   cases r
   unfold CZ at q
   simp only at q
   split at q
   ·rename_i hb
    refine ⟨hi,rfl,hb.1,hb.2,q _ _ ↥24 ?_⟩
    have:=zT (X:=X) (lo:=0) (hi:=hi) (H:=H')
    rw [Ëe] at this
    exact this
   ·exact Å q
  | _=>exact Å q⟩
end
def FI (X:Cx) (σ:L2.St) (H:Hp) (os:Os) (δ:Dt) (r:R (List D)) (Q:It->Hp->Prop):Prop:=match r with
 | .ok ds=>∀ J H',StO X H' σ δ os->aq ↥26 (hide H' os)->zt X J (hide H' os) ds->Q J H'
 | .ex C=>∀ Ca,X.mg C=some (.ref Ca)->∀ H',aq ↥26 H'->Stt X.K X.mg H' σ ↥113->ew X Ca σ H'
 | .bad=>False
def tFI (X:Cx) (g:IT):TI:=fun σ H Q=>∃ δ os,StO X H σ δ os/\FI X σ H os δ (g δ) Q
section
variable {X:Cx} {N:List Str} {tg e:Expr} {g:IT}
theorem J0 (hx:X.ex=[]) (h:SI X tg e g):PI X tg e (tFI X g):=by
 intro pins s σ H Q I ⟨δ,os,S,q⟩
 have hl:=S.lsts
 have hw:RI X σ ↥26 (g δ) (fun J H1=>aq ↥26 H1/\∃ ds,g δ=.ok ds/\zt X J H1 ds):=by
  cases r:g δ with
  | ok d=>exact fun v H' s r=>⟨s,d,rfl,r⟩
  | ex C =>
   rw [r] at q
   exact fun Ca hc H' s'=>q Ca hc H' s' (S.noOwn s')
  | bad=>rw [r] at q;exact q
 refine thn (h _ s σ _ _ (j7 I hl) ⟨δ,S.st,hw⟩) fun v s1 h1=>thn h1 fun itv s2 h2 => ?_
 obtain ⟨it,fp,tn,J,H1,e1,I1,T,st,fpk,sm,ds,e2,wk⟩:=h2
 obtain ⟨I2,hn⟩:=j6 hx I hl I1
 rw [e2] at q
 have eh:=iy (H:=H) hn
 refine ⟨it,fp,tn,J,dZ H H1 os,e1,I2,T,st,fun b hb => ?_,q J _ (S.shown sm hn) (by rw [eh];exact sm) (by rw [eh];exact wk)⟩
 obtain ⟨f0,f1,f2,f3,f4,f5⟩:=fpk b hb
 have nb:b∉iZ os:=fun z=>by
  obtain ⟨xs,hh⟩:=hl b z
  obtain ⟨o,eo⟩:∃ o,s.heap.get? b=some o:=by
   obtain ⟨_,its,n,_,eo⟩:=I.hok b _ hh
   exact ⟨_,eo⟩
  exact f5 (b,o) (Ç _ (Ç _ (cQ z eo))) rfl
 refine ⟨by unfold dZ;rw [if_neg nb];exact f0,f1,f2,f3,f4,fun p hp=>f5 p ?_⟩
 rw [<- Ć]
 exact ð _ hp
variable {body:List Stmt} {gb:S} {pos:Pos}
theorem pS (C:Sx X N) (L:Lp X) (i:Nat) (hN:N[i]? = some x) (hx:Sto X x) (he:SI X (.Name x pos') e g) (hb:SSs X body gb) (hs:∀ x,foldedSetIterable e X.env x=pure x:=by intro _;rfl) :
  SS X (.For (.Name x pos') e body [] pos) (CS i g gb):=by
 refine PS.weak (ID L.own L.calm (J0 C.ex he) (kR (i:=i) (by rw [C.sc.n];exact C.sc.nd) (by rw [C.sc.n];exact hN) hx.1 hx.2) hb hs) fun D σ H ⟨δ,os,S,q⟩=>⟨δ,os,S,?_⟩
 unfold CS ovI at q
 cases r:g δ with
 | ok ds =>
  rw [r] at q
  intro J H1 S1 s1 wk
  refine ⟨fun n m σ' H'=>m=ds.length - n/\n<=ds.length/\Pv X D ↥26 (hide H1 os) i gb ds n σ' H',⟨ds.length,by simp,Ā _,δ,os,S1,aq.refl _,s1,by rw [ĺ];exact q⟩,?_⟩
  rintro n m σ' H' ⟨rfl,hn,p⟩
  obtain ⟨δ',os',S',s',s0,q'⟩:=id p
  have w:=wk H' (s'.trans (bj _ _))
  by_cases hlt:n<ds.length
  ·have hd:ds[n]? = some ds[n]:=Â hlt
   refine .inr ⟨(w.1 n _ hd).1,Pv X D ↥26 (hide H1 os) i gb ds (n+1),fun σ2 H2 z=>⟨ds.length - (n+1),⋯,rfl,⋯,z⟩,fun x H'' y => ?_⟩
   obtain ⟨e1,r1⟩:=(w.1 n _ hd).2 x H'' y
   have sm:=s'.trans (fG os' e1)
   exact Am hd (S'.mono e1) sm s0 q' (r1 _ sm fun b o z1 z2=>by
    rw [aU fun z=>by obtain ⟨xs,hx⟩:=S'.lsts b z;rw [z2] at hx;cases hx]
    exact z1)
  ·exact .inl ⟨w.2 n ⋯,Ke ⋯ p⟩
 | ex C=>rw [r] at q;exact fun Ca hc H' s' st=>q σ H' s' st Ca hc
 | bad=>rw [r] at q;exact q
end
end ES
namespace ES
open PySem PySem.Spec PyProof.Rows L2 EV
unseal SE ST SW SA SS SSs SI
def sG (env:Env):List (Str×NameKind)->List (Str×Addr)->List (Str×Addr)
 | [],cs=>cs
 | (n,k)::r,cs=>sG env r (if k == .free then (n,(env.cells.lookup n).getD 0)::cs else cs)
theorem m6 (h:∀ y,(y,ċ)∈sc.names->∃ c,env.cells.lookup y=some c):closureFor sc env=pure (sG env sc.names []):=by
 unfold closureFor
 have key:∀ (l:List (Str×NameKind)) (cs:List (Str×Addr)),(∀ y,(y,ċ)∈l->∃ c,env.cells.lookup y=some c) ->
   (forIn l cs fun x (r:List (Str×Addr))=>(match x with | (name,kind)=>if (kind == ċ)=true then do let a<-cellOf env name;pure (þ ((name,a)::r)) else pure (þ r)):Sem _)=pure (sG env l cs):=by
  intro l
  induction l with
  | nil=>intro cs _;rfl
  | cons p r ih =>
   intro cs hl
   obtain ⟨n,k⟩:=p
   rw [Àg]
   by_cases hk:(k == ċ)=true
   ·obtain ⟨c,hc⟩:=hl n (by rw [beq_iff_eq] at hk;subst hk;exact .head _)
    simp only [hk,if_true,cellOf,hc,sG]
    exact ih _ fun y hy=>hl y (.tail _ hy)
   ·simp only [hk,Ô,if_false,sG]
    exact ih _ fun y hy=>hl y (.tail _ hy)
 simp only [key sc.names [] h]
 rfl
theorem yX:∀ {l:List (Str×NameKind)} {cs:List (Str×Addr)},(∀ y,(y,ċ)∈l->∃ c,env.cells.lookup y=some c)->(∀ y c,cs.lookup y=some c->env.cells.lookup y=some c)->∀ y c,(sG env l cs).lookup y=some c->env.cells.lookup y=some c
 | [],_,_,h=>h
 | (n,k)::r,cs,hl,h=>by
  refine yX (l:=r) (fun y hy=>hl y (.tail _ hy)) fun y c e => ?_
  by_cases hk:(k == ċ)=true
  ·rw [if_pos hk,î] at e
   cases q:(y == n) with
   | true =>
    rw [q] at e
    obtain ⟨c',hc⟩:=hl n (by rw [beq_iff_eq] at hk;subst hk;exact .head _)
    rw [beq_iff_eq] at q
    subst q
    rw [hc] at e ⊢
    simpa using e
   | false=>rw [q] at e;exact h y c e
  ·rw [if_neg hk] at e;exact h y c e
theorem qr:∀ {l:List (Str×NameKind)} {cs:List (Str×Addr)} {y:Str},((y,ċ)∈l\/∃ c,cs.lookup y=some c)->∃ c,(sG env l cs).lookup y=some c
 | [],_,_,h=>h.elim ↥115 id
 | (n,k)::r,cs,y,h=>by
  refine qr (l:=r) ?_
  rcases h with h | ⟨c,h⟩
  ·rcases Ö.mp h with z | z
   ·cases z
    exact .inr ⟨_,by rw [if_pos (show (ċ == ċ)=true from rfl),î,beq_self_eq_true]⟩
   ·exact .inl z
  ·refine .inr ?_
   by_cases hk:(k == ċ)=true
   ·rw [if_pos hk,î]
    cases q:(y == n) with
    | true=>exact ⟨_,rfl⟩
    | false=>exact ⟨c,h⟩
   ·rw [if_neg hk];exact ⟨c,h⟩
theorem fw (hk:k ≠ .free):sc.names.lookup x=some k->(relabel sc env).names.lookup x=some k:=by
 unfold relabel
 simp only
 generalize sc.names=l
 induction l with
 | nil=>intro h;cases h
 | cons p r ih =>
  obtain ⟨n,k'⟩:=p
  intro h
  rw [î] at h
  rw [Ê]
  cases q:(x == n) with
  | true =>
   rw [q] at h
   have e:k'=k:=by simpa using h
   subst e
   have:(k' == ċ)=false:=by simpa using hk
   simp [this,î,q]
  | false =>
   rw [q] at h
   split<;>(rw [î,q];exact ih h)
theorem jm (hf:env.scope.kind=.function) (hc:env.kindOf x=some .cell):sc.names.lookup x=some .free->(relabel sc env).names.lookup x=some .cell:=by
 unfold relabel
 simp only
 generalize sc.names=l
 induction l with
 | nil=>intro h;cases h
 | cons p r ih =>
  obtain ⟨n,k'⟩:=p
  intro h
  rw [î] at h
  rw [Ê]
  cases q:(x == n) with
  | true =>
   rw [q] at h
   have e:k'=.free:=by simpa using h
   subst e
   rw [beq_iff_eq] at q
   subst q
   simp [hf,hc,î]
  | false =>
   rw [q] at h
   split<;>(rw [î,q];exact ih h)
theorem mK:(relabel sc env).names.lookup x=some k->sc.names.lookup x=some k\/(sc.names.lookup x=some .free/\k=.cell):=by
 unfold relabel
 simp only
 generalize sc.names=l
 induction l with
 | nil=>intro h;cases h
 | cons p r ih =>
  obtain ⟨n,k'⟩:=p
  intro h
  rw [Ê] at h
  rw [î]
  cases q:(x == n) with
  | true =>
   split at h
   ·rename_i hc
    rw [î,q] at h
    have e:NameKind.cell=k:=by simpa using h
    simp only [ò,beq_iff_eq] at hc
    exact .inr ⟨by rw [hc.1.1],e.symm⟩
   ·rw [î,q] at h
    have e:k'=k:=by simpa using h
    exact .inl (by rw [e])
  | false=>split at h<;>(rw [î,q] at h;exact ih h)
structure ScU (xs ks G:List Str) (sc:Scope):Prop where
 kind:sc.kind=.function
 noc:∀ y∈sc.names,y.2 ≠ .cell
 nms:∀ y∈sc.names,y.2=.local->sc.names.lookup y.1=some .local
 loc:∀ y∈xs,sc.names.lookup y=some .local
 fre:∀ y∈ks,sc.names.lookup y=some .free
 all:∀ y∈sc.names,y.2=.free->y.1∈ks
 glb:∀ y∈G,sc.names.lookup y=some .globalImplicit
 nd:(xs++ks).Nodup
 dbg:∀ y∈xs++ks,(y == ("__debug__":Str))=false/\(y == ("__classdict__":Str))=false
 dbgG:∀ y∈G,(y == ("__debug__":Str))=false/\y≠"__name__"
def cxU (X:Cx) (xs ks:List Str) (sc:Scope) (C:Addr) (fp:List Addr) (s:Shared) (H:Hp) (W:Value->Shared->Prop):Cx :=
 { X with N:=xs++ks,s₀:=s,H₀:=H,env:={ newEnv sc C X.env.globals (sG X.env sc.names []) X.env.qual none .none (some X.env) X.env.builtins with scope:=relabel sc X.env },outer:=X.stack,stack:=X.stack,ex:=fp,fn:=fun _=>false,pn:=[],xe:=W }
theorem Hn (u:Un fs ex H H' h h1) (hC:h.objs.size<=C) (sb:Heap.SameBut C h1 h2):Un fs ex H H' h h2:=by
 have ne:∀ {b:Addr} {o:Obj},h.get? b=some o->b≠C:=fun {b o} e=>æ (è ↥42 hC)
 refine ⟨fun b o e n hb hx=>(sb.2 b (ne e)).trans (u.keep b o e n hb hx),fun b o e n hb hx => ?_,u.free,fun b o e hx => ?_,u.tups,u.frzs,u.tbls⟩
 ·obtain ⟨sl,q⟩:=u.slot b o e n hb hx
  exact ⟨sl,(sb.2 b (ne e)).trans q⟩
 ·obtain ⟨o',q⟩:=u.there b o e hx
  exact ⟨o',(sb.2 b (ne e)).trans q⟩
theorem FF (hok:HOk P w H h1) (hC:H C=none) (sb:Heap.SameBut C h1 h2):HOk P w H h2:=fun b u e =>
 (hok b u e).stay (fun c o hc q=>(sb.2 c (fun z=>by
  subst z
  rcases hc with rfl | hc
  ·rw [hC] at e;cases e
  ·rw [hC] at hc;cases hc)).trans q) (fun _ q=>q) fun _ _ q=>q
def NB (prog:Program) (w:World) (A:Around) (env:Env) (R:Result->Shared->Prop):Value->Shared->Prop:=notedBy ↥3 A env fun x s'=>R (.error x) s'
theorem yi {prog:Program} {w:World} {A:Around} {R:Result->Shared->Prop} {s:Shared} {elt target iter:Expr} {ifs:List Expr} {scope:Scope} {pos:Pos} {it acc:Value} {env:Env} (J:Nat->Shared->Prop)
  (turn:∀ n s,J n s->wpAny ↥3 A (pyNext it) (fun r s1=>match r with
   | none=>R (.ok .next) s1
   | some v=>wpAny ↥3 A (letOwnedTupleGo target it v) (fun _ s2=>wpAny ↥3 A (assign target env v) (fun _ s3 =>
     wpAny ↥3 A (forIn ifs true fun c r=>if r=true then do let ok<-isTrue c env (eval c env);pure (þ ok) else pure (þ r)) (fun ok s4 =>
      if ok=true then wpAny ↥3 A (eval elt env) (fun x s5=>wpAny ↥3 A (ż (.builtin "list.append") [acc,x]) (fun _ s6=>∃ m,m<n/\J m s6) (NB prog w A env R) s5) (NB prog w A env R) s4
      else ∃ m,m<n/\J m s4) (NB prog w A env R) s3) (NB prog w A env R) s2) (NB prog w A env R) s1) (NB prog w A env R) s)
  (n:Nat) (h:J n s):codeAny ↥3 A (.compLoop (.ListComp elt [⟨target,iter,ifs,0⟩] scope pos) 0 it acc env) R s:=by
 refine codeAny_loop rfl J (fun n s hJ => ?_) n h
 show wpAny _ _ ((compTurn (.ListComp elt [⟨target,iter,ifs,0⟩] scope pos) 0 it acc env).onRaise fun x=>do
  noteFrame x env
  theTreesLotGoes x) _ _ s
 refine wpAny_noted ?_
 rw [compTurn_list]
 refine wpAny_bind (wpAny_standAt (wpAny_bind (wpAny_mono (turn n s hJ) (fun r s1 h1 => ?_) fun _ _ z=>z)))
 cases r with
 | none=>exact wpAny_pure h1
 | some v =>
  refine wpAny_bind (wpAny_mono h1 (fun _ s2 h2 => ?_) fun _ _ z=>z)
  refine wpAny_bind (wpAny_mono h2 (fun _ s3 h3 => ?_) fun _ _ z=>z)
  refine wpAny_bind (wpAny_mono h3 (fun ok s4 h4 => ?_) fun _ _ z=>z)
  cases ok with
  | true =>
   rw [if_pos rfl] at h4
   simp only [if_true]
   refine wpAny_bind (wpAny_bind (wpAny_mono h4 (fun x s5 h5 => ?_) fun _ _ z=>z))
   exact wpAny_bind (wpAny_mono h5 (fun _ s6 h6=>wpAny_pure (wpAny_pure ⟨rfl,h6⟩)) fun _ _ z=>z)
  | false =>
   rw [if_neg Í] at h4
   simp only [Ô,if_false]
   first
    | exact wpAny_pure ⟨rfl,h4⟩
    | exact wpAny_bind (wpAny_pure (wpAny_pure ⟨rfl,h4⟩))
def fI (M:Model) (A:Around) (E:Value->Shared->Prop) (use:Option (Value->Sem Unit)) (Q:Value->Shared->Prop) (acc:Value) (C:Addr) (fr:Option Addr) (r:Result) (s':Shared):Prop :=
 match r,use with
 | .ok _,none=>∃ m,s'.heap.Ns C m/\∀ h',Ę C s'.heap h'->Q acc { s' with heap:=h' }
 | .ok _,some u=>wpAny M A (u acc) (fun _ s''=>∃ m,s''.heap.Ns C m/\∀ h',Ę C s''.heap h'->Q .none { s'' with heap:=h' }) E s'
 | .error x,_=>∃ m,s'.heap.Ns C m/\∀ h',Ę C s'.heap h'->∀ cenv:Env,cenv.frame=fr->wpAny M A (passOn "comprehension.variables-let-go" x cenv:Sem Value) (fun _ _=>False) E { s' with heap:=h' }
theorem lJ {M:Model} {A:Around} {E:Value->Shared->Prop} {s:Shared} {env:Env} {e:Expr} {scope:Scope} {pos:Pos} {newAcc first:Sem Value} {g:Comprehension} {gs:List Comprehension} {cl:List (Str×Addr)} {use:Option (Value->Sem Unit)}
  {Q:Value->Shared->Prop}
  (hcl:clausesOf e=g::gs) (hs:∀ x,foldedSetIterable g.iter env x=pure x) (hclos:closureFor scope env=pure cl)
  (hkind:scope.kind=.function) (hnames:∀ x∈scope.names,x.2=.local->scope.names.lookup x.1=some .local)
  (h:wpAny M A first (fun x s₁=>wpAny M A (pyIter x) (fun it s₂=>wpAny M A newAcc (fun acc s₃ =>
   wpAny M A (newFunctionEnv scope env.globals cl [] env.qual none .none (some env)) (fun cenv s₄=>cenv.frame=env.frame /\
    codeAny M A (.compStart e 0 it acc { cenv with scope:=relabel scope env }) (fI M A E use Q acc cenv.locals env.frame) s₄) E s₃) E s₂) E s₁) E s) :
  wpAny M A (comprehension e scope env pos newAcc false first use) Q E s:=by
 unfold comprehension
 rw [hclos,hcl]
 refine wpAny_bind (wpAny_mono h (fun x s₁ h₁=>wpAny_bind (wpAny_standAt (wpAny_bind (wpAny_of_eq (hs x) (wpAny_bind (wpAny_holding (wpAny_mono h₁ (fun it s₂ h₂ =>
  wpAny_standIf (wpAny_bind (wpAny_mono h₂ (fun acc s₃ h₃=>wpAny_bind (wpAny_pure (wpAny_bind (wpAny_mono h₃ (fun cenv s₄ h₄ => ?_) fun _ _ h'=>h')))) fun _ _ h'=>h')))
   fun _ _ h'=>h'))))))) fun _ _ h'=>h')
 obtain ⟨hfr,h₄⟩:=h₄
 dsimp only
 have hv:∀ x∈(scope.names.filter fun x=>(x.2 == .local||x.2 == .cell)&&x.1 != (".0":Str)).reverse,x.2=.local ->
   Env.kindOf { cenv with scope:=relabel scope env } x.1=some .local:=fun x hx hl=>lookup_relabel_local (hnames x (Ĭ.mp (Æa.mp hx)).1 hl)
 have hv':∀ x∈(scope.names.filter fun x=>(x.2 == .local||x.2 == .cell)&&x.1 != (".0":Str)).reverse.drop 1++(scope.names.filter fun x=>(x.2 == .local||x.2 == .cell)&&x.1 != (".0":Str)).reverse.take 1,
   x.2=.local->Env.kindOf { cenv with scope:=relabel scope env } x.1=some .local:=fun x hx hl=>by
  rcases È.mp hx with h1 | h1
  ·exact hv x (ş h1) hl
  ·exact hv x (Ņ h1) hl
 refine wpAny_holding (wpAny_bind (wpAny_attempt (wpAny_holding (wpAny_run (codeAny_mono h₄ fun r s' hr => ?_)))))
 cases r with
 | ok f =>
  cases use with
  | none =>
   obtain ⟨m,hn,hr⟩:=hr
   exact wpAny_bind (wpAny_holding (wpAny_comp_letGo (cenv:={ cenv with scope:=relabel scope env }) hkind _ s' m hv hn fun h' m' _ hs'=>wpAny_pure (hr h' hs')))
  | some u =>
   refine wpAny_bind (wpAny_rule (wpAny_bind (wpAny_holding (wpAny_mono hr (fun _ s'' hr' => ?_) fun _ _ h'=>h'))))
   obtain ⟨m,hn,hr'⟩:=hr'
   exact wpAny_bind (wpAny_comp_letGo (cenv:={ cenv with scope:=relabel scope env }) hkind _ s'' m hv' hn fun h' m' _ hs'=>wpAny_pure (hr' h' hs'))
 | error x =>
  have hr':∃ m,s'.heap.Ns cenv.locals m/\∀ h',Ę cenv.locals s'.heap h'->∀ cenv':Env,cenv'.frame=env.frame->wpAny M A (passOn "comprehension.variables-let-go" x cenv':Sem Value) (fun _ _=>False) E { s' with heap:=h' }:=by cases use<;>exact hr
  obtain ⟨m,hn,hr⟩:=hr'
  exact wpAny_bind (wpAny_holding (wpAny_comp_letGo (cenv:={ cenv with scope:=relabel scope env }) hkind _ s' m hv hn fun h' m' _ hs'=>wpAny_mono (hr h' hs' _ hfr) (fun _ _ f=>f.elim) fun _ _ y=>y))
theorem xg {st:D->R (Option D)} {l:List D} {d:D} {r1:List D} {o:Option D} (h1:runC st l=.ok r1) (h2:st d=.ok o):runC st (l++[d])=.ok (r1++o.toList):=by
 induction l generalizing r1 with
 | nil =>
  cases h1
  rw [Ł]
  unfold runC
  rw [h2]
  cases o<;>rfl
 | cons x l ih =>
  rw [Ž]
  unfold runC at h1 ⊢
  cases q:st x with
  | ok o' =>
   rw [q] at h1
   simp only [R.bind] at h1 ⊢
   cases q2:runC st l with
   | ok r =>
    rw [q2] at h1
    rw [ih q2]
    cases o'<;>(cases h1;rfl)
   | ex C=>rw [q2] at h1;cases h1
   | bad=>rw [q2] at h1;cases h1
  | ex C=>rw [q] at h1;cases h1
  | bad=>rw [q] at h1;cases h1
theorem j3 (h:l5 r=.ex C):False:=by cases r<;>cases h
theorem xU (h:l5 r=.ok a):r=.ok a:=by
 cases r with
 | ok x=>exact h
 | ex C=>cases h
 | bad=>cases h
theorem rn {st:D->R (Option D)} {d:D} {l2:List D}:∀ {l1 r1:List D},runC st l1=.ok r1->(st d=.bad->runC st (l1++d::l2)=.bad)/\∀ C,st d=.ex C->runC st (l1++d::l2)=.ex C
 | [],_,_=>⟨fun e=>by rw [Ł];unfold runC;rw [e];rfl,fun C e=>by rw [Ł];unfold runC;rw [e];rfl⟩
 | a::l1,r1,h=>by
  unfold runC at h
  cases q:st a with
  | ok o =>
   rw [q] at h
   simp only [R.bind] at h
   cases q2:runC st l1 with
   | ok r =>
    obtain ⟨i1,i2⟩:=rn (d:=d) (l2:=l2) q2
    refine ⟨fun e => ?_,fun C e => ?_⟩
    ·rw [Ž];unfold runC;rw [q,i1 e];rfl
    ·rw [Ž];unfold runC;rw [q,i2 C e];rfl
   | ex C=>rw [q2] at h;cases h
   | bad=>rw [q2] at h;cases h
  | ex C=>rw [q] at h;cases h
  | bad=>rw [q] at h;cases h
theorem mX:∀ {a:List D} {r:D},D.flats a=true->D.flat r=true->D.flats (a++[r])=true
 | [],r,_,h=>by show (D.flat r&&D.flats [])=true;rw [h];rfl
 | x::a,r,h,hr=>by
  have h':D.flat x=true/\D.flats a=true:=by simpa [D.flats] using h
  show (D.flat x&&D.flats (a++[r]))=true
  rw [h'.1,mX h'.2 hr]
  rfl
def stG (pt:D->Option (List D)) (c elt:E) (ks:List Nat) (δ:Dt) (d:D):R (Option D):=match pt d with
 | some xs=>(l5 (c ↥67)).bind fun b=>truth b ((elt ↥67).bind fun r=>if D.flat r=true then .ok (some r) else .bad) (.ok none)
 | none=>.bad
theorem Eh (h:EV.R.bad≠stG pt c elt ks δ d):∃ xs k,pt d=some xs/\c ↥67=.ok (.bl k) /\
  ((k=true/\stG pt c elt ks δ d=(elt ↥67).bind fun r=>if D.flat r=true then .ok (some r) else .bad)\/(k=false/\stG pt c elt ks δ d=.ok none)):=by
 unfold stG at h ⊢
 cases e:pt d with
 | none=>rw [e] at h;exact absurd rfl h
 | some xs =>
  rw [e] at h
  simp only at h ⊢
  cases q:l5 (c ↥67) with
  | ok b =>
   have q':=xU q
   rw [q] at h
   simp only [R.bind] at h ⊢
   cases b with
   | bl k =>
    refine ⟨xs,k,rfl,q',?_⟩
    cases k with
    | true=>exact .inl ⟨rfl,rfl⟩
    | false=>exact .inr ⟨rfl,rfl⟩
   | _=>exact absurd rfl h
  | ex C=>exact (j3 q).elim
  | bad=>rw [q] at h;exact absurd rfl h
def Put (σ:L2.St) (vs:List V) (σ':L2.St):Prop:=σ'.length=σ.length/\(∀ (j:Nat) (v:V),vs[j]? = some v->σ'[j]? = some (some v))/\∀ j:Nat,vs.length<=j->σ'[j]? = σ[j]?
structure Tgt (X:Cx) (n:Nat) (pt:D->Option (List D)) (gT:TG):Prop where
 len:∀ d xs,pt d=some xs->xs.length=n
 put:∀ {d:D} {xs:List D} {v:V} {σ:L2.St} {H:Hp} {Q:L2.St->Hp->Prop},pt d=some xs->Rep X.K X.mg H v d->n<=σ.length->(∀ vs σ',Reps X.K X.mg H vs xs->Put σ vs σ'->Q σ' H)->gT v σ H Q
inductive Tst (X':Cx):List Expr->E->Prop
 | nil:Tst X' [] ↥133
 | one {c:Expr} {g:E}:ST X' c g->Tst X' [c] g
theorem DN {X':Cx} {ifs:List Expr} {g:E} (h:Tst X' ifs g) {pins:List ↥6} {s:Shared} {σ:L2.St} {H:Hp} {δ:Dt} {k:Bool} (I:Inv X' pins σ H s) (hσ:Stt X'.K X'.mg H σ δ) (hg:g δ=.ok (.bl k)) {E:Value->Shared->Prop} (hE:∀ e s,X'.xe e s->E e s) :
  wpAny (model X'.prog X'.w) X'.A (forIn ifs true fun c r=>if r=true then do let ok<-isTrue c X'.env (eval c X'.env);pure (þ ok) else pure (þ r)) (fun ok s'=>ok=k/\∃ H',Inv X' pins σ H' s'/\aq H H') E s:=by
 cases h with
 | nil=>cases hg;exact wpAny_tests_nil ⟨rfl,H,I,aq.refl _⟩
 | one h =>
  refine wpAny_mono (wpAny_tests_one (E:=X'.xe) (thn (h pins s σ H (fun b H'=>b=k/\aq H H') I ⟨δ,hσ,?_⟩) fun b s' ⟨H',I',e,sm⟩=>⟨e,H',I',sm⟩)) (fun _ _ x=>x) hE
  rw [hg]
  exact fun H' sm=>⟨rfl,sm⟩
theorem Ka {base h h':Heap}:∀ {l:List Env},h.FunFrames base l->(∀ b∈frs l,h'.get? b=h.get? b)->h'.FunFrames base l
 | [],_,_=>trivial
 | env::r,⟨hk,⟨L,o,hf,hn,ho,hd⟩,hr⟩,k=>by
  have e:frs (env::r)=L::frs r:=by unfold frs;rw [İ,hf]
  rw [e] at k
  exact ⟨hk,⟨L,o,hf,hn,(k L (.head _)).trans ho,hd⟩,Ka hr fun b hb=>k b (.tail _ hb)⟩
theorem BS {X:Cx} (O:Own X) {xs ksn:List Str} {sc:Scope} {fp:List Addr} {WW:Value->Shared->Prop} {pins pins':List ↥6} {σ σ6:L2.St} {H3 Hx H':Hp} {s3 sx s':Shared} {ea Ca:Addr} {use:Option (Value->Sem Unit)} {Qf:Value->Shared->Prop} {acc:Value} {cenv:Env}
  (I3:Inv X pins σ H3 s3) (f3:∀ b∈fp,vU X pins H3 b) (hcf:cenv.frame=X.env.frame) (Ix:Inv ↥13 pins' σ6 Hx sx) (FX:FlyX X.prog X.w X.stack Hx sx Ca H' ea s')
  (kx:∀ b u,H3 b=some u->∃ u',H' b=some u') (hx:∀ ea s',HeldX X pins σ Ca H' ea s'->X.xe (.ref ea) s') :
  NB X.prog X.w X.A cenv (fI ↥4 X.A X.xe use Qf acc s3.heap.objs.size X.env.frame) (.ref ea) s':=by
 have en:noteFrame (.ref ea) cenv=noteFrame (.ref ea) X.env:=by unfold noteFrame PySem.frameOf;rw [hcf]
 unfold NB notedBy
 rw [en]
 obtain ⟨a0,B,hfl,i1,i2⟩:=FX.fly
 have Iy:Inv ↥13 pins' σ6 H' s':=yI Ix FX
 have ff:=vG hfl.2.2.1
 rw [O.stk] at hfl
 refine wpAny_looks_onW (by rw [I3.ok.frames,O.stk]) O.frm hfl fun h4 held up => ?_
 have IX:Inv X pins σ Hx sx:=I3.call' (s':=sx) (ch:=fp) Ix.os Ix.base Ix.hok Ix.bare fun b hb=>⟨(f3 b hb).2.2.2.1,(f3 b hb).2.1,(f3 b hb).2.2.2.2.1,(f3 b hb).2.2.2.2.2⟩
 obtain ⟨m,⟨oC,es,ep,hoC,rC⟩,_⟩:=Ix.loc
 have hoC:sx.heap.get? s3.heap.objs.size=some oC:=hoC
 have nfr:s3.heap.objs.size∉frs X.stack:=fun z=>by
  rw [O.frs] at z
  rcases Ö.mp z with q | q
  ·exact absurd I3.lt (by rw [<- q];exact ĉ _)
  ·exact I3.nofs ↥15 q
 have hBC:B.get? s3.heap.objs.size=some oC:=i1 _ _ hoC Ix.free nfr
 have h4C:h4.get? s3.heap.objs.size=some oC:=held.1 _ _ hBC
 refine ⟨m,⟨oC,es,ep,h4C,rC⟩,fun h5 sb5 cenv' hcf' => ?_⟩
 have kB:(ē B [s3.heap.objs.size]).StaysIn B:=fun b o e=>Âc _ e
 have held':=PySem.W.heldW_base kB held
 have st4:∀ b o,(ē B [s3.heap.objs.size]).get? b=some o->b≠s3.heap.objs.size:=fun b o e z=>by
  rw [z,Èf _ ↥80] at e
  cases e
 obtain ⟨_,hne,hff,oe,vs,T,oT,ts,he,hcls,hd,h1,hnT,hTe,hT,hdT,h3⟩:=held
 have neC:∀ b,B.get? b=none->b≠s3.heap.objs.size:=fun b e z=>by rw [z,hBC] at e;cases e
 have he5:h5.get? ea=some oe:=(sb5.2 _ (neC _ hne)).trans he
 have hT5:h5.get? T=some oT:=(sb5.2 _ (neC _ hnT)).trans hT
 have hsz3:3<ts.size:=(Array.getElem?_eq_some_iff.mp h3).1
 unfold PySem.passOn
 refine wpAny_bind (wpAny_field he5 hd h1 ?_)
 rw [if_neg ↥80]
 show wpAny _ _ (setFlight (.ref ea) cenv'.frame >>= _) _ _ _
 refine wpAny_bind ?_
 unfold setFlight
 refine wpAny_bind (wpAny_field he5 hd h1 ?_)
 rw [if_pos (show (â T != Ŝ)=true from by simp),hcf',O.frm]
 refine wpAny_setField hT5 hdT hsz3 ?_
 refine wpAny_throw (hx ea _ ?_)
 have other:∀ b,b≠T->(h5.update T (Êg (·.setIfInBounds 3 ↥148))).get? b=h5.get? b:=fun b hb=>ç _ _ (ė hb)
 have hT6:=Č (Êg (·.setIfInBounds 3 ↥148)) hT5 (Obj.isFreed_of_fields (Obj.data_mapFields hdT _))
 generalize h5.update T (Êg (·.setIfInBounds 3 ↥148))=h6 at other hT6 ⊢
 have k46:∀ b,b≠T->b≠s3.heap.objs.size->h6.get? b=h4.get? b:=fun b q1 q2=>(other b q1).trans (sb5.2 b q2)
 have st6:(ē B [s3.heap.objs.size]).StaysIn h6:=fun b o e=>by
  rw [k46 b (fun z=>by rw [z] at e;have:=kB _ _ e;rw [hnT] at this;cases this) (st4 b o e)]
  exact held'.1 b o e
 have i2':∀ b u o,H' b=some u->s'.heap.get? b=some o->(ē B [s3.heap.objs.size]).get? b=some o:=fun b u o e q=>į _ (i2 b u o e q) fun z=>by
  have z':b=s3.heap.objs.size:=by simpa using z
  rw [z'] at e
  have:H' s3.heap.objs.size=none:=Iy.free
  rw [this] at e
  cases e
 have i1':∀ b o,s3.heap.get? b=some o->H3 b=none->b∉frs X.stack->b∉fp->(ē B [s3.heap.objs.size]).get? b=some o:=fun b o e n hb hp=>į _ (i1 b o (Ix.base.keep b o e n hb hp) (Ix.base.free b o e n hp) hb) fun z=>by
  have z':b=s3.heap.objs.size:=by simpa using z
  exact absurd ↥42 (by rw [z'];exact ĉ _)
 have u6:Un (frs X.stack) fp H3 H' s3.heap h6:=by
  have u:=Iy.base
  have slot:∀ b o,s3.heap.get? b=some o->H3 b=none->b∈frs X.stack->b∉fp->∃ sl,h6.get? b=some { o with slots:=sl }:=fun b o e n hb hp=>by
   obtain ⟨sl,e1⟩:=u.slot b o e n hb hp
   obtain ⟨sl2,e2⟩:=up b _ e1 (ff b hb _ e1)
   refine ⟨sl2,?_⟩
   rw [k46 b (fun z => ?_) (fun z=>nfr (z▸hb))]
   ·exact e2
   ·have:=vG hff b (by rw [<- O.stk];exact hb) oT (by rw [z];exact hT) ts
    exact this hdT
  refine ⟨fun b o e n hb hp=>st6 b o (i1' b o e n hb hp),slot,u.free,fun b o e hp => ?_,u.tups,u.frzs,u.tbls⟩
  cases n:H3 b with
  | none =>
   by_cases hb:b∈frs X.stack
   ·obtain ⟨sl,e2⟩:=slot b o e n hb hp
    exact ⟨_,e2⟩
   ·exact ⟨o,st6 b o (i1' b o e n hb hp)⟩
  | some x =>
   obtain ⟨o',e1⟩:=u.there b o e hp
   obtain ⟨x',n'⟩:=kx b x n
   exact ⟨o',st6 b o' (i2' b x' o' n' e1)⟩
 refine ⟨I3.call' (s':={ s' with heap:=h6 }) (ch:=fp) Iy.os u6 (oB Iy.hok i2' st6) Iy.bare fun b hb=>⟨(f3 b hb).2.2.2.1,(f3 b hb).2.1,(f3 b hb).2.2.2.2.1,(f3 b hb).2.2.2.2.2⟩,?_,a0,ē B [s3.heap.objs.size],?_,fun b o e n hb => ?_,ub Iy.hok i2' st6⟩
 ·exact xW IX O FX.new
 ·rw [O.stk]
  have nT:∀ b∈frs (X.env::X.outer),h6.get? b=h4.get? b:=fun b hb=>k46 b (fun z=>vG hff b hb oT (by rw [z];exact hT) ts hdT) (fun z=>nfr (by rw [O.stk];exact z▸hb))
  exact ⟨st6,held'.2.1,Ka held'.2.2.1 nT,oe,vs,T,_,_,(k46 ea (ė hTe) (neC _ hne)).trans he,hcls,hd,h1,PySem.W.fresh_of_stays kB hnT,hTe,hT6,Obj.data_mapFields hdT _,by simp [hsz3]⟩
 ·exact į _ (iC IX O i1 b o e n hb) fun z=>by
   have z':b=s3.heap.objs.size:=by simpa using z
   exact absurd (è ↥42 I3.sz) (by rw [z'];exact ĉ _)
section
variable {X:Cx}
set_option maxHeartbeats 2000000 in
theorem qp (hc:X.calm=true) {N:List Str} (S:Sc X N) {xs ksn G:List Str} {ks:List Nat} {tg elt iter:Expr} {ifs:List Expr} {pos ps:Pos} {sc:Scope} {git:IT} {gc ge:E} {pt:EV.D->Option (List EV.D)} {gT:TG} (SC:ScU xs ksn G sc)
  (hks:ks.map ↥84=ksn) (hlt:∀ k∈ks,k<N.length) (hcell:∀ y∈ksn,X.env.scope.names.lookup y=some .cell)
  (he:SI X tg iter git) (TT:Tgt X xs.length pt gT)
  (htg:∀ C fp s H W,Sc ↥7 (xs++ksn)->↥34->PG ↥7 tg gT)
  (htst:∀ C fp s H W,Sc ↥7 (xs++ksn)->↥99->Tst ↥7 ifs gc)
  (helt:∀ C fp s H W,Sc ↥7 (xs++ksn)->↥99->SE ↥7 elt ge)
  (hs:∀ z,foldedSetIterable iter X.env z=pure z) {use:Option (Value->Sem Unit)} {Qf:Value->Shared->Prop}
  {pins:List ↥6} {s:Shared} {σ:L2.St} {H:Hp} {δ:Dt} (I:Inv X pins σ H s) (hσ:Stt X.K X.mg H σ δ)
  (hgit:∀ C,git δ=.ex C->∀ Ca,X.mg C=some (.ref Ca)->∀ H',aq H H'->ew X Ca σ H')
  {ds:List EV.D} (hds:git δ ≠ .bad) (hds':∀ ds',git δ=.ok ds'->ds'=ds/\ds.length<=100000/\runC ↥97 ds ≠ .bad/\∀ rs,runC ↥97 ds=.ok rs->EV.D.flats rs=true)
  (hex:∀ C Ca,runC ↥97 ds=.ex C->X.mg C=some (.ref Ca)->∀ H',aq H H'->∀ ea s',HeldX X pins σ Ca H' ea s'->X.xe (.ref ea) s') (hO:(∃ C,runC ↥97 ds=.ex C)->Own X)
  (hfin:∀ (s1:Shared) (Hc:Hp) (D C:Addr) (ys:List V) (rs:List EV.D),git δ=.ok ds->runC ↥97 ds=.ok rs->EV.D.flats rs=true->H D=none->Hc D=some (.lst ys)->Reps X.K X.mg Hc ys rs->aq H Hc ->
   vU X pins Hc C->Inv X pins σ Hc s1->(∃ m,s1.heap.Ns C m)->(∀ h',Ę C s1.heap h'->Inv X pins σ Hc { s1 with heap:=h' })->fI ↥4 X.A X.xe use Qf (.ref D) C X.env.frame (.ok .next) s1) :
  wpAny ↥4 X.A (comprehension ↥33 sc X.env ps (newList []) false (eval iter X.env) use) Qf X.xe s:=by
 have lenks:ksn.length=ks.length:=by rw [<- hks,Á]
 have atk:∀ (j:Nat) (y:Str),ksn[j]? = some y->∃ k,ks[j]? = some k/\N[k]? = some y:=fun j y e=>by
  rw [<- hks,Ë] at e
  cases q:ks[j]? with
  | none=>rw [q] at e;cases e
  | some k =>
   rw [q] at e
   have e':N.getD k ""=y:=Ó.inj e
   have hk:=hlt k (ê q)
   exact ⟨k,rfl,by rw [<- e',Î,Â hk];rfl⟩
 have frec:∀ y,(y,ċ)∈sc.names->∃ c,X.env.cells.lookup y=some c:=fun y hy=>I.ok.has y (.inl (hcell y (SC.all _ hy rfl)))
 refine lJ (use:=use) rfl hs (m6 frec) SC.kind SC.nms ?_
 have sub:∀ y c,(sG X.env sc.names []).lookup y=some c->X.env.cells.lookup y=some c:=yX frec fun y c e=>nomatch e
 have hq:RI X σ H (git δ) (fun J H'=>aq H H'/\∃ ds,git δ=.ok ds/\zt X J H' ds):=by
  cases r:git δ with
  | ok ds=>exact fun J H' s w=>⟨s,ds,rfl,w⟩
  | ex C=>exact hgit C r
  | bad=>exact absurd r hds
 refine thn (he pins s σ H _ I ⟨δ,hσ,hq⟩) fun v s1 h1=>thn h1 fun itv s2 h2 => ?_
 obtain ⟨it,fp,tn,J,H2,e,I2,T,st2,f2,sm2,ds',eds,wk⟩:=h2
 subst e
 obtain ⟨eq0,hz,nbad,hfl⟩:=hds' ds' eds
 rw [eq0] at eds wk
 have hσ2:Stt X.K X.mg H2 σ δ:=hσ.mono sm2
 refine wpAny_newList ?_ (Ā _)
 have I3:Inv X pins σ (upd H2 s2.heap.objs.size (.lst [])) { s2 with heap:=s2.heap.push { cls:=.type "list",data:=.seq ([]:List Value).toArray } }:=I2.lnew (t':=s2.toks) .nil (Ā _)
 have hnew:H2 s2.heap.objs.size=none:=I2.fresh
 have sm3:aq H2 (upd H2 s2.heap.objs.size (.lst [])):=aL hnew _
 generalize hD:s2.heap.objs.size=D at *
 generalize hH3:upd H2 D (.lst [])=H3 at *
 have hD3:H3 D=some (.lst []):=by rw [<- hH3];exact au
 have keep3:∀ b o,s2.heap.get? b=some o->(s2.heap.push { cls:=.type "list",data:=.seq ([]:List Value).toArray }).get? b=some o:=fun b o q=>Ä _ q
 have st3:tn 0 (s2.heap.push { cls:=.type "list",data:=.seq ([]:List Value).toArray }):=T.keep 0 _ _ st2 fun b _ o q=>keep3 b o q
 have ne3:∀ b∈fp,b≠D:=fun b hb z=>by
  obtain ⟨o,e,_⟩:=T.obj 0 _ st2 b hb
  exact absurd ↥42 (by rw [z,<-hD];exact ĉ _)
 have f3:∀ b∈fp,vU X pins H3 b:=fun b hb=>⟨by rw [<- hH3,ar (ne3 b hb)];exact (f2 b hb).1,(f2 b hb).2⟩
 generalize hs3:({ s2 with heap:=s2.heap.push { cls:=.type "list",data:=.seq ([]:List Value).toArray } }:Shared)=s3 at *
 have st3':tn 0 s3.heap:=by rw [<- hs3];exact st3
 refine wpAny_newFunctionEnv SC.noc (fun y z=>nomatch z) (fun h4 ns4 sb4=>⟨rfl,?_⟩) SC.kind
 generalize hWW:NB X.prog X.w X.A (cxU X xs ksn sc s3.heap.objs.size fp s3 H3 (fun _ _=>False)).env ↥102=WW
 have kp4:∀ b o,s3.heap.get? b=some o->h4.get? b=some o:=fun b o q=>by
  rw [sb4.2 b (æ (à q))]
  exact Ä _ q
 have nst:∀ b∈fp,b∉frs X.stack:=fun b hb z=>by
  rcases Ö.mp (I3.stkSub b z) with q | q
  ·exact (f3 b hb).2.1 q
  ·exact (f3 b hb).2.2.1 q
 have neC:∀ b∈fp,b≠s3.heap.objs.size:=fun b hb=>by
  obtain ⟨ob,e,_⟩:=T.obj 0 _ st3' b hb
  exact æ ↥42
 have fpcl:∀ b∈fp,∀ y c,(sG X.env sc.names []).lookup y=some c->c≠b:=fun b hb y c e=>(f3 b hb).2.2.2.2.1 y c (sub y c e)
 have ok4:(cxU X xs ksn sc s3.heap.objs.size fp s3 H3 WW).Ok:=by
  have o:=I3.ok
  refine ⟨o.mod,SC.kind,o.glob,o.blt,ñ _,fun y z c e1 e2=>o.inj y z c (sub y c e1) (sub z c e2),fun y hy => ?_,fun y c z e=>absurd z Í,o.hd,o.frames,.inl rfl,fun b hb=>⟨neC b hb,fpcl b hb⟩,I3.bs,Ð o.bsz I3.sz,fun b ob e hb => ?_,fun b hb=>nst b hb,I3.stack,I3.stkFree⟩
  ·have hy:(relabel sc X.env).names.lookup y=some .cell\/(relabel sc X.env).names.lookup y=some .free:=hy
   have hf:sc.names.lookup y=some .free:=by
    rcases hy with hy | hy
    ·rcases mK hy with q | ⟨q,_⟩
     ·exact absurd rfl (SC.noc _ (ü q))
     ·exact q
    ·rcases mK hy with q | ⟨_,q⟩
     ·exact q
     ·cases q
   exact qr (.inl (ü hf))
  ·rcases (f3 b hb).2.2.2.1 with q | q
   ·exact o.noex b ob e q
   ·exact absurd (à (o.bs b ob e).1) (Nat.not_lt.mpr q)
 have fun4:X.env.scope.kind=.function:=I3.ok.kind
 have S4:Sc ↥13 (xs++ksn):=by
  refine ⟨rfl,SC.nd,fun y hy => ?_,SC.dbg⟩
  rcases È.mp hy with z | z
  ·exact .inl (fw ↥1 (SC.loc y z))
  ·exact .inr (.inl (jm fun4 (hcell y z) (SC.fre y z)))
 have G4:∀ y∈G,Gb ↥13 y:=fun y hy=>⟨fw ↥1 (SC.glb y hy),(SC.dbgG y hy).1,(SC.dbgG y hy).2⟩
 have E4:=helt s3.heap.objs.size fp s3 H3 WW S4 G4
 have T4:=htst s3.heap.objs.size fp s3 H3 WW S4 G4
 have P4:=htg s3.heap.objs.size fp s3 H3 WW S4 fun y hy=>fw ↥1 (SC.loc y hy)
 have hCn:H3 s3.heap.objs.size=none:=I3.fresh
 have hσ3:Stt X.K X.mg H3 σ δ:=hσ2.mono sm3
 have lenσ3:σ.length=N.length:=by rw [I3.len,S.n]
 have I4:Inv ↥13 [] (Û xs.length none++ks.map fun k=>σ.getD k none) H3 { s3 with heap:=h4,toks:=s3.toks+([]:List (Str×Value)).length }:=by
  refine ⟨ok4,rfl,I3.bare,Un.kept kp4,⟨_,ns4,fun j y v e1 e2 e3 => ?_⟩,fun y c e => ?_,hCn,fun y c e=>I3.freeC y c (sub y c e),fun p hp=>absurd (show p∈([]:List ↥6) from hp) ↥80,I3.hok.kept kp4,by show _=(xs++ksn).length;rw [Æ,Æ,ĥ,Á,lenks]⟩
  ·by_cases hj:j<xs.length
   ·rw [ý (by rw [ĥ];exact hj),Ŏ,if_pos hj] at e2
    cases e2
   ·have e1:(xs++ksn)[j]? = some y:=e1
    rw [û ⋯] at e1
    rw [û (by rw [ĥ];omega),ĥ] at e2
    generalize j - xs.length=j at e1 e2
    have e1':ksn[j]? = some y:=e1
    obtain ⟨k,ek,eN⟩:=atk j y e1'
    rw [Ë,ek] at e2
    have e2':σ.getD k none=some v:=Ó.inj e2
    have eσ:σ[k]? = some (some v):=by
     rw [Î] at e2'
     cases q:σ[k]? with
     | none=>rw [q] at e2';cases e2'
     | some o=>rw [q] at e2';have:o=some v:=e2';rw [this]
    have hy:=ê e1'
    have hyc:=hcell y hy
    obtain ⟨m',hn',hl'⟩:=I3.loc
    obtain ⟨u,ru,lu⟩:=hl' k y v (by rw [S.n];exact eN) eσ (.inr (.inl hyc))
    refine ⟨u,ru,?_⟩
    rcases lu with ⟨k1,_⟩ | ⟨_,c,hcc,ic⟩
    ·have:(some Ãa)=some .cell:=k1.symm.trans hyc
     cases this
    ·obtain ⟨c',hc'⟩:=qr (env:=X.env) (cs:=[]) (.inl (ü (SC.fre y hy)))
     have:c'=c:=by have:=sub y c' hc';rw [hcc] at this;exact (Ó.inj this).symm
     subst this
     obtain ⟨oc,hoc,hd⟩:=ic
     exact .inr ⟨.inl (jm fun4 hyc (SC.fre y hy)),c',hc',oc,kp4 _ _ hoc,hd⟩
  ·obtain ⟨v,oc,hoc,hd⟩:=I3.cell y c (sub y c e)
   exact ⟨v,oc,kp4 _ _ hoc,hd⟩
 have fpc:∀ {Hc:Hp},(∀ b∈fp,Hc b=none)->∀ b∈fp,vU ↥13 [] Hc b:=fun {Hc} hn b hb =>
  ⟨hn b hb,neC b hb,nst b hb,.inl hb,fpcl b hb,fun p hp=>absurd (show p∈([]:List ↥6) from hp) ↥80⟩
 have st4:tn 0 h4:=T.keep 0 _ _ st3' fun b _ o q=>kp4 b o q
 have kc2:∀ {Hc:Hp},(∀ b o,b≠D->H3 b=some o->Hc b=some o)->aq H2 Hc:=fun {Hc} kc b o e=>kc b o (fun z=>by rw [z,hnew] at e;cases e) (sm3 b o e)
 have R4:codeAny ↥4 X.A (.compLoop ↥33 0 (.ref it) (.ref D) (cxU X xs ksn sc s3.heap.objs.size fp s3 H3 WW).env)
   ↥102
   { s3 with heap:=h4,toks:=s3.toks+([]:List (Str×Value)).length }:=by
  refine yi (fun n s'=>∃ i σc Hc ys rsi,Inv ↥13 [] σc Hc s'/\tn i s'.heap/\(∀ b∈fp,Hc b=none)/\n=ds.length - i/\i<=ds.length/\Hc D=some (.lst ys)/\runC ↥97 (ds.take i)=.ok rsi/\ys.length<=i/\Reps X.K X.mg Hc ys rsi/\(∀ b o,b≠D->H3 b=some o->Hc b=some o)/\σc.drop xs.length=(ks.map fun k=>σ.getD k none)/\EV.D.flats rsi=true) ?_ ds.length
   ⟨0,_,H3,[],[],I4,st4,fun b hb=>(f3 b hb).1,rfl,Ā _,hD3,by rw [Ãb];rfl,Ā _,.nil,fun _ _ _ q=>q,by rw [List.drop_append_of_le_length (by rw [ĥ];exact ñ _)];simp,rfl⟩
  have hW':NB X.prog X.w X.A (cxU X xs ksn sc s3.heap.objs.size fp s3 H3 WW).env ↥102=WW:=hWW
  rw [hW']
  rintro n s' ⟨i,σc,Hc,ys,rsi,Ic,st,fr,rfl,hi,hDc,ersi,hyl,hys,kc,tlσ,fl1⟩
  have smc:=kc2 kc
  have wkc:=wk Hc smc
  by_cases hlt':i<ds.length
  ·have hd:ds[i]? = some ds[i]:=Â hlt'
   generalize ds[i]=d at hd
   have etk:ds=ds.take i++(d::ds.drop (i+1)):=by
    have:=Ħ i ds
    rw [jr hd] at this
    exact this.symm
   have nst':EV.R.bad≠stG pt gc ge ks δ d:=fun z=>nbad (by rw [etk];exact (rn ersi).1 z.symm)
   obtain ⟨xd,k,ept,ek,kcase⟩:=Eh nst'
   have ertk:∀ o,stG pt gc ge ks δ d=.ok o->runC ↥97 (ds.take (i+1))=.ok (rsi++o.toList):=fun o eo=>by
    rw [List.take_add_one,hd]
    exact xg ersi eo
   have lxd:=TT.len d xd ept
   refine thn (T.item ↥13 rfl rfl rfl hc i [] s' σc Hc WW Ic (fpc fr) st (wkc.1 i d hd).1) fun r s1 ⟨u,hr,h4'⟩ => ?_
   subst hr
   refine thn h4' fun _ s5 ⟨v,H5,I5,r5,yl,st5,fr5⟩ => ?_
   obtain ⟨sm5,rd⟩:=(wkc.1 i d hd).2 v H5 yl
   have smc5:=smc.trans sm5
   have rd5:=rd H5 smc5 fun b o z _=>z
   have I5':=I5.pinned (fpc fr5) (T.obj _ _ st5)
   have pinf:∀ {σ7:L2.St} {H7:Hp} {s7:Shared},Inv ↥13 ([]++mM fp s5.heap) σ7 H7 s7->∀ b∈fp,∀ o,s5.heap.get? b=some o->s7.heap.get? b=some o/\H7 b=none:=fun {σ7 H7 s7} I7 b hb o q =>
    have z:=I7.pin (b,o) (Ç _ (Ç _ (cQ hb q)))
    ⟨z.1,z.2.1⟩
   have lenσ:σc.length=xs.length+ks.length:=by
    have:=Ic.len
    rw [this]
    show (xs++ksn).length=_
    rw [Æ,lenks]
   refine thn (P4 _ s5 σc H5 v u (fun σ6 H6=>∃ vs,Reps X.K X.mg H5 vs xd/\Put σc vs σ6/\H6=H5) I5' r5 (TT.put ept rd5 ⋯ fun vs σ' rv pu=>⟨vs,rv,pu,rfl⟩)) fun _ s6 ⟨σ6,H6,I6,vs,rv,pu,e6'⟩ => ?_
   subst e6'
   have lvs:vs.length=xs.length:=by rw [rv.length,lxd]
   have hσ6:Stt X.K X.mg H6 σ6 (xd.map some++ks.map fun k=>δ.getD k none):=by
    refine ⟨by rw [pu.1,lenσ,Æ,Á,Á,lxd],fun j d' e nown => ?_⟩
    by_cases hj:j<xd.length
    ·rw [ý (by rw [Á];exact hj),Ë] at e
     cases q:xd[j]? with
     | none=>rw [q] at e;cases e
     | some d'' =>
      rw [q] at e
      cases e
      obtain ⟨v',e1,e2⟩:=rv.get q
      exact ⟨v',pu.2.1 j v' e1,e2⟩
    ·rw [û (by rw [Á];omega),Á,Ë] at e
     cases ek':ks[j - xd.length]? with
     | none=>rw [ek'] at e;cases e
     | some k =>
      rw [ek'] at e
      have e':δ.getD k none=some d':=Ó.inj e
      have eδ:δ[k]? = some (some d'):=by
       rw [Î] at e'
       cases q:δ[k]? with
       | none=>rw [q] at e';cases e'
       | some o=>rw [q] at e';have:o=some d':=e';rw [this]
      obtain ⟨w,ew',rw'⟩:=hσ2.2 k d' eδ nown
      refine ⟨w,?_,rw'.mono smc5⟩
      rw [pu.2.2 j ⋯]
      have ht:(σc.drop xs.length)[j - xd.length]? = some (some w):=by
       rw [tlσ,Ë,ek']
       show some (σ.getD k none)=_
       rw [Î,ew']
       rfl
      rw [Ĉ,show xs.length+(j - xd.length)=j by omega] at ht
      exact ht
   have tl6:σ6.drop xs.length=(ks.map fun k=>σ.getD k none):=by
    rw [<- tlσ]
    refine List.ext_getElem? fun j => ?_
    rw [Ĉ,Ĉ]
    exact pu.2.2 _ ⋯
   have hD5:H6 D=some (.lst ys):=sm5 _ _ hDc
   have kc5:∀ b o,b≠D->H3 b=some o->H6 b=some o:=fun b o hb q=>sm5 _ _ (kc b o hb q)
   have hys5:=hys.mono sm5
   refine thn (DN T4 I6 hσ6 ek (E:=WW) fun _ _ z=>z) fun ok s7 ⟨eok,H7,I7,sm7⟩ => ?_
   subst eok
   rcases kcase with ⟨rfl,eg⟩ | ⟨rfl,eo⟩
   ·rw [if_pos rfl]
    cases eg':ge (xd.map some++ks.map fun k=>δ.getD k none) with
    | bad=>rw [eg'] at eg;exact absurd eg.symm nst'
    | ex C =>
     rw [eg'] at eg
     have ext:runC ↥97 ds=.ex C:=by rw [etk];exact (rn ersi).2 C eg
     refine thn (E4 _ s7 σ6 H7 (fun _ _=>False) I7 ⟨_,hσ6.mono sm7,?_⟩) fun _ _ ⟨_,_,_,_,z⟩=>z.elim
     rw [eg']
     intro Ca hCa H' sm8 pins' Hx sx ea s8 Ix FX
     show WW (.ref ea) s8
     rw [<- hWW]
     exact BS (hO ⟨C,ext⟩) I3 f3 rfl Ix FX (fun b u e=>by
      by_cases hb:b=D
      ·rw [hb];exact ⟨_,sm8 _ _ (sm7 _ _ hD5)⟩
      ·exact ⟨_,sm8 _ _ (sm7 _ _ (kc5 b u hb e))⟩) (hex C Ca ext hCa H' (((sm2.trans smc5).trans sm7).trans sm8))
    | ok r =>
     rw [eg'] at eg
     simp only [R.bind] at eg
     have flo:EV.D.flat r=true:=by
      refine á fun z => ?_
      rw [if_neg z] at eg
      exact nst' eg.symm
     rw [if_pos flo] at eg
     refine thn (E4 _ s7 σ6 H7 (fun v8 H8=>aq H7 H8/\Rep X.K X.mg H8 v8 r) I7 ⟨_,hσ6.mono sm7,by rw [eg'];exact fun v8 H8 sm rp=>⟨sm,rp⟩⟩) fun u8 s8 ⟨v8,H8,I8,r8,sm8,rp8⟩ => ?_
     have sm78:=sm7.trans sm8
     have hD8:H8 D=some (.lst ys):=sm78 _ _ hD5
     refine thn (qc (X:=↥13) _ s8 _ H8 (.ref D) [v8] (.ref D) [u8] (fun _ H9=>H9=upd H8 D (.lst (ys++[v8]))) I8 rfl (.cons r8 .nil) ⟨D,ys,v8,rfl,rfl,hD8,by rw [sizeLine_eq];omega,rfl⟩) fun _ s9 ⟨_,H9,I9,_,e9⟩ => ?_
     subst e9
     have k9:NoL H8 (upd H8 D (.lst (ys++[v8]))):=fun b ob e n _=>by
      rw [ar fun z => ?_];exact e
      rw [z,hD8] at e
      exact n ys (Ó.inj e).symm
     have k9':∀ b ob,b≠D->H8 b=some ob->upd H8 D (.lst (ys++[v8])) b=some ob:=fun b ob hb q=>by rw [ar hb];exact q
     refine ⟨ds.length - (i+1),⋯,i+1,_,_,ys++[v8],rsi++[r],I9.unpinned,T.keep _ _ _ st5 (fun b hb o q=>(pinf I9 b hb o q).1),fun b hb => ?_,rfl,⋯,au,ertk _ eg,by rw [Æ];simp;omega,?_,fun b ob hb q=>k9' b ob hb (sm78 _ _ (kc5 b ob hb q)),tl6,mX fl1 flo⟩
     ·obtain ⟨ob,e,_⟩:=T.obj _ _ st5 b hb
      exact (pinf I9 b hb ob e).2
     ·exact (jX k9 fl1 (hys5.mono sm78)).append (.cons (og k9 flo rp8) .nil)
   ·rw [if_neg Í]
    refine ⟨ds.length - (i+1),⋯,i+1,_,_,ys,rsi,I7.unpinned,T.keep _ _ _ st5 (fun b hb o q=>(pinf I7 b hb o q).1),fun b hb => ?_,rfl,⋯,sm7 _ _ hD5,by rw [ertk _ eo];simp,⋯,hys5.mono sm7,fun b ob hb q=>sm7 _ _ (kc5 b ob hb q),tl6,fl1⟩
    obtain ⟨ob,e,_⟩:=T.obj _ _ st5 b hb
    exact (pinf I7 b hb ob e).2
  ·have ei:i=ds.length:=⋯
   subst ei
   refine thn (T.done ↥13 rfl rfl rfl hc ds.length [] s' σc Hc WW Ic (fpc fr) st (wkc.2 _ ↥15)) fun r s1 ⟨hr,I9⟩ => ?_
   subst hr
   obtain ⟨m,hns,_⟩:=id I9.loc
   have I10:∀ h',Ę s3.heap.objs.size s1.heap h'->Inv X pins σ Hc { s1 with heap:=h' }:=fun h' sb=>I3.call' (s':={ s1 with heap:=h' }) (ch:=fp) I9.os (Hn I9.base ↥15 sb) (FF I9.hok I9.free sb) I9.bare fun b hb =>
    ⟨(f3 b hb).2.2.2.1,(f3 b hb).2.1,(f3 b hb).2.2.2.2.1,(f3 b hb).2.2.2.2.2⟩
   rw [ď ↥15] at ersi
   have hHD:H D=none:=by
    cases q:H D with
    | none=>rfl
    | some o=>have:=sm2 D o q;rw [hnew] at this;cases this
   exact hfin s1 Hc D s3.heap.objs.size ys rsi eds ersi fl1 hHD hDc hys (sm2.trans smc) (I3.fpOk ↥15 I9.free)
    (I10 s1.heap (Heap.SameBut.refl _ _)) ⟨m,hns⟩ I10
 exact codeAny_compStart_list R4 (T.self _ 0 _ _ _ st4 R4)
def pt1 (d:D):Option (List D):=some [d]
theorem M3:Tgt X 1 pt1 (vF 0):=⟨fun d xs e=>by cases e;rfl,fun {d xs v σ H Q} e r hl q=>by
 cases e
 refine q [v] _ (.cons r .nil) ⟨Ĕ ..,fun j w hj => ?_,fun j hj => ?_⟩
 ·cases j with
  | zero=>cases hj;exact Ý ⋯
  | succ j=>simp at hj
 ·exact Ï (by have:1<=j:=hj;omega)⟩
theorem tg1:∀ C fp s H W,Sc ↥17 ([x]++ksn)->(∀ y∈[x],(cxU X [x] ksn sc C fp s H W).env.scope.names.lookup y=some .local)->PG ↥17 (.Name x px) (vF 0) :=
 fun C fp s H W S4 hl=>kR (i:=0) (by rw [S4.n];exact S4.nd) rfl (.inl (hl x ↥80)) (.inr (hl x ↥80))
theorem HV:∀ {ds rs:List EV.D},runC (EV.stC gc ge ks δ) ds=.ok rs->EV.D.flats rs=true->runC (stG pt1 gc ge ks δ) ds=.ok rs
 | [],rs,h,_=>h
 | d::ds,rs,h,hf=>by
  unfold runC at h ⊢
  cases q:EV.stC gc ge ks δ d with
  | ok o =>
   rw [q] at h
   simp only [R.bind] at h
   cases q2:runC (EV.stC gc ge ks δ) ds with
   | ok r =>
    rw [q2] at h
    have e:o.toList++r=rs:=by cases o<;>simpa using h
    have key:stG pt1 gc ge ks δ d=.ok o/\EV.D.flats r=true:=by
     unfold EV.stC at q
     unfold stG pt1
     simp only
     have ei:inC ks δ d=[d].map some++ks.map fun k=>δ.getD k none:=rfl
     rw [ei] at q
     cases q3:l5 (gc ([d].map some++ks.map fun k=>δ.getD k none)) with
     | ok b =>
      rw [q3] at q
      cases b with
      | bl k =>
       cases k with
       | true =>
        simp only [R.bind,truth] at q ⊢
        cases q4:l5 (ge ([d].map some++ks.map fun k=>δ.getD k none)) with
        | ok r' =>
         rw [q4] at q
         cases q
         rw [xU q4]
         rw [<- e] at hf
         have hf':EV.D.flat r'=true/\EV.D.flats r=true:=by simpa [EV.D.flats] using hf
         simp only
         rw [if_pos hf'.1]
         exact ⟨rfl,hf'.2⟩
        | ex C=>rw [q4] at q;cases q
        | bad=>rw [q4] at q;cases q
       | false =>
        simp only [R.bind,truth] at q ⊢
        cases q
        exact ⟨rfl,by rw [show r=rs from e];exact hf⟩
      | _=>cases q
     | ex C=>exact (j3 q3).elim
     | bad=>rw [q3] at q;cases q
    rw [key.1]
    simp only [R.bind]
    rw [HV q2 key.2]
    simp only
    rw [<- e]
    cases o<;>rfl
   | ex C=>rw [q2] at h;cases h
   | bad=>rw [q2] at h;cases h
  | ex C=>rw [q] at h;cases h
  | bad=>rw [q] at h;cases h
structure CompOf (ce:E) (git:IT) (pt:EV.D->Option (List EV.D)) (gc ge:E) (ks:List Nat):Prop where
 ex:∀ δ C,git δ=.ex C->ce δ=.ex C
 bad:∀ δ,git δ=.bad->ce δ=.bad
 ok:∀ δ ds,git δ=.ok ds->ce δ=.bad\/(ds.length<=100000/\∃ rs,runC ↥97 ds=.ok rs/\EV.D.flats rs=true/\ce δ=.ok (.lst rs))
theorem m5 (hc:X.calm=true) {N:List Str} (S:Sc X N) {xs ksn G:List Str} {ks:List Nat} {tg elt iter:Expr} {ifs:List Expr} {pos ps:Pos} {sc:Scope} {git:IT} {gc ge ce:E} {pt:EV.D->Option (List EV.D)} {gT:TG} (CE:CompOf ce git pt gc ge ks) (SC:ScU xs ksn G sc)
  (hks:ks.map ↥84=ksn) (hlt:∀ k∈ks,k<N.length) (hcell:∀ y∈ksn,X.env.scope.names.lookup y=some .cell)
  (he:SI X tg iter git) (TT:Tgt X xs.length pt gT)
  (htg:∀ C fp s H W,Sc ↥7 (xs++ksn)->↥34->PG ↥7 tg gT)
  (htst:∀ C fp s H W,Sc ↥7 (xs++ksn)->↥99->Tst ↥7 ifs gc)
  (helt:∀ C fp s H W,Sc ↥7 (xs++ksn)->↥99->SE ↥7 elt ge)
  (hs:∀ z,foldedSetIterable iter X.env z=pure z) {use:Option (Value->Sem Unit)} {Qf:Value->Shared->Prop} {Q:VK}
  {pins:List ↥6} {s:Shared} {σ:L2.St} {H:Hp} {δ:Dt} (I:Inv X pins σ H s) (hσ:Stt X.K X.mg H σ δ) (h:RQ X σ H (ce δ) Q)
  (hfin:∀ (s1:Shared) (Hc:Hp) (D C:Addr) (ys:List V) (rs:List EV.D),ce δ=.ok (.lst rs)->EV.D.flats rs=true->H D=none->Hc D=some (.lst ys)->Reps X.K X.mg Hc ys rs->aq H Hc->Q (.ref D) Hc ->
   vU X pins Hc C->Inv X pins σ Hc s1->(∃ m,s1.heap.Ns C m)->(∀ h',Ę C s1.heap h'->Inv X pins σ Hc { s1 with heap:=h' })->fI ↥4 X.A X.xe use Qf (.ref D) C X.env.frame (.ok .next) s1) :
  wpAny ↥4 X.A (comprehension ↥33 sc X.env ps (newList []) false (eval iter X.env) use) Qf X.xe s:=by
 have key:git δ ≠ .bad/\(∀ C,git δ=.ex C->∀ Ca,X.mg C=some (.ref Ca)->∀ H',aq H H'->ew X Ca σ H')/\∃ ds,(∀ ds',git δ=.ok ds'->ds'=ds)/\∀ ds',git δ=.ok ds'->ds.length<=100000/\∃ rs,runC ↥97 ds=.ok rs/\EV.D.flats rs=true/\ce δ=.ok (.lst rs):=by
  cases r:git δ with
  | bad=>rw [CE.bad δ r] at h;exact Å h
  | ex C=>rw [CE.ex δ C r] at h;exact ⟨↥115,(fun C' e=>by cases e;exact h),[],(fun _ e=>nomatch e),(fun _ e=>nomatch e)⟩
  | ok ds =>
   refine ⟨fun z=>(nomatch z),fun C' e=>(nomatch e),ds,fun _ e=>by cases e;rfl,fun _ e => ?_⟩
   rcases CE.ok δ ds r with z | z
   ·rw [z] at h;exact Å h
   ·exact z
 obtain ⟨k1,k2,ds,k3,k4⟩:=key
 by_cases g:∃ ds',git δ=.ok ds'
 ·obtain ⟨ds',eds⟩:=g
  obtain ⟨hz,rs,er,fl,ec⟩:=k4 ds' eds
  refine qp hc S SC hks hlt hcell he TT htg htst helt hs (use:=use) I hσ k2 (ds:=ds) k1 (fun d e=>⟨k3 d e,hz,(fun z=>by rw [er] at z;cases z),(fun rs' e'=>by rw [er] at e';cases e';exact fl)⟩) (fun C Ca e=>by rw [er] at e;cases e) (fun ⟨C,e⟩=>by rw [er] at e;cases e) fun s1 Hc D C ys rs' e1 e2 e3 e4 e5 e6 e7 e8 e9 e10 e11 => ?_
  rw [er] at e2
  cases e2
  rw [ec] at h
  exact hfin s1 Hc D C ys rs ec fl e4 e5 e6 e7 (h _ _ e7 (.lst (SqL.of e5) e6)) e8 e9 e10 e11
 ·have no:∀ d,git δ ≠ .ok d:=fun d e=>g ⟨d,e⟩
  exact qp hc S SC hks hlt hcell he TT htg htst helt hs (use:=use) I hσ k2 (ds:=[]) k1 (fun d e=>absurd e (no d)) (fun C Ca e=>nomatch e) (fun ⟨C,e⟩=>nomatch e) fun s1 Hc D C ys rs' e1=>absurd e1 (no _)
theorem qq:CompOf (dU git ks gc ge) git pt1 gc ge ks where
 ex:=fun δ C e=>by unfold dU;rw [e];rfl
 bad:=fun δ e=>by unfold dU;rw [e];rfl
 ok:=fun δ ds e=>by
  unfold dU
  rw [e]
  simp only [R.bind]
  by_cases hz:ds.length<=100000
  ·rw [if_pos hz]
   cases r:runC (EV.stC gc ge ks δ) ds with
   | bad=>exact .inl rfl
   | ex C =>
    exfalso
    have:∀ l C,runC (EV.stC gc ge ks δ) l ≠ .ex C:=fun l C=>by
     induction l with
     | nil=>exact fun z=>nomatch z
     | cons a l ih =>
      intro z
      unfold runC at z
      cases q:EV.stC gc ge ks δ a with
      | ok o =>
       rw [q] at z
       simp only [R.bind] at z
       cases q2:runC (EV.stC gc ge ks δ) l with
       | ok r=>rw [q2] at z;cases z
       | ex C'=>exact ih.elim (by rw [q2] at z;cases z;exact q2)
       | bad=>rw [q2] at z;cases z
      | ex C' =>
       unfold EV.stC at q
       cases q3:l5 (gc (inC ks δ a)) with
       | ok d =>
        rw [q3] at q
        cases d with
        | bl b =>
         cases b with
         | true =>
          simp only [R.bind,truth] at q
          cases q4:l5 (ge (inC ks δ a)) with
          | ok r=>rw [q4] at q;cases q
          | ex C''=>exact j3 q4
          | bad=>rw [q4] at q;cases q
         | false=>cases q
        | _=>cases q
       | ex C''=>exact j3 q3
       | bad=>rw [q3] at q;cases q
      | bad=>rw [q] at z;cases z
    exact this _ _ r
   | ok rs =>
    simp only [dD]
    by_cases hf:EV.D.flats rs=true
    ·rw [if_pos hf]
     exact .inr ⟨hz,rs,HV r hf,hf,rfl⟩
    ·rw [if_neg hf]
     exact .inl rfl
  ·rw [if_neg hz]
   exact .inl rfl
theorem F5 (hc:X.calm=true) {N:List Str} (S:Sc X N) {xs ksn G:List Str} {ks:List Nat} {tg elt iter:Expr} {ifs:List Expr} {pos:Pos} {sc:Scope} {git:IT} {gc ge ce:E} {pt:EV.D->Option (List EV.D)} {gT:TG} (CE:CompOf ce git pt gc ge ks) (SC:ScU xs ksn G sc)
  (hks:ks.map ↥84=ksn) (hlt:∀ k∈ks,k<N.length) (hcell:∀ y∈ksn,X.env.scope.names.lookup y=some .cell)
  (he:SI X tg iter git) (TT:Tgt X xs.length pt gT)
  (htg:∀ C fp s H W,Sc ↥7 (xs++ksn)->↥34->PG ↥7 tg gT)
  (htst:∀ C fp s H W,Sc ↥7 (xs++ksn)->↥99->Tst ↥7 ifs gc)
  (helt:∀ C fp s H W,Sc ↥7 (xs++ksn)->↥99->SE ↥7 elt ge)
  (hs:∀ z,foldedSetIterable iter X.env z=pure z):SE X ↥33 ce:=by
 intro pins s σ H Q I ⟨δ,hσ,h⟩
 rw [eval_ListComp]
 exact m5 hc S CE SC hks hlt hcell he TT htg htst helt hs (use:=none) I hσ h fun s1 Hc D C ys rs e1 e2 e3 e4 e5 e6 q fC I1 ⟨m,ns⟩ turn=>⟨m,ns,fun h' sb=>⟨.ref D,Hc,turn h' sb,rfl,q⟩⟩
theorem BO (hc:X.calm=true) {N:List Str} (S:Sc X N) {x:Str} {ksn G:List Str} {ks:List Nat} {elt iter:Expr} {ifs:List Expr} {px pos:Pos} {sc:Scope} {git:IT} {gc ge:E} (SC:ScU [x] ksn G sc)
  (hks:ks.map ↥84=ksn) (hlt:∀ k∈ks,k<N.length) (hcell:∀ y∈ksn,X.env.scope.names.lookup y=some .cell)
  (he:SI X (.Name x px) iter git)
  (htst:∀ C fp s H W,Sc ↥17 ([x]++ksn)->(∀ y∈G,Gb ↥17 y)->Tst ↥17 ifs gc)
  (helt:∀ C fp s H W,Sc ↥17 ([x]++ksn)->(∀ y∈G,Gb ↥17 y)->SE ↥17 elt ge)
  (hs:∀ z,foldedSetIterable iter X.env z=pure z:=by intro _;rfl):SE X ↥149 (dU git ks gc ge) :=
 F5 hc S qq SC hks hlt hcell he M3 tg1 htst helt hs
theorem qm (hc:X.calm=true) {N:List Str} (S:Sc X N) {x:Str} {ksn G:List Str} {ks:List Nat} {elt iter:Expr} {px pos:Pos} {sc:Scope} {git:IT} {ge:E} (SC:ScU [x] ksn G sc)
  (hks:ks.map ↥84=ksn) (hlt:∀ k∈ks,k<N.length) (hcell:∀ y∈ksn,X.env.scope.names.lookup y=some .cell)
  (he:SI X (.Name x px) iter git)
  (helt:∀ C fp s H W,Sc ↥17 ([x]++ksn)->(∀ y∈G,Gb ↥17 y)->SE ↥17 elt ge)
  (hs:∀ z,foldedSetIterable iter X.env z=pure z:=by intro _;rfl):SE X (.ListComp elt [⟨.Name x px,iter,[],0⟩] sc pos) (comp git ks ge) :=
 BO hc S SC hks hlt hcell he (fun _ _ _ _ _ _ _=>.nil) helt hs
end
end ES
namespace ES
open PySem PySem.Spec PyProof.Rows L2 EV
unseal SE ST SW SA SS SSs SI
structure GC (X:Cx) (x:String) (d:D):Prop where
 ex:∃ v u,X.mg x=some u/\RelV v u/\∀ H,Rep X.K X.mg H v d
section
variable {X:Cx} {pos p:Pos} {x:String} {d:D} {e e2:Expr} {g:E}
theorem Ry (G:Gb X x) (h:GC X x d):SE X (.Name x pos) (con d):=by
 obtain ⟨v,u,hm,r,hr⟩:=h.ex
 exact su (xr (v:=v) G.g hm r G.d) hr
theorem FH {a:Addr} {dd:Option Addr} {ss:List String} {its:Array Value} {n:Nat} {sl:Array ↥107} (hm:X.mg x=some ↥114) (hk:X.K.lookup a=some ⟨.type "tuple",dd,.seq its n,sl⟩) (hi:Vals (ss.map fun s=>V.str (Ø s)) its.toList) (hz:its.size<=1000):GC X x (.tup (ss.map fun s=>D.str (Ø s))):=by
 refine ⟨.ref a,.ref a,hm,rfl,fun H=>.tup (.inr ⟨_,its,n,hk,rfl,rfl,ı (kF hz),hi⟩) ?_⟩
 clear hi
 induction ss with
 | nil=>exact .nil
 | cons s r ih=>exact .cons (.str _) ih
theorem pC:∀ {ss:List String} {ts:List Tok} {its:List Value},its=(ss.zip ts).map (fun p=>Ég (Ø p.1) p.2)->ts.length=ss.length->Vals (ss.map fun s=>V.str (Ø s)) its
 | [],_,_,e,_=>by subst e;exact .nil
 | s::r,[],_,_,h=>by simp at h
 | s::r,t::ts,_,e,h=>by
  subst e
  exact .cons ⟨t,rfl⟩ (pC (ts:=ts) rfl (by simpa using h))
end
section
variable {X:Cx} {x y:Str} {ksn:List Str} {sc:Scope} {C:Addr} {fp:List Addr} {s:Shared} {H:Hp} {f:List D->R D} {cn m:String} {F:List D->R D}
end
def cv:Stmt->List Stmt
 | .ClassDef _ _ _ b _ _ _ _ _ _ _=>b
 | _=>[]
end ES
namespace ES
open EV
end ES
namespace ES
open PySem PySem.Spec PyProof.Rows L2 EV
unseal SE ST SW SA SS SSs SI
def ROp (X:Cx) (σ:L2.St) (H:Hp) (r:R (Option Int)) (Q:Option Int->Hp->Prop):Prop:=match r with
 | .ok o=>∀ H',aq H H'->Q o H'
 | .ex C=>∀ Ca,X.mg C=some (.ref Ca)->∀ H',aq H H'->ew X Ca σ H'
 | .bad=>False
def tPo (X:Cx) (g:Option E):TO:=fun σ H Q=>∃ δ,Stt X.K X.mg H σ δ/\ROp X σ H (part g δ) Q
@[irreducible] def SO (X:Cx) (e:Option Expr) (g:Option E):Prop:=PO X e (tPo X g)
unseal SO
section
variable {X:Cx} {tg e a:Expr} {lo hi:Option Expr} {g:E} {gl gu:Option E} {σ:L2.St} {H H1:Hp} {pos p2:Pos}
theorem PO.weak (h:PO X o t) (w:∀ σ H Q,t' σ H Q->t σ H Q):PO X o t':=fun pins s σ H Q I q=>h pins s σ H Q I (w σ H Q q)
theorem tO:SO X none none:=PO.weak EE fun σ H Q ⟨δ,hσ,q⟩=>q H ↥24
theorem jY (h:SE X e g):SO X (some e) (some g):=PO.weak (ED h) fun σ H Q ⟨δ,hσ,q⟩=>⟨δ,hσ,by
 simp only [EV.part] at q
 cases r:g δ with
 | ok d =>
  rw [r] at q
  cases d with
  | int i=>exact fun v H' s r=>by cases r;exact ⟨i,rfl,q H' s⟩
  | _=>exact Å q
 | ex C=>rw [r] at q;exact q
 | bad=>rw [r] at q;exact q⟩
theorem ROp.bind (h:RQ X σ H (r.bind f) Q):ROp X σ H r (fun o H'=>aq H H'/\RQ X σ H' (f o) Q):=by
 cases r with
 | ok d=>exact fun H' s=>⟨s,h.mono s⟩
 | ex C=>exact h
 | bad=>exact h
theorem ROp.to (h:ROp X σ H r Q) (g:∀ o H',aq H H'->Q o H'->Q' o H'):ROp X σ H r Q':=by
 cases r with
 | ok d=>exact fun H' s=>g d H' s (h H' s)
 | ex C=>exact h
 | bad=>exact h
theorem tK (rs:Reps X.K X.mg H xs ds) (l u:Option Int):Reps X.K X.mg H (CV xs l u) (EV.cut ds l u):=by
 unfold CV EV.cut
 rw [rs.length]
 exact (rs.drop _).take _
def rS (X:Cx):V->Option Int->Option Int->Hp->VK->Prop:=fun x l u H Q=>∃ dx d,Rep X.K X.mg H x dx/\oSl dx l u=.ok d/\∀ v H',aq H H'->Rep X.K X.mg H' v d->Q v H'
theorem PR:SlR X (rS X):=by
 intro pins s σ H x v vl vu l u sl Q I rx hs pl pu ⟨dx,d,r,e,q⟩
 unfold oSl at e
 split at e
 ·split at e
  ·cases e
  ·rename_i hn
   cases e;cases r
   rename_i p xs hq rs
   refine HW pins s σ H _ v vl vu l u sl Q I rx hs pl pu ⟨p,xs,rfl,hq,?_,fun p hp=>q _ _ ↥127 (.tup (SqT.of au) ((tK rs l u).mono ↥127))⟩
   rw [rs.length]
   exact hn
 ·cases e;cases r
  rename_i p xs hq rs
  exact Ek pins s σ H _ v vl vu l u sl Q I rx hs pl pu ⟨p,xs,rfl,hq,fun p hp=>q _ _ ↥127 (.lst (SqL.of au) ((tK rs l u).mono ↥127))⟩
 ·cases e
theorem FY (ha:SE X a g) (hl:SO X lo gl) (hu:SO X hi gu):SE X (.Subscript a (.Slice lo hi none p2) pos) (slc g gl gu) :=
 PE.weak (AO PR ha hl hu) fun σ H Q ⟨δ,hσ,q⟩=>⟨δ,hσ,(RQ.bind q).to fun x H1 _ ⟨s1,d,r1,q1⟩=>⟨δ,hσ.mono s1,(ROp.bind q1).to fun l H2 _ ⟨s2,q2⟩=>⟨δ,hσ.mono (s1.trans s2),(ROp.bind q2).to fun u H3 _ ⟨s3,q3⟩=>by
  have r3:=r1.mono (s2.trans s3)
  cases e:oSl d l u with
  | ok z=>rw [e] at q3;exact ⟨d,z,r3,e,q3⟩
  | ex C =>
   exfalso
   unfold oSl at e
   split at e
   ·split at e<;>cases e
   ·cases e
   ·cases e
  | bad=>rw [e] at q3;exact Å q3⟩⟩⟩
theorem lD (h:SE X e g):SI X tg e (itA g):=fun pins s σ H Q I ⟨δ,hσ,q⟩=>by
 unfold itA at q
 cases r:g δ with
 | ok d =>
  rw [r] at q
  cases d with
  | lst ds=>exact CP h pins s σ H Q I ⟨δ,hσ,by unfold itL;rw [r];exact q⟩
  | tup ds=>exact Mu h pins s σ H Q I ⟨δ,hσ,by unfold itT;rw [r];exact q⟩
  | _=>exact Å q
 | ex C=>exact CP h pins s σ H Q I ⟨δ,hσ,by unfold itL;rw [r] at q ⊢;exact q⟩
 | bad=>rw [r] at q;exact Å q
end
theorem MW {P:String->Prop} (h0:P "MillError") (h1:P "NoSize") (h2:P "NoBits") (h3:P "NoParts") (h4:P "NoRank") (h5:P "NotFinite") (h6:P "NoWay") (h7:P "NoFlags") (h8:P "NoFraction") (h9:P "Unlike") (h10:P "Empty") (h11:P "NoLeft") (h12:P "NoText") (h13:P "NoRow") (h14:P "NoName") (h15:P "Stopped"):∀ n∈aj,P n:=by
 intro n hn
 simp only [aj,Ö,ž,or_false] at hn
 rcases hn with rfl | rfl | rfl | rfl | rfl | rfl | rfl | rfl | rfl | rfl | rfl | rfl | rfl | rfl | rfl | rfl
 all_goals assumption
end ES
namespace ES
open PySem PySem.Spec PyProof.Rows L2 EV
unseal SE ST SW SA SS SSs SI SO
section
variable {X:Cx} {tg:Expr} {H:Hp} {a b c:Expr} {ga gb gc:E}
end
end ES
namespace ES
open PySem PySem.Spec PyProof.Rows L2 EV
unseal SE ST SW SA SS SSs SI SO
section
variable {X:Cx} {N:List Str} {H:Hp} {σ:L2.St} {δ:Dt} {os:Os}
theorem Ec (h:Stt X.K X.mg H σ δ):Stt X.K X.mg H σ (δ.set i (some (.own ds))):=by
 refine ⟨by rw [Ĕ];exact h.1,fun j d e n => ?_⟩
 by_cases hj:j=i
 ·subst hj
  by_cases hl:j<δ.length
  ·rw [Ý hl] at e
   have e':.own ds=d:=Ó.inj ↥109
   exact absurd e'.symm (n ds)
  ·rw [Ą (by simp;omega)] at e
   cases e
 ·rw [Ï ↥136] at e
  exact h.2 j d e n
theorem oE (h:a∈iZ os):hide (upd H a o) os=hide H os:=by
 funext b
 unfold hide
 by_cases hb:b∈iZ os
 ·rw [if_pos hb,if_pos hb]
 ·rw [if_neg hb,if_neg hb]
  exact ar fun z=>hb (by rw [z];exact h)
theorem StO.write (S:StO X H σ δ os) (ha:(i,a)∈os) (r:Reps X.K X.mg ↥26 xs ds):StO X (upd H a ↥131) σ (δ.set i (some (.own ds))) os:=by
 have eh:hide (upd H a ↥131) os=hide H os:=oE (eT ha)
 obtain ⟨_,_,_,h2,h3,_⟩:=S.lst _ ha
 have hl:i<δ.length:=(É.mp h3).1
 refine ⟨by rw [eh];exact Ec S.st,fun p hp => ?_,fun j es e => ?_,S.inj⟩
 ·rw [eh]
  by_cases hj:p.1=i
  ·have e2:p.2=a:=by
    obtain ⟨_,_,_,q2,_,_⟩:=S.lst p hp
    rw [hj,h2] at q2
    exact (V.ref.inj (Ó.inj (Ó.inj q2))).symm
   refine ⟨xs,ds,by rw [e2];exact au,by rw [hj,e2];exact h2,by rw [hj];exact Ý hl,r⟩
  ·obtain ⟨ys,es,q1,q2,q3,q4⟩:=S.lst p hp
   have ne:p.2≠a:=fun z=>hj (S.inj p.1 i a (by rw [<- z];exact hp) ha)
   exact ⟨ys,es,by rw [ar ne];exact q1,q2,by rw [Ï ↥136];exact q3,q4⟩
 ·by_cases hj:j=i
  ·subst hj;exact ⟨a,ha⟩
  ·rw [Ï ↥136] at e
   exact S.own j es e
theorem StO.begin (S:StO X H σ δ os) (hi:i<σ.length) (hn:H a=none) (r:Reps X.K X.mg ↥26 xs ds) :
  StO X (upd H a ↥131) (σ.set i (some ↥114)) (δ.set i (some (.own ds))) ↥44/\aq ↥26 (hide (upd H a ↥131) ↥44):=by
 have hd:i<δ.length:=by rw [<- S.st.1];exact hi
 have sm:aq ↥26 (hide (upd H a ↥131) ↥44):=fun b o e=>by
  have hb:b∉iZ os:=fun z=>by rw [lE z] at e;cases e
  rw [aU hb] at e
  have ne:b≠a:=fun z=>by rw [z,hn] at e;cases e
  rw [aU fun z => ?_,ar ne];exact e
  obtain ⟨p,hp,e2⟩:=gh z
  rcases Ö.mp hp with q | q
  ·exact ne (by rw [<- e2,q])
  ·exact hb (by rw [<- e2];exact eT (aG os i p q).1)
 have naos:∀ p∈os,p.2≠a:=fun p hp z=>by
  obtain ⟨_,_,q,_⟩:=S.lst p hp
  rw [z,hn] at q
  cases q
 refine ⟨⟨?_,fun p hp => ?_,fun j es e => ?_,fun j k b h1 h2 => ?_⟩,sm⟩
 ·have st:=S.st.mono sm
  refine ⟨by rw [Ĕ,Ĕ];exact st.1,fun j d e n => ?_⟩
  by_cases hj:j=i
  ·subst hj
   rw [Ý hd] at e
   exact absurd (Ó.inj ↥109).symm (n ds)
  ·rw [Ï ↥136] at e
   obtain ⟨v,e1,e2⟩:=st.2 j d e n
   exact ⟨v,by rw [Ï ↥136];exact e1,e2⟩
 ·rcases Ö.mp hp with q | q
  ·subst q
   exact ⟨xs,ds,au,Ý hi,Ý hd,r.mono sm⟩
  ·obtain ⟨hp',ne⟩:=aG os i p q
   obtain ⟨ys,es,q1,q2,q3,q4⟩:=S.lst p hp'
   exact ⟨ys,es,by rw [ar (naos p hp')];exact q1,by rw [Ï (ė ne)];exact q2,by rw [Ï (ė ne)];exact q3,q4.mono sm⟩
 ·by_cases hj:j=i
  ·subst hj;exact ⟨a,.head _⟩
  ·rw [Ï ↥136] at e
   obtain ⟨b,hb⟩:=S.own j es e
   exact ⟨b,.tail _ (Ĭ.mpr ⟨hb,by simpa using hj⟩)⟩
 ·rcases Ö.mp h1 with q1 | q1<;>rcases Ö.mp h2 with q2 | q2
  ·cases q1;cases q2;rfl
  ·cases q1;exact absurd rfl (naos _ (aG os i _ q2).1)
  ·cases q2;exact absurd rfl (naos _ (aG os i _ q1).1)
  ·exact S.inj j k b (aG os i _ q1).1 (aG os i _ q2).1
theorem StO.pub (S:StO X H σ δ os) (i:Nat):∃ os',StO X H σ (EV.pub i δ) os'/\aq ↥26 (hide H os'):=by
 unfold EV.pub
 split
 ·rename_i ds e
  obtain ⟨a,ha⟩:=S.own i ds e
  obtain ⟨xs,ds',h1,h2,h3,h4⟩:=S.lst _ ha
  rw [e] at h3
  cases h3
  have sm:aq ↥26 (hide H (os.filter fun p=>p.1 != i)):=qg fun p hp=>(aG os i p hp).1
  have hl:i<δ.length:=(É.mp e).1
  have na:a∉iZ (os.filter fun p=>p.1 != i):=fun z=>by
   obtain ⟨p,hp,e2⟩:=gh z
   obtain ⟨hp',ne⟩:=aG os i p hp
   exact ne (S.inj p.1 i a (by rw [<- e2];exact hp') ha)
  refine ⟨_,⟨?_,fun p hp => ?_,fun j es q => ?_,fun j k b h1 h2=>S.inj j k b (aG os i _ h1).1 (aG os i _ h2).1⟩,sm⟩
  ·have st:=S.st.mono sm
   refine ⟨by rw [Ĕ];exact st.1,fun j d q n => ?_⟩
   by_cases hj:j=i
   ·subst hj
    rw [Ý hl] at q
    have q':D.lst ds=d:=Ó.inj (Ó.inj q)
    subst q'
    exact ⟨.ref a,h2,.lst (SqL.of (by rw [aU na];exact h1)) (h4.mono sm)⟩
   ·rw [Ï ↥136] at q
    exact st.2 j d q n
  ·obtain ⟨hp',ne⟩:=aG os i p hp
   obtain ⟨ys,es,q1,q2,q3,q4⟩:=S.lst p hp'
   exact ⟨ys,es,q1,q2,by rw [Ï (ė ne)];exact q3,q4.mono sm⟩
  ·by_cases hj:j=i
   ·subst hj
    rw [Ý hl] at q
    cases q
   ·rw [Ï ↥136] at q
    obtain ⟨b,hb⟩:=S.own j es q
    exact ⟨b,Ĭ.mpr ⟨hb,by simpa using hj⟩⟩
 ·exact ⟨os,S,aq.refl _⟩
variable {e:Expr} {g:E} {pos:Pos} {st:Stmt} {gs:S}
theorem rm (i:Nat) (h:SS X st gs):SS X st (zE i gs):=PS.weak h fun D σ H ⟨δ,os,S,q⟩=>by
 obtain ⟨os',S',sm⟩:=S.pub i
 exact ⟨_,os',S',OQ.mono sm q⟩
theorem jV (C:Sx X N) (i:Nat) (hN:N[i]? = some x) (hx:Sto X x) (hsw:swapsWith (.List [] pl) (some (.Name x pos')) pos.line X.env=pure false:=by rfl):SS X (.Assign [.Name x pos'] (.List [] pl) pos) (mO i):=by
 intro pins s σ H D I ⟨δ,os,S,q⟩
 refine xk (i:=i) (by rw [C.sc.n];exact C.sc.nd) (by rw [C.sc.n];exact hN) hx.1 (CC ip) hsw hx.2 pins s σ H D I ⟨Ā _,fun p hp => ?_⟩
 have hi:i<σ.length:=by
  rw [I.len,C.sc.n]
  exact (É.mp hN).1
 obtain ⟨S',sm⟩:=S.begin (i:=i) hi hp .nil
 exact q _ _ _ S' sm
theorem fV (C:Sx X N) (i:Nat) (hN:N[i]? = some x) (he:SE X e g)
  (hbase:attributeBase (.Name x p1) "append" X.env (eval (.Name x p1) X.env)=eval (.Name x p1) X.env:=by rfl)
  (hfew:((backTo p3 (starEach [e] X.env)).all (fun x => !x.1)&&(backToKw p3 (keywordEach [] X.env)).all (fun x=>x.1.isSome)
   && decide ([e].length+([]:List Keyword).length+(if ([]:List Keyword).isEmpty then 0 else 1)<30))=true:=by rfl)
  (hline:(p2.endLine == p3.line)=true:=by rfl) (hs:starEach [e] X.env=[↥27]:=by rfl)
  (hsw:swapsWith (.Call (.Attribute (.Name x p1) "append" p2) [e] [] p3) none pos.line X.env=pure false:=by rfl) :
  SS X (.Expr (.Call (.Attribute (.Name x p1) "append" p2) [e] [] p3) pos) (dj i g):=by
 have hm:x∈N:=ê hN
 refine PS.weak (rA (IV Æb PySem.F.slot_list_append PySem.F.type_list_append qc (pV (i:=i) (by rw [C.sc.n];exact hN) (C.sc.vis x hm) (C.sc.dbg x hm).1 (C.sc.dbg x hm).2) (fz (zb he) ip hs) hbase hfew hline hs (by rfl)) hsw) fun D σ H ⟨δ,os,S,q⟩ => ?_
 unfold dj jf at q
 split at q
 ·rename_i ds ei
  obtain ⟨a,ha⟩:=S.own i ds ei
  obtain ⟨xs,ds',h1,h2,h3,h4⟩:=S.lst _ ha
  rw [ei] at h3
  cases h3
  refine ⟨.ref a,h2,.inl ⟨rfl,xs,SqL.of h1⟩,δ,os,S,?_,?_⟩
  ·intro d ed
   unfold GH at q
   rw [ed] at q
   simp only at q
   split at q
   ·rename_i z;exact z.1
   ·exact Å q
  ·unfold GH at q
   cases r:g ↥66 with
   | ok d =>
    rw [r] at q
    simp only at q
    split at q
    ·rename_i z
     intro v H' S' sm rp
     obtain ⟨xs',ds',k1,k2,k3,k4⟩:=S'.lst _ ha
     rw [ei] at k3
     cases k3
     refine ⟨a,xs',v,rfl,rfl,k1,by rw [k4.length,sizeLine_eq];omega,?_⟩
     have S2:=S'.write ha (k4.append (.cons rp .nil))
     exact q _ _ _ S2 (by rw [oE (eT ha)];exact sm)
    ·exact Å q
   | ex C=>rw [r] at q;exact fun Ca hc H' s' st=>q σ H' s' st Ca hc
   | bad=>rw [r] at q;exact Å q
 ·exact Å q
end
end ES
namespace ES
open PySem PySem.Spec PyProof.Rows L2 EV
unseal SE ST SW SA SS SSs SI SO
section
variable {X:Cx} {N:List Str} {H:Hp} {σ:L2.St} {δ:Dt} {os:Os}
theorem StO.adopt (S:StO X H σ δ os) (sm:aq H Hc) (hi:i<σ.length) (hn:H a=none) (ha:Hc a=some ↥131) (r:Reps X.K X.mg Hc xs ds) (fl:EV.D.flats ds=true) :
  StO X Hc (σ.set i (some ↥114)) (δ.set i (some (.own ds))) ↥44/\aq ↥26 (hide Hc ↥44):=by
 have hd:i<δ.length:=by rw [<- S.st.1];exact hi
 have sm2:aq ↥26 (hide Hc ↥44):=fun b o e=>by
  have hb:b∉iZ os:=fun z=>by rw [lE z] at e;cases e
  rw [aU hb] at e
  have ne:b≠a:=fun z=>by rw [z,hn] at e;cases e
  rw [aU fun z => ?_];exact sm b o e
  obtain ⟨p,hp,e2⟩:=gh z
  rcases Ö.mp hp with q | q
  ·exact ne (by rw [<- e2,q])
  ·exact hb (by rw [<- e2];exact eT (aG os i p q).1)
 have naos:∀ p∈os,p.2≠a:=fun p hp z=>by
  obtain ⟨_,_,q,_⟩:=S.lst p hp
  rw [z,hn] at q
  cases q
 have ls:GS Hc ↥44:=fun b hb=>by
  obtain ⟨p,hp,e2⟩:=gh hb
  rcases Ö.mp hp with q | q
  ·exact ⟨xs,by rw [<- e2,q];exact ha⟩
  ·obtain ⟨ys,_,q1,_⟩:=S.lst p (aG os i p q).1
   exact ⟨ys,by rw [<- e2];exact sm _ _ q1⟩
 refine ⟨⟨?_,fun p hp => ?_,fun j es e => ?_,fun j k b h1 h2 => ?_⟩,sm2⟩
 ·have st:=S.st.mono sm2
  refine ⟨by rw [Ĕ,Ĕ];exact st.1,fun j d e n => ?_⟩
  by_cases hj:j=i
  ·subst hj
   rw [Ý hd] at e
   exact absurd (Ó.inj ↥109).symm (n ds)
  ·rw [Ï ↥136] at e
   obtain ⟨v,e1,e2⟩:=st.2 j d e n
   exact ⟨v,by rw [Ï ↥136];exact e1,e2⟩
 ·rcases Ö.mp hp with q | q
  ·subst q
   exact ⟨xs,ds,ha,Ý hi,Ý hd,jX (tY ls) fl r⟩
  ·obtain ⟨hp',ne⟩:=aG os i p q
   obtain ⟨ys,es,q1,q2,q3,q4⟩:=S.lst p hp'
   exact ⟨ys,es,sm _ _ q1,by rw [Ï (ė ne)];exact q2,by rw [Ï (ė ne)];exact q3,q4.mono sm2⟩
 ·by_cases hj:j=i
  ·subst hj;exact ⟨a,.head _⟩
  ·rw [Ï ↥136] at e
   obtain ⟨b,hb⟩:=S.own j es e
   exact ⟨b,.tail _ (Ĭ.mpr ⟨hb,by simpa using hj⟩)⟩
 ·rcases Ö.mp h1 with q1 | q1<;>rcases Ö.mp h2 with q2 | q2
  ·cases q1;cases q2;rfl
  ·cases q1;exact absurd rfl (naos _ (aG os i _ q2).1)
  ·cases q2;exact absurd rfl (naos _ (aG os i _ q1).1)
  ·exact S.inj j k b (aG os i _ q1).1 (aG os i _ q2).1
theorem wM {pins:List ↥6} {s:Shared} {i:Nat} {y:Str} {py:Pos} {a C:Addr} {m:Str->Option Value} (Cx:Sx X N) (hN:N[i]? = some y) (hy:Sto X y) (I:Inv X pins σ H s) (fC:vU X pins H C) (ns:s.heap.Ns C m) :
  wpAny ↥4 X.A (assign (.Name y py) X.env ↥114) (fun _ s2=>∃ m,s2.heap.Ns C m/\∀ h',Ę C s2.heap h'->Inv X pins (σ.set i (some ↥114)) H { s2 with heap:=h' }) X.xe s:=by
 obtain ⟨o,es,ep,ho,hd,hk⟩:=id ns
 have Ip:=I.pinned (fp:=[C]) (fun b hb=>by rw [ï] at hb;rw [hb];exact fC) (fun b hb=>by
  rw [ï] at hb
  rw [hb]
  exact ⟨o,ho,fun v z=>by rw [hd] at z;cases z⟩)
 refine thn (kR (X:=X) (pos:=py) (i:=i) (x:=y) (by rw [Cx.sc.n];exact Cx.sc.nd) (by rw [Cx.sc.n];exact hN) hy.1 hy.2 _ s σ H ↥114 ↥114 (fun σ6 H6=>σ6=σ.set i (some ↥114)/\H6=H) Ip rfl ⟨rfl,rfl⟩) fun _ s2 ⟨σ6,H6,I6,e6,e7⟩ => ?_
 subst e6 e7
 have hp:=(I6.pin (C,o) (Ç _ (Ç _ (cQ (ï.mpr rfl) ho)))).1
 refine ⟨m,ns.at' fun o' e' => ?_,fun h' sb => ?_⟩
 ·rw [ho] at e'
  cases e'
  exact hp
 ·obtain ⟨f0,f1,f2,f3,f4,f5⟩:=fC
  exact I6.unpinned.turned (t':=s2.toks) (fun b o hb e=>(sb.2 b hb).trans e) f0 f1 f3 f4 f5
variable {e c k v:Expr} {g gc gk gv:E} {pos:Pos} {st:Stmt} {body els:List Stmt} {gs gb ge:S}
theorem Ib (hc:ST X c gc) (ha:SSs X body gb) (hb:SSs X els ge):SS X (.If c body els pos) (KZ gc gb ge) :=
 PS.weak (IC (F9 hc) ha hb) fun D σ H ⟨δ,os,S,q⟩=>⟨δ,os,S,FT.then q fun b H' S' s q'=>by
  cases b with
  | true=>exact GO ⟨δ,os,S',by simpa using q'⟩
  | false=>exact GP ⟨δ,os,S',by simpa using q'⟩⟩
theorem fm (hS:env.scope=sc0)
  (h:((if sc0.kind.isAnnotationScope then ŭ else sc0.kind) == ŭ&&sc0.names.lookup t == some Ãa&&pt.line == (Expr.ListComp elt gens sc pos).pos.line && !(sc.names.any fun (n,k)=>n == t&&(k == .local||k == .cell)))=true) :
  swapsWith (.ListComp elt gens sc pos) (some (.Name t pt)) line env=pure true:=by
 subst hS
 show (pure ((if env.scope.kind.isAnnotationScope then ŭ else env.scope.kind) == ŭ&&env.scope.names.lookup t == some Ãa&&pt.line == (Expr.ListComp elt gens sc pos).pos.line && !(sc.names.any fun (n,k)=>n == t&&(k == .local||k == .cell))):Sem Bool)=pure true
 rw [h]
theorem vd (Cx:Sx X N) (hc:X.calm=true) (i:Nat) {y:Str} {py spos:Pos} (hN:N[i]? = some y) (hy:Sto X y) {xs ksn G:List Str} {ks:List Nat} {tg elt iter:Expr} {ifs:List Expr} {sc:Scope} {git:IT} {gt ge' ce:E} {pt:EV.D->Option (List EV.D)} {gT:TG} (CE:CompOf ce git pt gt ge' ks) (SC:ScU xs ksn G sc)
  (hks:ks.map ↥84=ksn) (hlt:∀ k∈ks,k<N.length) (hcell:∀ y∈ksn,X.env.scope.names.lookup y=some .cell)
  (he:SI X tg iter git) (TT:Tgt X xs.length pt gT)
  (htg:∀ C fp s H W,Sc ↥7 (xs++ksn)->↥34->PG ↥7 tg gT)
  (htst:∀ C fp s H W,Sc ↥7 (xs++ksn)->↥99->Tst ↥7 ifs gt)
  (helt:∀ C fp s H W,Sc ↥7 (xs++ksn)->↥99->SE ↥7 elt ge')
  (hsw:swapsWith ↥33 (some (.Name y py)) spos.line X.env=pure true)
  (hs:∀ z,foldedSetIterable iter X.env z=pure z) :
  SS X (.Assign [.Name y py] ↥33 spos) (dC i ce):=by
 intro pins s σ H D I ⟨δ,os,S,q⟩
 have hi:i<σ.length:=by
  rw [I.len,Cx.sc.n]
  exact (É.mp hN).1
 unfold dC Cr at q
 rw [exec_Assign_Name_used _ _ _ _ hsw]
 refine wpAny_bind (wpAny_standAt (wpAny_bind ?_))
 show wpAny _ X.A (do let _<-comprehension ↥33 sc X.env _ (newList []) false (eval iter X.env) (some (assign (.Name y py) X.env))) _ _ s
 refine wpAny_bind (wpAny_mono (m5 (Q:=fun _ _=>True) (Qf:=fun _ s'=>SP X pins D .next s') hc Cx.sc CE SC hks hlt hcell he TT htg htst helt hs (use:=some (assign (.Name y py) X.env)) I S.view ?_ ?_) (fun _ s' hq=>wpAny_pure (wpAny_pure hq)) fun _ _ e=>e)
 ·cases r:ce ↥66 with
  | ok d=>exact fun _ _ _ _=>trivial
  | ex C=>rw [r] at q;exact fun Ca hc H' s'=>q σ H' ↥128 (S.noOwn ↥128) Ca hc
  | bad=>rw [r] at q;exact Å q
 ·intro s1 Hc A C ys rs e1 fl hA hAc rr sm _ fC I1 ⟨m,ns⟩ _
  rw [e1] at q
  obtain ⟨S2,sm2⟩:=S.adopt sm hi hA hAc rr fl
  refine thn (wM (a:=A) (py:=py) Cx hN hy I1 fC ns) fun _ s2 ⟨m2,ns2,hq⟩=>⟨m2,ns2,fun h' sb=>⟨_,Hc,hq h' sb,q _ _ _ S2 sm2⟩⟩
theorem fq (Cx:Sx X N) (hc:X.calm=true) (i:Nat) {y:Str} {py spos:Pos} (hN:N[i]? = some y) (hy:Sto X y) {x:Str} {ksn G:List Str} {ks:List Nat} {elt iter:Expr} {ifs:List Expr} {px:Pos} {sc:Scope} {git:IT} {gt ge':E} (SC:ScU [x] ksn G sc)
  (hks:ks.map ↥84=ksn) (hlt:∀ k∈ks,k<N.length) (hcell:∀ y∈ksn,X.env.scope.names.lookup y=some .cell)
  (he:SI X (.Name x px) iter git)
  (htst:∀ C fp s H W,Sc ↥17 ([x]++ksn)->(∀ y∈G,Gb ↥17 y)->Tst ↥17 ifs gt)
  (helt:∀ C fp s H W,Sc ↥17 ([x]++ksn)->(∀ y∈G,Gb ↥17 y)->SE ↥17 elt ge')
  (hsw:swapsWith ↥149 (some (.Name y py)) spos.line X.env=pure true)
  (hs:∀ z,foldedSetIterable iter X.env z=pure z:=by intro _;rfl) :
  SS X (.Assign [.Name y py] ↥149 spos) (dC i (dU git ks gt ge')) :=
 vd Cx hc i hN hy qq SC hks hlt hcell he M3 tg1 htst helt hsw hs
end
end ES
namespace ES
open PySem PySem.Spec PyProof.Rows L2 EV
unseal SE ST SW SA SS SSs SI SO
def RF (X:Cx) (σ:L2.St) (H:Hp) (r:R D) (Q:VK):Prop:=match r with
 | .ok (.lst rs)=>∀ a xs H',aq H H'->H a=none->H' a=some ↥131->Reps X.K X.mg H' xs rs->EV.D.flats rs=true->Q ↥114 H'
 | .ex C=>∀ Ca,X.mg C=some (.ref Ca)->∀ H',aq H H'->ew X Ca σ H'
 | _=>False
def FE (X:Cx) (e:Expr) (g:E):Prop:=PE X e fun σ H Q=>∃ δ,Stt X.K X.mg H σ δ/\RF X σ H (g δ) Q
def OQF (X:Cx) (D:Ends) (F:Hp):O->Prop
 | .rt (.lst rs)=>∀ a xs H,aq F H->F a=none->H a=some ↥131->Reps X.K X.mg H xs rs->EV.D.flats rs=true->D.rt ↥114 H
 | .rt _=>False
 | o=>OQ X D F o
def tSF (X:Cx) (g:S):TS:=fun D σ H=>∃ δ os,StO X H σ δ os/\OQF X D ↥26 (g δ)
@[irreducible] def SSF (X:Cx) (st:List Stmt) (g:S):Prop:=PSs X st (tSF X g)
unseal SSF
section
variable {X:Cx} {N:List Str}
variable {st:Stmt} {rest:List Stmt} {gs gr:S} {e:Expr} {g:E} {pos:Pos}
theorem wU {H Hc:Hp} {os:Os} (hn:∀ a∈iZ os,Hc a=none):aq Hc (dZ H Hc os):=fun b o q=>by
 unfold dZ
 rw [if_neg fun z=>by rw [hn b z] at q;cases q]
 exact q
end
def spF (K:PySem.W.Frag) (mg:Str->Option Value) (f:List D->R D):Sp:=fun vs H Q E=>∃ ds,Reps K mg H vs ds/\match f ds with
 | .ok (.lst rs)=>∀ a xs H',aq H H'->H a=none->H' a=some ↥131->Reps K mg H' xs rs->EV.D.flats rs=true->Q ↥114 H'
 | .ex C=>∀ Ca,mg C=some (.ref Ca)->∀ H',aq H H'->E (.ref Ca) none H'
 | _=>False
structure FnF (P:Program) (w:World) (K:PySem.W.Frag) (mg:Str->Option Value) (base:Heap) (x:Str) (k:Nat) (f:List D->R D):Prop where
 ex:∃ fa fd ps,FnOk P w K mg base (CXF P w) k fa fd ps (spF K mg f)/\mg x=some (.ref fa)/\ŏ K (.ref fa)=true/\Binds K fd ps []
structure CalleeF (X:Cx) (x:Str) (f:List D->R D):Prop where
 ex:∃ k fa fd ps,FnOk X.prog X.w X.K X.mg X.base (CXF X.prog X.w) k fa fd ps (spF X.K X.mg f)/\Room k X.A/\X.mg x=some (.ref fa)/\ŏ X.K (.ref fa)=true/\Binds X.K fd ps []
section
variable {X:Cx} {N:List Str} {x:Str} {f:List D->R D} {e:Expr} {es:List Expr} {gs:List E} {p pos:Pos} {g:E}
theorem xf (C:Sx X N) (i:Nat) {y:Str} {pos':Pos} (hN:N[i]? = some y) (hy:Sto X y) (h:FE X e g) (hsw:swapsWith e (some (.Name y pos')) pos.line X.env=pure false:=by rfl):SS X (.Assign [.Name y pos'] e pos) (om i g):=by
 intro pins s σ H D I ⟨δ,os,S,q⟩
 have hi:i<σ.length:=by
  rw [I.len,C.sc.n]
  exact (É.mp hN).1
 have hl:=S.lsts
 unfold om Cr at q
 refine wpAny_Assign_Name (thn (h _ s σ _ (fun v Hc=>∃ a xs rs,v=.ref a/\g δ=.ok (.lst rs)/\aq ↥26 Hc/\hide H os a=none/\Hc a=some ↥131/\Reps X.K X.mg Hc xs rs/\EV.D.flats rs=true) (j7 I hl) ⟨δ,S.st,?_⟩) fun u s1 ⟨v,Hc,I1,rv,a,xs,rs,ev,eg,sm,hn,ha,rr,fl⟩ => ?_) hsw
 ·cases r:g δ with
  | ok d =>
   rw [r] at q
   cases d with
   | lst rs=>exact fun a xs H' sm hn ha rr fl=>⟨a,xs,rs,rfl,rfl,sm,hn,ha,rr,fl⟩
   | _=>exact Å q
  | ex C=>rw [r] at q;exact fun Ca hc H' s'=>q σ H' s' (S.noOwn s') Ca hc
  | bad=>rw [r] at q;exact Å q
 ·obtain ⟨I2,hz⟩:=j6 C.ex I hl I1
  rw [eg] at q
  subst ev
  have ss:=wU (H:=H) hz
  have na:a∉iZ os:=fun z=>by rw [hz a z] at ha;cases ha
  have sH:aq H (dZ H Hc os):=fun b o e=>by
   unfold dZ
   by_cases hb:b∈iZ os
   ·rw [if_pos hb];exact e
   ·rw [if_neg hb]
    exact sm b o (by rw [aU hb];exact e)
  obtain ⟨S2,sm2⟩:=S.adopt (i:=i) sH hi (by rw [aU na] at hn;exact hn) (ss a _ ha) (rr.mono ss) fl
  exact nJ I2 (by rw [C.sc.n];exact C.sc.nd) (by rw [C.sc.n];exact hN) hy.1 rv (fun s2 I3=>⟨_,_,I3,q _ _ _ S2 sm2⟩) hy.2
end
end ES
namespace EV
def put2 (i j:Nat) (δ:Dt):D->O
 | .tup [a,b]=>.nx ((δ.set i (some a)).set j (some b))
 | _=>.bad
def MU (i j:Nat) (δ:Dt) (r:R D):O:=match r with
 | .ok d=>put2 i j δ d
 | .ex C=>.ex C ↥113
 | .bad=>.bad
def jk (i j:Nat) (g:E):S:=fun δ=>MU i j δ (g δ)
def oX (k:Int):List D->R D
 | [.lst ds]=>match intsOf ds with
  | some []=>.ok (.int k)
  | some (n::ns)=>.ok (.int (ns.foldl min n))
  | none=>.bad
 | _=>.bad
def qF:List D->R D
 | [.lst ds]=>dD ds
 | [.tup ds]=>dD ds
 | _=>.bad
def boolsOf:List D->Option (List Bool)
 | []=>some []
 | .bl b::r=>(boolsOf r).map (b::·)
 | _=>none
def Gp:List D->R D
 | [.lst ds]=>match boolsOf ds with | some bs=>.ok (.bl (bs.any id)) | none=>.bad
 | _=>.bad
def GQ (i:Nat) (δ:Dt) (ds:List D) (r:R D):O:=match r with
 | .ok (.tup es)=>if D.flats es=true/\ds.length+es.length<=100000 then .nx (δ.set i (some (.own (ds++es)))) else .bad
 | .ex C=>.ex C ↥113
 | _=>.bad
def jn (i:Nat) (g:E):S:=fun δ=>jf i δ fun ds=>GQ i δ ds (g ↥66)
theorem pF:jk i j g δ=MU i j δ (g δ):=rfl
theorem Ah:jn i g δ=jf i δ fun ds=>GQ i δ ds (g ↥66):=rfl
theorem zq:MU i j δ (.ok (.tup [a,b]))=.nx ((δ.set i (some a)).set j (some b)):=rfl
end EV
namespace ES
open PySem PySem.Spec PyProof.Rows L2 EV
unseal SE ST SW SA SS SSs SI SO
section
variable {X:Cx} {N:List Str} {e:Expr} {g:E} {pos:Pos}
theorem Cv (C:Sx X N) (hc:X.calm=true) (i j:Nat) {x y:Str} {px py pt:Pos} {k:Nat} (hi:N[i]? = some x) (hj:N[j]? = some y) (hx:Sto X x) (hy:Sto X y) (h:SE X e g)
  (hs:swapsWithSole [.Tuple [.Name x px,.Name y py] k pt] e pos.line X.env=pure false:=by rfl) (hw:swappedStores [.Tuple [.Name x px,.Name y py] k pt] e X.env=pure none:=by rfl)
  (h1:(assignEach [.Tuple [.Name x px,.Name y py] k pt] X.env).map (·.2)=[assign (.Tuple [.Name x px,.Name y py] k pt) X.env]:=by rfl)
  (hn:(assignEach [.Name x px,.Name y py] X.env).length=2:=by rfl) (hst:(assignEach [.Name x px,.Name y py] X.env).findIdx? (·.1)=none:=by rfl) :
  SS X (.Assign [.Tuple [.Name x px,.Name y py] k pt] e pos) (jk i j g) :=
 PS.weak (IG (uh C.ex h) (II hc (tP (kR (i:=i) (by rw [C.sc.n];exact C.sc.nd) (by rw [C.sc.n];exact hi) hx.1 hx.2) (tP (kR (i:=j) (by rw [C.sc.n];exact C.sc.nd) (by rw [C.sc.n];exact hj) hy.1 hy.2) EG)) hn hst) hs hw h1)
  fun D σ H ⟨δ,os,S,q⟩=>⟨δ,os,S,FQ.then (f:=put2 i j δ) q fun d v H' e S' s r q'=>by
   unfold put2 at q'
   split at q'
   ·rename_i a b
    cases r with
    | @tup p xs _ hq rr =>
     cases rr with
     | cons ra rr =>
      cases rr with
      | cons rb rr =>
       cases rr
       refine ⟨p,_,rfl,dI (bj _ _) hq,rfl,_,_,rfl,_,_,rfl,rfl,?_⟩
       obtain ⟨S2,s2⟩:=S'.set (i:=i) ra
       obtain ⟨S3,s3⟩:=S2.set (i:=j) (rb.mono s2)
       exact q' _ _ _ S3 (s2.trans s3)
   ·exact Å q'⟩
end
end ES
namespace ES
open PySem PySem.Spec PyProof.Rows L2 EV
unseal SE ST SW SA SS SSs SI SO
section
variable {prog:Program} {w:World} {A:Around} {R:Result->Shared->Prop} {I:Addr} {fp wr:List Addr} {n:Nat} {P:Nat->Value->Prop} {St:Nat->Heap->Prop}
abbrev dfl (d:Value):List (Str×Value):=[(Ø "default",d)]
theorem ou:(toString "min"++toString ".loop":String)="min.loop":=by decide
theorem ye (W:Walks prog w A.in1 I fp wr n P St) (bt:Nat->Nat->Bool) (hcmp:CmpOf prog w A.in1 .Lt P bt) (S:Addr) (hSf:S∉fp) :
  ∀ (k j:Nat) (s:Shared) (vb:Value) (c:Nat),n - (j+1)=k->j+1<=n->St (j+1) s.heap->P (argBest bt j) vb->s.heap.get? S=some { cls:=.type "list",dict:=none,data:=.seq #[vb,vb] c,slots := #[] } ->
   (∀ v h' tk,P (argBest bt (n - 1)) v->(∀ b o,b∉wr->b≠S->s.heap.get? b=some o->h'.get? b=some o)->R (.ok (.ret v)) { s with heap:=h',toks:=tk }) ->
   codeAny ↥3 A (.builtin "min.loop" ⟨[.ref I,.none,.ref S],dfl d⟩) R s:=by
 have hSw:S∉wr:=fun z=>hSf (W.sub _ z)
 intro k
 induction k with
 | zero =>
  intro j s vb c hk hj hst hPb hS hR
  have hin:j+1=n:=⋯
  refine codeAny_builtin ŷ ?_;rw [Ė Đ _]
  (show wpAny _ A.in1 (seqItems? (.ref S) >>= _) _ _ s);refine wpAny_bind (wpAny_seqItems hS rfl ?_)
  (show wpAny _ A.in1 (tryCatch (pyNext (.ref I)) _ >>= _) _ _ s);refine wpAny_bind (wpAny_tryCatch (W.done s _ _ (hin▸hst) fun h' tk hk' => ?_))
  have hS':=hk' S _ hSw hS
  (show wpAny _ A.in1 (updateSeq S (fun _ => #[]) >>= _) _ _ _);refine wpAny_bind ?_;refine wpAny_updateSeq hS' rfl (wpAny_bind (wpAny_letGo (wpAny_pure ?_)))
  exact hR vb _ tk (by rw [<- hin];exact hPb) fun b o hbw hbS e=>(ç _ _ (ė hbS)).trans (hk' b o hbw e)
 | succ k ih =>
  intro j s vb c hk hj hst hPb hS hR
  have hlt:j+1<n:=⋯
  refine codeAny_builtin ŷ ?_;rw [Ė Đ _]
  (show wpAny _ A.in1 (seqItems? (.ref S) >>= _) _ _ s);refine wpAny_bind (wpAny_seqItems hS rfl ?_)
  (show wpAny _ A.in1 (tryCatch (pyNext (.ref I)) _ >>= _) _ _ s);refine wpAny_bind (wpAny_tryCatch (W.item (j+1) s _ _ hlt hst fun v h' tk hP hst' hk' => ?_))
  have hS':=hk' S _ hSw hS
  (show wpAny _ A.in1 (tryCatch (holding [v,v] (richCompare .Lt v vb >>= _)) _ >>= _) _ _ _);refine wpAny_bind (wpAny_tryCatch (wpAny_holding (wpAny_bind (hcmp (j+1) (argBest bt j) v vb _ _ _ hP hPb ?_))))
  refine wpAny_bind (wpAny_holding (wpAny_truthy_bool ?_));refine wpAny_bind (wpAny_letGo (wpAny_pure ?_))
  cases hb:bt (j+1) (argBest bt j) with
  | true =>
   simp only [if_true];refine wpAny_bind ?_;refine wpAny_updateSeq hS' rfl (wpAny_bind (wpAny_letGo ?_));rw [ou]
   refine wpAny_pure ⟨plainId_quiet Đ _,ih (j+1) _ v _ ⋯ hlt (W.frame _ _ _ hst' fun b hbf o e => ?_) (by simp only [argBest,hb,if_true];exact hP) (Č _ hS' rfl) fun v' h'' tk'' hP' hk'' => ?_⟩
   ·exact (ç _ _ (fun z:S=b=>hSf (by rw [z];exact hbf))).trans e
   ·exact hR v' h'' tk'' hP' fun b o hbw hbS e=>hk'' b o hbw hbS ((ç _ _ (ė hbS)).trans (hk' b o hbw e))
  | false =>
   simp only [Ô,if_false];refine wpAny_bind (wpAny_letGo ?_);rw [ou]
   exact wpAny_pure ⟨plainId_quiet Đ _,ih (j+1) _ vb c ⋯ hlt hst' (by simp only [argBest,hb,Ô,if_false];exact hPb) hS' fun v' h'' tk'' hP' hk''=>hR v' h'' tk'' hP' fun b o hbw hbS e=>hk'' b o hbw hbS (hk' b o hbw e)⟩
theorem vp (W:Walks prog w A.in1 I fp wr n P St) (bt:Nat->Nat->Bool) (hcmp:CmpOf prog w A.in1 .Lt P bt) (S:Addr) (hSf:S∉fp) (hst:St 0 s.heap)
  (hS:s.heap.get? S=some { cls:=.type "list",dict:=none,data:=.seq #[] c,slots := #[] })
  (h0:n=0->∀ h' tk,(∀ b o,b∉wr->s.heap.get? b=some o->h'.get? b=some o)->R (.ok (.ret d)) { s with heap:=h',toks:=tk })
  (hR:0<n->∀ v h' tk,P (argBest bt (n - 1)) v->(∀ b o,b∉wr->b≠S->s.heap.get? b=some o->h'.get? b=some o)->R (.ok (.ret v)) { s with heap:=h',toks:=tk }) :
  codeAny ↥3 A (.builtin "min.loop" ⟨[.ref I,.none,.ref S],dfl d⟩) R s:=by
 have hSw:S∉wr:=fun z=>hSf (W.sub _ z)
 refine codeAny_builtin ŷ ?_;rw [Ė Đ _]
 (show wpAny _ A.in1 (seqItems? (.ref S) >>= _) _ _ s);refine wpAny_bind (wpAny_seqItems hS rfl ?_)
 by_cases hn:n=0
 ·(show wpAny _ A.in1 (tryCatch (pyNext (.ref I)) _ >>= _) _ _ s);refine wpAny_bind (wpAny_tryCatch (W.done s _ _ (hn▸hst) fun h' tk hk' => ?_))
  (show wpAny _ A.in1 (rule _ >>= _) _ _ _);refine wpAny_bind (wpAny_rule (wpAny_pure ?_))
  exact h0 hn h' tk hk'
 ·(show wpAny _ A.in1 (tryCatch (pyNext (.ref I)) _ >>= _) _ _ s);refine wpAny_bind (wpAny_tryCatch (W.item 0 s _ _ ⋯ hst fun v h' tk hP hst' hk' => ?_))
  have hS':=hk' S _ hSw hS
  (show wpAny _ A.in1 (updateSeq S (fun _ => #[v,v]) >>= _) _ _ _);refine wpAny_bind ?_;refine wpAny_updateSeq hS' rfl ?_;rw [ou]
  refine wpAny_pure ⟨plainId_quiet Đ _,ye W bt hcmp S hSf _ 0 _ v _ rfl ⋯ (W.frame _ _ _ hst' fun b hbf o e => ?_) hP (Č _ hS' rfl) fun v' h'' tk'' hP' hk'' => ?_⟩
  ·exact (ç _ _ (fun z:S=b=>hSf (by rw [z];exact hbf))).trans e
  ·exact hR ⋯ v' h'' tk'' hP' fun b o hbw hbS e=>hk'' b o hbw hbS ((ç _ _ (ė hbS)).trans (hk' b o hbw e))
end
section
variable {prog:Program} {w:World} {A:Around} {E:Value->Shared->Prop} {s:Shared} {l:Addr} {xs:Array (Int×Tok)}
theorem Fx (h1:builtinKind i=none) (h2:plainId i=true) (h3:entryFor table i=some f) (h4:argsOk i ⟨us,ks⟩)
  (h:wpAny ↥3 A.in1 (f ⟨us,ks⟩) (fun x s'=>match x with | .done r=>(match (Except.ok r:Result) with | .ok (.ret v)=>Q v s' | .ok _=>False | .error e=>E e s') | .again c=>c.quiet=true/\codeAny ↥3 A c (fun r s'=>match r with | .ok (.ret v)=>Q v s' | .ok _=>False | .error e=>E e s') s') E s) :
  wpAny ↥3 A (call (.builtin i) us ks) Q E s:=by
 refine wpAny_call (codeAny_call_builtin h2 h3 ?_);simp only [checkBuiltinCall,h1]
 cases q:Manifest.signature? i with
 | none=>exact wpAny_pure h
 | some sg=>simp only [show Bind.checkArgs i sg ⟨us,ks⟩=pure () by simpa only [argsOk,q] using h4];exact wpAny_pure h
theorem zr (a v:Value):argsOk "min" ⟨[a],dfl v⟩:=by unfold argsOk;kernel_rfl
theorem yf (hh:A.handled=none) (hl:s.heap.IsList l (intItems xs))
  (h:∀ v h' tk,(xs.size=0/\v=d\/0<xs.size/\(intItems xs)[argBest (fun i j=>decide (numAt xs i<numAt xs j)) (xs.size - 1)]? = some v)->↥45->Q v { s with heap:=h',toks:=tk }) :
  wpAny ↥3 A (call (.builtin "min") [.ref l] (dfl d)) Q E s:=by
 refine Fx PySem.F.kind_min PySem.F.plain_min PySem.F.entry_min (zr _ _) ?_
 (show wpAny _ A.in1 (Áh "min" ["key","default"] 0 ⟨[],dfl d⟩ >>= _) _ _ s);refine wpAny_bind (wpAny_of_eq (show Áh "min" ["key","default"] 0 ⟨[],dfl d⟩=pure [none,some d] from rfl) ?_)
 refine wpAny_bind (wpAny_pure ?_);refine wpAny_bind (iter_intList hl fun s₂ e st hfp hlI => ?_)
 subst e
 refine wpAny_bind (wpAny_newObj_type ?_);rw [ou]
 have hz:(intItems xs).size=xs.size:=by simp [intItems]
 refine wpAny_pure ⟨plainId_quiet Đ _,vp (Walks.list (A:=A.in1) hh _ l hlI (intItems xs)) _ (CmpOf.ints_lt (numAt xs) (fun _ _=>intItems_at)) _ (fun z=>ĉ _ (hfp _ z)) ((Walks.list (prog:=prog) (w:=w) (A:=A.in1) hh _ l hlI (intItems xs)).frame _ _ _ st fun b _ o e=>Ä _ e) (Ú _ rfl) (fun z h' tk hk => ?_) fun z v h' tk hP hk => ?_⟩
 ·exact h d h' tk (.inl ⟨by rw [<- hz];exact z,rfl⟩) (old_kept (l:=l) fun b o hb e=>hk b o hb (Ä _ e))
 ·exact h v h' tk (.inr ⟨by rw [<- hz];exact z,by rw [<- hz];exact hP⟩) (old_kept (l:=l) fun b o hb e=>hk b o hb (æ ↥42) (Ä _ e))
end
theorem uz {f:Nat->Int} {n:Int} {ns:List Int} (h0:f 0=n) (h1:∀ i,i<ns.length->ns[i]? = some (f (i+1))):∀ k,k<=ns.length->f (argBest (fun i j=>decide (f i<f j)) k)=(ns.take k).foldl min n
 | 0,_=>by rw [Ãb];exact h0
 | k+1,hk=>by
  have ih:=uz h0 h1 k ⋯
  rw [List.take_succ,h1 k ⋯,List.foldl_append]
  show f (if decide (f (k+1)<f (argBest _ k))=true then k+1 else argBest _ k)=min ((ns.take k).foldl min n) (f (k+1))
  rw [<- ih]
  by_cases g:f (k+1)<f (argBest (fun i j=>decide (f i<f j)) k)
  ·rw [if_pos (by simpa using g)];omega
  ·rw [if_neg (by simpa using g)];omega
section
variable {X:Cx} {N:List Str} {e:Expr} {g:E} {pos:Pos}
theorem Jq:NoX (oX k):=fun ds C z=>by
 unfold oX at z
 split at z
 ·split at z<;>cases z
 ·cases z
theorem Kq (hc:X.calm=true) {k:Int} {t:Tok} (pins:List ↥6) (s:Shared) (σ:L2.St) (H:Hp) (xs:List V) (us:List Value) (Q:VK) (I:Inv X pins σ H s) (rs:Vals xs us) (h:rC X (oX k) xs H Q) :
  wpAny ↥4 X.A (call (.builtin "min") us (dfl (.int k t))) ↥70 X.xe s:=by
 obtain ⟨ds,d,r,e,q⟩:=h
 unfold oX at e
 split at e
 ·rename_i ds'
  cases hns:intsOf ds' with
  | none=>rw [hns] at e;cases e
  | some ns =>
   obtain ⟨v,rfl,r1⟩:=mn r
   cases r1 with
   | @lst a ys _ hq rr =>
    obtain ⟨its,rv,pl,_⟩:=I.list hq
    obtain ⟨ts,e1,e2⟩:=qf hns rr rv
    cases rs with
    | cons h1 h2 =>
     cases h2
     cases h1
     have hl:s.heap.IsList a (intItems ts.toArray):=by
      have:=pl.isList
      rw [e1] at this
      rw [show intItems ts.toArray=(ts.map fun p=>ű p.1 p.2).toArray by simp [intItems]]
      exact this
     refine yf (I.ok.hd hc) hl fun v h' tk hv hk => ?_
     have fin:∀ (m:Int) (t':Tok),v=.int m t'->d=.int m->EP X pins σ Q v { s with heap:=h',toks:=tk }:=fun m t' ev ed=>by
      subst ev ed
      exact ⟨.int m,H,I.kept (t':=tk) hk,⟨_,rfl⟩,q _ _ ↥24 (.int _)⟩
     have hlen:ts.length=ns.length:=by rw [<- e2,Á]
     cases ns with
     | nil =>
      rw [hns] at e
      rcases hv with ⟨_,hv⟩ | ⟨z,_⟩
      ·exact fin k t hv (R.ok.inj e).symm
      ·rw [Ì,hlen] at z;exact absurd z (ĉ 0)
     | cons n ns =>
      rw [hns] at e
      rcases hv with ⟨z,_⟩ | ⟨_,hv⟩
      ·rw [Ì] at z;rw [z] at hlen;cases hlen
      ·obtain ⟨t',ev⟩:=intItems_at hv
       have at_:∀ i,numAt ts.toArray i=((n::ns)[i]?).getD 0:=fun i=>by
        rw [<- e2];unfold numAt;simp
       have bm:=uz (f:=numAt ts.toArray) (n:=n) (ns:=ns) (by rw [at_];rfl) (fun i hi=>by rw [at_];simp [Â hi]) ns.length ↥15
       rw [List.take_length] at bm
       have hs:ts.toArray.size - 1=ns.length:=by rw [Ì,hlen,Ò];omega
       rw [hs,bm] at ev
       exact fin _ t' ev (R.ok.inj e).symm
 ·cases e
theorem Ki (hc:X.calm=true) (G:Gb X "min") (hm:X.mg "min"=none) {j} (ha:SA X [e] [g])
  (he:backTo pos (starEach [e] X.env)=↥27::backTo pos (starEach [] X.env):=by rfl) (hpl:(backTo pos (starEach [e] X.env)).any (·.1)=false:=by rfl) :
  SE X (.Call (.Name "min" p) [e] [⟨some "default",.Constant (.int k) j cp,kp⟩] pos) (EV.call (oX k) [g]):=by
 intro pins s σ H Q I ⟨δ,hσ,q⟩
 refine wpAny_Call_Name_kw (fF I G.g hm boot_min ?_ G.n G.d)
 refine callWith_kw (thn (ha pos pins s σ H (fun vs H'=>∃ ds,aq H H'/\Reps X.K X.mg H' vs ds/\RQ X σ H' (oX k ds) Q) I ⟨δ,hσ,?_⟩) fun us s1 ⟨vs,H1,I1,r1,ds,s01,rp,q1⟩ => ?_) he hpl
 ·exact (RA.bind q).to fun vs H' s ⟨s',ds,rs,q⟩=>⟨ds,s',rs,q⟩
 ·refine kws_cons (thn (af pins s1 σ H1 (fun v H'=>v=.int k/\aq H1 H') I1 ⟨δ,hσ.mono s01,fun v H' s' r=>by cases r;exact ⟨rfl,s'⟩⟩) fun u s2 ⟨v,H2,I2,rv,ev,sm⟩=>kws_nil ?_)
  subst ev
  obtain ⟨t,rfl⟩:=rv
  obtain ⟨ds',d,r,e',q'⟩:=RQ.cl Jq rp q1
  exact Kq hc pins s2 σ H2 vs us Q I2 r1 ⟨ds',d,r.mono sm,e',fun v H' s'=>q' v H' (sm.trans s')⟩
end
end ES
namespace ES
open PySem PySem.Spec PyProof.Rows L2 EV
unseal SE ST SW SA SS SSs SI SO
set_option maxRecDepth 8000 in
theorem FP (a:Addr) (xs:Array Value) (k:Nat) (t:Addr) (ys:Array Value) (m:Nat) (dd:Option Addr) (sl:Array ↥107) (z0:¬(!xs.isEmpty&&ŋ (xs.size+ys.size))=true) (z1:xs.size<=sizeLine) (z2:xs.size+ys.size<=sizeLine+1) :
  Meets (Builtin.«list.extend» ⟨[.ref a,.ref t],[]⟩) (fun _ R s=>s.heap.get? a=some { cls:=.type "list",dict:=none,data:=.seq xs k,slots := #[] }/\s.heap.get? t=some { cls:=.type "tuple",dict:=dd,data:=.seq ys m,slots:=sl }/\R (.ok (.ret Ŝ)) { s with heap:=s.heap.update a (ę fun x=>x++ys),toks:=s.toks }) :=
 .of_wp fun prog w A R s q=>by
  obtain ⟨hp,g,d,tk,os⟩:=s;obtain ⟨ha,ht,q⟩:=q;have f1:=PySem.AutoSeq1.idx_int;have f2:=PySem.AutoSeq1.sub_tuple_tuple;have f3:=PySem.AutoSeq1.sub_list_list;have f4:=PySem.AutoSeq1.sub_tuple_list;have f5:=PySem.AutoSeq1.sub_list_tuple
  have z3:(xs++ys).size<=sizeLine+1:=by rw [ś];exact z2
  wp_walk using (wpAny_updateSeq ha rfl (hz:=z1) (_hz':=z3)),ſ ha,ſ ht;exact ⟨_,rfl,q⟩
section
variable {X:Cx} {N:List Str} {e:Expr} {g:E} {pos:Pos}
def LM (X:Cx):V->List V->Hp->VK->Prop:=fun x vs H Q=>∃ l b xs zs,x=.ref l/\vs=[.ref b]/\H l=some ↥131/\SqT X.K H b zs/\xs.length+zs.length<=sizeLine/\Q .non (upd H l (.lst (xs++zs)))
theorem Fp:MtM X "list.extend" (LM X):=by
 intro pins s σ H x vs v us Q I rx rv h
 obtain ⟨l,b,xs,zs,rfl,rfl,hH,hB,hz,q⟩:=h
 cases rx
 obtain ⟨u,rfl,ru⟩:=rv.one
 cases ru
 obtain ⟨z,its,n,r,hl,e⟩:=I.lstM hH
 obtain ⟨its2,r2,⟨⟨cl,dd,da,sl⟩,e2,hc,n2,hd⟩,hl2⟩:=I.tuple hB
 simp only at hc hd
 subst hc hd
 have hl3:=r2.length
 have hsz:its.toArray.size+its2.toArray.size<=sizeLine:=by rw [Ì,Ì];omega
 have hlong:¬ (!its.toArray.isEmpty&&ŋ (its.toArray.size+its2.toArray.size))=true:=by rw [tX hsz,Bool.and_false];exact Í
 refine call_meets Åd ⟨_,e,rfl⟩ PySem.F.entry_list_extend (PySem.F.args_list_extend_2 _ _) (FP l its.toArray n b its2.toArray n2 dd sl hlong (by rw [Ì];omega) ⋯) ⟨e,e2,?_⟩
 exact ⟨.non,_,I.lset (its':=its++its2) hH e ↥80 (r.append r2) (by rw [Æ];omega),rfl,q⟩
theorem AG (C:Sx X N) (i:Nat) (hN:N[i]? = some x) (he:SE X e g)
  (hbase:attributeBase (.Name x p1) "extend" X.env (eval (.Name x p1) X.env)=eval (.Name x p1) X.env:=by rfl)
  (hfew:((backTo p3 (starEach [e] X.env)).all (fun x => !x.1)&&(backToKw p3 (keywordEach [] X.env)).all (fun x=>x.1.isSome)
   && decide ([e].length+([]:List Keyword).length+(if ([]:List Keyword).isEmpty then 0 else 1)<30))=true:=by rfl)
  (hline:(p2.endLine == p3.line)=true:=by rfl) (hs:starEach [e] X.env=[↥27]:=by rfl)
  (hsw:swapsWith (.Call (.Attribute (.Name x p1) "extend" p2) [e] [] p3) none pos.line X.env=pure false:=by rfl) :
  SS X (.Expr (.Call (.Attribute (.Name x p1) "extend" p2) [e] [] p3) pos) (jn i g):=by
 have hm:x∈N:=ê hN
 refine PS.weak (rA (IV Æb Åd PySem.F.type_list_extend Fp (pV (i:=i) (by rw [C.sc.n];exact hN) (C.sc.vis x hm) (C.sc.dbg x hm).1 (C.sc.dbg x hm).2) (fz (zb he) ip hs) hbase hfew hline hs (by rfl)) hsw) fun D σ H ⟨δ,os,S,q⟩ => ?_
 unfold jn jf at q
 split at q
 ·rename_i ds ei
  obtain ⟨a,ha⟩:=S.own i ds ei
  obtain ⟨xs,ds',h1,h2,h3,h4⟩:=S.lst _ ha
  rw [ei] at h3
  cases h3
  refine ⟨.ref a,h2,.inl ⟨rfl,xs,SqL.of h1⟩,δ,os,S,?_,?_⟩
  ·intro d ed
   unfold GQ at q
   rw [ed] at q
   cases d with
   | tup es =>
    simp only at q
    split at q
    ·rename_i z;exact z.1
    ·exact Å q
   | _=>exact Å q
  ·unfold GQ at q
   cases r:g ↥66 with
   | ok d =>
    rw [r] at q
    cases d with
    | tup es =>
     simp only at q
     split at q
     ·rename_i z
      intro v H' S' sm rp
      obtain ⟨xs',ds',k1,k2,k3,k4⟩:=S'.lst _ ha
      rw [ei] at k3
      cases k3
      cases rp with
      | @tup b ys _ hq rr =>
       refine ⟨a,b,xs',ys,rfl,rfl,k1,dI (bj _ _) hq,by rw [k4.length,rr.length,sizeLine_eq];omega,?_⟩
       have S2:=S'.write ha (k4.append rr)
       exact q _ _ _ S2 (by rw [oE (eT ha)];exact sm)
     ·exact Å q
    | _=>exact Å q
   | ex C=>rw [r] at q;exact fun Ca hc H' s' st=>q σ H' s' st Ca hc
   | bad=>rw [r] at q;exact Å q
 ·exact Å q
theorem FN (G:Gb X "list") (hm:X.mg "list"=none) (h:SE X e g) (he:starEach [e] X.env=[↥27]:=by rfl) (hpl:(backTo pos (starEach [] X.env)).any (·.1)=false:=by rfl) :
  FE X (.Call (.Name "list" p) [e] [] pos) (EV.call qF [g]):=by
 refine PE.weak (pW fJ G.g hm boot_list (fz h ip he) G.n G.d he hpl) fun σ H Q ⟨δ,hσ,q⟩=>⟨δ,hσ,?_⟩
 unfold EV.call at q
 have fin:∀ {H':Hp} {a:Addr} {ys:List V} {ds:List D},RF X σ H (dD ds) Q->aq H H'->(SqL X.K H' a ys\/SqT X.K H' a ys)->Reps X.K X.mg H' ys ds->∃ p zs,[V.ref a]=[V.ref p]/\(SqL X.K H' p zs\/SqT X.K H' p zs)/\∀ l,H' l=none->Q (.ref l) (upd H' l (.lst zs)):=by
  intro H' a ys ds q sm hq rr
  unfold dD at q
  split at q
  ·rename_i fl
   have q':∀ a xs H'',aq H H''->H a=none->H'' a=some ↥131->Reps X.K X.mg H'' xs ds->EV.D.flats ds=true->Q ↥114 H'':=q
   exact ⟨a,ys,rfl,hq,fun l hl=>q' l ys _ (sm.trans (aL hl _)) (by
    cases z:H l with
    | none=>rfl
    | some o=>rw [sm l o z] at hl;cases hl) au (rr.mono (aL hl _)) fl⟩
  ·exact Å q
 cases r:g δ with
 | ok d =>
  have ev:evs [g] δ=.ok [d]:=by unfold evs;rw [r];rfl
  rw [ev] at q
  simp only [R.bind] at q
  intro v H' sm rp
  cases d with
  | tup ds =>
   cases rp with
   | @tup a ys _ hq rr=>exact fin q sm (.inr hq) rr
  | lst ds =>
   cases rp with
   | @lst a ys _ hq rr=>exact fin q sm (.inl hq) rr
  | _=>exact Å q
 | ex C =>
  have ev:evs [g] δ=.ex C:=by unfold evs;rw [r];rfl
  rw [ev] at q
  exact q
 | bad =>
  have ev:evs [g] δ=.bad:=by unfold evs;rw [r];rfl
  rw [ev] at q
  exact Å q
theorem Mp:NoX Gp:=fun ds C z=>by
 unfold Gp at z
 split at z
 ·split at z<;>cases z
 ·cases z
theorem m7:∀ {xs:List V} {ds:List D} {bs:List Bool} {us:List Value},boolsOf ds=some bs->Reps X.K X.mg H xs ds->Vals xs us->us=bs.map Ŭ
 | _,[],_,_,e,.nil,.nil=>by cases e;rfl
 | _,.bl b::r,bs,_,e,.cons h t,.cons h' t'=>by
  cases h
  unfold boolsOf at e
  cases q:boolsOf r with
  | none=>rw [q] at e;cases e
  | some ms =>
   rw [q] at e
   have e':b::ms=bs:=Ó.inj e
   subst e'
   cases h'
   rw [m7 q t t',Ê]
 | _,.non::_,_,_,e,_,_=>by cases e
 | _,.int _::_,_,_,e,_,_=>by cases e
 | _,.str _::_,_,_,e,_,_=>by cases e
 | _,.tup _::_,_,_,e,_,_=>by cases e
 | _,.lst _::_,_,_,e,_,_=>by cases e
 | _,.own _::_,_,_,e,_,_=>by cases e
 | _,.ty _::_,_,_,e,_,_=>by cases e
 | _,.cls _::_,_,_,e,_,_=>by cases e
 | _,.exc _::_,_,_,e,_,_=>by cases e
 | _,.ins _ _::_,_,_,e,_,_=>by cases e
theorem ML (hc:X.calm=true):fS X (.builtin "any") (rC X Gp):=by
 intro pins s σ H xs us Q I rs ⟨ds,d,r,e,q⟩
 unfold Gp at e
 split at e
 ·rename_i ds'
  cases hbs:boolsOf ds' with
  | none=>rw [hbs] at e;cases e
  | some bs =>
   rw [hbs] at e
   cases e
   obtain ⟨v,rfl,r1⟩:=mn r
   cases r1 with
   | @lst a ys _ hq rr =>
    obtain ⟨its,rv,pl,_⟩:=I.list hq
    have e1:=m7 hbs rr rv
    cases rs with
    | cons h1 h2 =>
     cases h2
     cases h1
     have hl:=pl.isList
     rw [e1] at hl
     have hlt:a<s.heap.objs.size:=by obtain ⟨_,z,_⟩:=hl;exact à z
     refine call_any_walk (wpAny_pyIter_list hl ⟨_,_,_,_,_,_,fun i=>(bs[i]?).getD false,rfl,Walks.list (A:=X.A.in1) (I.ok.hd hc) _ a (æ hlt) (bs.map Ŭ).toArray,⟨⟨_,Ú _ rfl,rfl,rfl⟩,hl.push _⟩,?_,fun h' tk hk => ?_⟩)
     ·intro i v s' Q' E' hP hQ
      have hQ':Q' ((bs[i]?).getD false) s':=hQ
      have hP':((bs.map Ŭ).toArray)[i]? = some v:=hP
      rw [ŕ,Ë] at hP'
      cases hb:bs[i]? with
      | none=>rw [hb] at hP';cases hP'
      | some b =>
       rw [hb] at hP' hQ'
       cases hP'
       exact wpAny_truthy_bool hQ'
     ·have hold:∀ b o,s.heap.get? b=some o->h'.get? b=some o:=fun b o z=>hk b o (fun hm=>by
       rcases Ö.mp hm with e2 | hm
       ·exact absurd (e2▸à z) (ĉ _)
       ·cases hm) (Ä _ z)
      have ea:(č (bs.map Ŭ).toArray.size).any (fun i=>(bs[i]?).getD false)=bs.any id:=by
       rw [Ì,Á]
       apply œ.mpr
       simp only [List.any_eq_true,ŝ,id]
       constructor
       ·rintro ⟨i,hi,z⟩
        rw [Â hi] at z
        exact ⟨_,ħ hi,z⟩
       ·rintro ⟨b,hb,z⟩
        obtain ⟨i,hi,rfl⟩:=Ũ hb
        exact ⟨i,hi,by rw [Â hi];exact z⟩
      rw [ea]
      exact ⟨.bl _,H,I.kept (t':=tk) hold,rfl,q _ _ ↥24 (.bl _)⟩
 ·cases e
end
end ES
namespace ES
open PySem PySem.Spec PyProof.Rows L2 EV
structure DA (K:PySem.W.Frag) (n:Str) (st:Stmt):Prop where
 ex:∃ f fd,PySem.W.nsIn K mainGlobals n=some (some (.ref f))/\Fun K n n st f fd
theorem Kl {K:PySem.W.Frag} {n:Str} {st:Stmt} {f:Addr} {oc:Value} {od an:Option Addr} {osl:Array ↥107} {kV doc pm cdv ct:Value} (a:PySem.W.nsIn K mainGlobals n=some (some (.ref f))) (l:K.lookup f=some ⟨oc,od,.func (Ĳ n n (dF st) (ag st) (aa st) .none kV doc pm an cdv ct),osl⟩)
  (c:PySem.W.codeIn K cdv n=true) (k:PySem.W.keepIn K (.ref f)=true):DA K n st:=⟨_,_,a,mW l c k⟩
theorem DA.fn {P:Program} {w:World} {K:PySem.W.Frag} {h:Heap} {mg:Str->Option Value} {base:Heap} {n:Str} {st:Stmt} {N G ps:List Str} {k a m:Nat} {g:S}
  (q:DA K n st) (KX:K.In h) (GG:h.Ns mainGlobals mg) (S:ScF N G ps (aa st)) (hn:ps.length=a) (hm:N.length=m) (B:∀ {f:Addr} {fd:FuncData},Fun K n n st f fd->Binds K fd ps [])
  (hbody:∀ X:Cx,Room k (at5 X P w K mg base).A->Lp ↥60->Own ↥60->Pl ↥60 N G->(at5 X P w K mg base).env.scope=aa st->SSs ↥60 (ag st) g) :
  FnP P w K mg base n (k+1) (fn a m g):=by
 obtain ⟨f,fd,a,F⟩:=q.ex
 exact J8 (uj F S hn hm hbody) F.kp (ć KX GG a) (B F)
theorem FnP.c (F:FnP X.prog X.w X.K X.mg X.base x k f) (hr:Room j X.A) (h:k<=j:=by decide):Callee X x f:=F.callee hr h
end ES
local macro_rules | `(tactic| walk_at "S")=>`(tactic| exact ⟨⟨rfl,rfl,rfl,by decide +kernel,by decide +kernel,by decide +kernel,by decide +kernel⟩,by decide +kernel,by decide +kernel,by decide +kernel,by decide +kernel⟩)
namespace EV
def M6:List Nat->Dt->List D->Option Dt
 | [],δ,[]=>some δ
 | i::is,δ,d::ds=>M6 is ↥108 ds
 | _,_,_=>none
def A3:D->D->R D
 | .lst xs,.int k=>if 0<=k/\k<=1000/\xs.length*k.toNat<=100000 then .ok (.lst (Û k.toNat xs).flatten) else .bad
 | _,_=>.bad
end EV
namespace ES
open PySem PySem.Spec PyProof.Rows L2 EV
unseal SE ST SW SA SS SSs SI SO
section
variable {X:Cx}
end
end ES
namespace ES
open PySem PySem.Spec PyProof.Rows L2 EV
unseal SE ST SW SA SS SSs SI SO
def gIs:List Nat->TGs
 | []=>Pe
 | i::is=>JW (vF i) (gIs is)
section
variable {X:Cx} {N:List Str} {e:Expr} {es:List Expr} {g:IT} {gb:S} {body:List Stmt} {is:List Nat} {pos:Pos}
theorem P6:∀ {is:List Nat} {xs:List V} {ds:List D} {σ:L2.St} {δ δ2:Dt} {os:List (Nat×Addr)},StO X H σ δ os->Reps X.K X.mg ↥26 xs ds->M6 is δ ds=some δ2->(∀ σ2 os2,StO X H σ2 δ2 os2->aq ↥26 (hide H os2)->Q σ2 H)->gIs is xs σ H Q
 | [],xs,ds,σ,δ,δ2,os,S,r,e,q=>by
  cases r with
  | nil=>cases e;exact ⟨rfl,q _ _ S ↥24⟩
  | cons _ _=>cases e
 | i::is,xs,ds,σ,δ,δ2,os,S,r,e,q=>by
  cases r with
  | nil=>cases e
  | cons ra rr =>
   obtain ⟨S2,s2⟩:=S.set (i:=i) ra
   exact ⟨_,_,rfl,P6 S2 (rr.mono s2) e fun σ2 os2 S3 s3=>q σ2 os2 S3 (s2.trans s3)⟩
theorem tJ:∀ {xs:List V} {ds:List D},Reps X.K X.mg H xs ds->Reps X.K X.mg H xs.reverse ds.reverse
 | [],_,r=>by cases r;exact .nil
 | x::xs,_,r=>by
  cases r with
  | cons a b=>rw [Ÿ,Ÿ];exact (tJ b).append (.cons a .nil)
end
end ES
namespace ES
open PySem PySem.Spec PyProof.Rows L2 EV
section
variable {X:Cx} {N G:List Str} {e e1 e2 e3 e4:Expr} {es:List Expr} {g g1 g2 g3 g4:E} {gs:List E} {x:Str} {p pos:Pos} {f:List D->R D}
theorem Pl.v (P:Pl X N G) (i:Nat) (h:N[i]? = some x:=by rfl):SE X (.Name x pos) (var i):=cY P.sc i h
theorem Pl.w (P:Pl X N G) (i:Nat) (h:G[i]? = some x:=by rfl):Gb X x:=P.gb _ (mG i h)
theorem Pl.set (P:Pl X N G) (i:Nat) (h:SE X e g) (hN:N[i]? = some x:=by rfl) (hsw:swapsWith e (some (.Name x p)) pos.line X.env=pure false:=by rfl):SS X (.Assign [.Name x p] e pos) (assign i g):=LI P.toSx i hN (P.sto _ (mG i hN)) h hsw
theorem Pl.ret (P:Pl X N G) (h:SE X e g):SS X (.Return (some e) pos) (ret g):=LJ P.toSx h
theorem Pl.if_ {c:Expr} {gc:E} {body els:List Stmt} {gb ge:S} (P:Pl X N G) (hc:ST X c gc) (ha:SSs X body gb) (hb:SSs X els ge):SS X (.If c body els pos) (ifs gc gb ge):=PU P.toSx hc ha hb
theorem Pl.xp (P:Pl X N G) (h:SE X e g) (hs:swapsWith e none pos.line X.env=pure false:=by rfl):SS X (.Expr e pos) (expr g):=Ie P.toSx h hs
theorem Pl.y {j} (P:Pl X N G) (i:Nat) (h:N[i]? = some x:=by rfl):SE X (.Subscript (.Name x p1) (.Constant (.int k) j p2) pos) (bin oIx (var i) (con (.int k))):=pd (cY P.sc i h) af
theorem Pl.call (P:Pl X N G) (i:Nat) (c:Callee X x f) (ha:SA X (e::es) gs) (h:G[i]? = some x:=by rfl) (he:starEach (e::es) X.env=↥27::starEach es X.env:=by rfl) (hpl:(backTo pos ↥65).any (·.1)=false:=by rfl) :
  SE X ↥55 (EV.call f gs):=lH c (P.gb _ (mG i h)) ha he hpl
theorem a1 (h1:SE X e1 g1) (s1:starEach [e1] X.env=(false,eval e1 X.env)::starEach [] X.env:=by rfl):SA X [e1] [g1]:=ak h1 gH s1
theorem a2 (h1:SE X e1 g1) (h2:SE X e2 g2) (s1:starEach [e1,e2] X.env=(false,eval e1 X.env)::starEach [e2] X.env:=by rfl) (s2:starEach [e2] X.env=(false,eval e2 X.env)::starEach [] X.env:=by rfl):SA X [e1,e2] [g1,g2]:=ak h1 (ak h2 gH s2) s1
theorem a3 (h1:SE X e1 g1) (h2:SE X e2 g2) (h3:SE X e3 g3) (s1:starEach [e1,e2,e3] X.env=(false,eval e1 X.env)::starEach [e2,e3] X.env:=by rfl) (s2:starEach [e2,e3] X.env=(false,eval e2 X.env)::starEach [e3] X.env:=by rfl) (s3:starEach [e3] X.env=(false,eval e3 X.env)::starEach [] X.env:=by rfl):SA X [e1,e2,e3] [g1,g2,g3]:=ak h1 (ak h2 (ak h3 gH s3) s2) s1
end
end ES
local macro_rules | `(tactic| walk_at "C")=>`(tactic| exact ⟨rfl,by decide +kernel,by decide +kernel,by decide +kernel,by decide +kernel,by decide +kernel,by decide +kernel,by decide +kernel,by decide +kernel,by decide +kernel⟩)
namespace ES
open PySem PySem.Spec PyProof.Rows L2 EV
unseal SE ST SW SA SS SSs SI SO
theorem LL (a:Int) (t:Tok) (l:Addr) (xs:Array Value) (n:Nat) (d1:Option Addr) (s1:Array ↥107) :
  Meets (Builtin.«int.__rmul__» ⟨[.int a t,.ref l],[]⟩) (fun _ R s=>s.heap.get? l=some { cls:=.type "list",dict:=d1,data:=.seq xs n,slots:=s1 }/\R (.ok (.ret .notImplemented)) s) :=
 .of_wp fun prog w A R s h=>by
  obtain ⟨hp,g,dd,tk,os⟩:=s
  obtain ⟨ha,h⟩:=h
  wp_walk using Ŋ ha
  exact ⟨_,rfl,h⟩
theorem QV (l:Addr) (xs:Array Value) (n:Nat) (k:Int) (t:Tok) (d1:Option Addr) (s1:Array ↥107) (h1:¬ (!Builtin.List.listFitsIndex k)=true) (h2:¬ xs.size*k.toNat>(2^63 - 1) / 8) (h3:¬ ŋ (xs.size*k.toNat)=true)
  (h4:¬ (Çe (fun x1 x2=>x1++x2) #[] (Û (if xs.isEmpty=true then 0 else k.toNat) xs)).size>sizeLine) :
  Meets (Builtin.«list.__mul__» ⟨[.ref l,.int k t],[]⟩) (fun _ R s=>s.heap.get? l=some { cls:=.type "list",dict:=d1,data:=.seq xs n,slots:=s1 } /\
   R (.ok (.ret (â s.heap.objs.size))) { s with heap:=s.heap.push { cls:=.type "list",data:=.seq (Çe (fun x1 x2=>x1++x2) #[] (Û (if xs.isEmpty=true then 0 else k.toNat) xs)) } }) :=
 .of_wp fun prog w A R s h=>by
  obtain ⟨hp,g,dd,tk,os⟩:=s
  obtain ⟨ha,h⟩:=h
  wp_walk using Ŋ ha
  show wpAny _ _ (ite _ _ _) _ _ _
  rw [if_neg h4]
  wp_walk
  exact ⟨_,rfl,h⟩
theorem tM {K:PySem.W.Frag} {mg:Str->Option Value} {H:Hp} {xs:List V} {ds:List D} (r:Reps K mg H xs ds):∀ k:Nat,Reps K mg H (Û k xs).flatten (Û k ds).flatten
 | 0=>.nil
 | k+1=>by
  rw [ğ,ğ,ń,ń]
  exact r.append (tM r k)
section
variable {X:Cx} {pos:Pos} {a b:Expr} {ga gb:E}
theorem Mj:jP A3:=fun x y C z=>by unfold A3 at z;split at z<;>first | cases z | exact fD z
theorem EO:OpR X (binaryOp .Mult) (rD X A3):=by
 intro pins s σ H x y v u Q I rx ry ⟨dx,dy,d,r1,r2,e,q⟩
 unfold A3 at e
 split at e
 ·rename_i xs' k
  split at e
  ·rename_i hz
   cases e
   cases r1 with
   | @lst l xs _ hH rr =>
    cases r2
    cases rx
    obtain ⟨t,rfl⟩:=ry
    obtain ⟨its,r,⟨⟨c1,d1,t1,s1⟩,n,e,g1,g2,g3⟩,_⟩:=I.list hH
    simp only at g1 g2 g3
    subst g1 g2 g3
    have hl:=r.length
    have hl':=rr.length
    have hsz:xs.length*k.toNat<=sizeLine:=by rw [hl'];exact Ð hz.2.2 (by rw [sizeLine_eq];decide)
    have hlen:its.toArray.size*k.toNat<=sizeLine:=by rw [Ì,<-hl];exact hsz
    have hcap:¬ its.toArray.size*k.toNat>(2^63 - 1) / 8:=by
     have:(sizeLine:Nat)<=(2^63 - 1) / 8:=by decide
     omega
    have hfit:¬ (!Builtin.List.listFitsIndex k)=true:=by
     rw [fitsIndex_both ⋯ ⋯]
     exact Í
    have hlong:¬ ŋ (its.toArray.size*k.toNat)=true:=by
     rw [tX hlen]
     exact Í
    have hnew:List.foldl (fun x1 x2=>x1++x2) #[] (Û (if its.toArray.isEmpty=true then 0 else k.toNat) its.toArray)=(Û k.toNat its).flatten.toArray:=by
     have f0:∀ m:Nat,Çe (fun x1 x2=>x1++x2) #[] (Û m its.toArray)=(Û m its).flatten.toArray:=fun m=>by
      have:=foldl_rep its m []
      rw [Ł] at this
      exact this
     rw [f0]
     cases its with
     | nil=>simp
     | cons a r'=>rw [if_neg ↥80]
    have hbig:¬ (Çe (fun x1 x2=>x1++x2) #[] (Û (if its.toArray.isEmpty=true then 0 else k.toNat) its.toArray)).size>sizeLine:=by
     rw [hnew,Ì,len_rep,Nat.mul_comm]
     rw [Ì] at hlen
     omega
    refine wpAny_binaryOp_repeat_ref (T:="list") (U:="int") ↥1 ⟨_,e,rfl⟩ (fun s'=>typeIs_int s' k t) noFill_list_mul F.fills_int_mul F.slot_int_rmul repeat_list F.slot_int_index.lookup
     (call_meets F.slot_int_rmul (typeIs_int s k t) F.entry_int_rmul (F.args_int_rmul_2 _ _) (LL k t l its.toArray n _ _)
      ⟨e,rfl,⟨_,e,rfl⟩,call_meets F.slot_list_mul ⟨_,e,rfl⟩ F.entry_list_mul (F.args_list_mul_2 _ _) (QV l its.toArray n k t _ _ hfit hcap hlong hbig) ⟨e,?_⟩⟩)
    rw [hnew]
    exact ⟨.ref _,_,I.lnew (t':=s.toks) (r.rep k.toNat) (by rw [len_rep,Nat.mul_comm];exact hsz),rfl,q _ _ (aL I.fresh _) (.lst (SqL.of au) ((tM rr k.toNat).mono (aL I.fresh _)))⟩
  ·cases e
 ·cases e
theorem Kg (ha:SE X a ga) (hb:SE X b gb):SE X (.BinOp a .Mult b pos) (EV.bin A3 ga gb):=oK Mj EO ha hb
end
end ES
namespace EV
end EV
namespace ES
open PySem PySem.Spec PyProof.Rows L2 EV
unseal SE ST SW SA SS SSs SI SO
section
variable {X:Cx} {pos:Pos} {a b:Expr} {ga gb:E}
end
end ES
namespace EV
end EV
namespace ES
open PySem PySem.Spec PyProof.Rows L2 EV
unseal SE ST SW SA SS SSs SI SO
section
variable {X:Cx} {pos p p2:Pos} {a e:Expr} {g:E} {lo hi:Option Expr} {gl gu:Option E}
structure IsW (X:Cx) (n:String) (C:Addr):Prop where
 mg:X.mg n=some ↥52
 cl:Cls X.K C
 ha:PySem.W.findIn X.K ↥52 "__class__"=some (some ↥40)
 hn:PySem.W.specialIn X.K ↥40 "__get__"=some (some (.builtin "getset_descriptor.__get__"))
 htk:PySem.W.takesIn X.K ↥40=some true
 hm:PySem.W.mroIn X.K C ↥91=some true
 kit:PySem.W.kitOne X.K ↥52 ↥52=some true
end
end ES
namespace EV
def zf (x:PySem.Str) (i:Int):PySem.Str:=if i<=x.cps.size then x else ⟨(Û (i.toNat - x.cps.size) 48).toArray++x.cps⟩
end EV
namespace ES
open PySem PySem.Spec PyProof.Rows L2 EV
unseal SE ST SW SA SS SSs SI SO
section
variable {X:Cx} {pos:Pos} {a b:Expr} {ga gb:E}
end
end ES
namespace EV
end EV
namespace ES
open PySem PySem.Spec PyProof.Rows L2 EV
unseal SE ST SW SA SS SSs SI SO
section
variable {X:Cx} {pos:Pos} {a b:Expr} {ga gb:E}
end
end ES
namespace EV
def dv (l:List Nat):Nat:=l.foldl (fun a c=>a*10+(c - 48)) 0
end EV
namespace ES
open PySem PySem.Spec PyProof.Rows L2 EV
unseal SE ST SW SA SS SSs SI SO
section
variable {X:Cx} {pos:Pos} {tg e a b:Expr} {g ga gb:E}
end
end ES
namespace EV
def Ky:List D->R D
 | [.lst xs,.lst ys]=>if xs.length<=100000/\ys.length<=100000 then .ok (.lst (Ëf (fun x y=>.tup [x,y]) xs ys)) else .bad
 | _=>.bad
end EV
namespace ES
open PySem PySem.Spec PyProof.Rows L2 EV
abbrev IsZ (h:Heap) (z TI TO:Addr) (f0:Value) (b:Bool):Prop :=
 h.get? z=some { cls:=.type "zip",dict:=none,data:=.fields #[f0,.bool b,.bool false,.ref TI,.ref TO],slots := #[] }
section
variable {prog:Program} {w:World} {A:Around} {E:Value->Shared->Prop} {s:Shared}
theorem qU {M:Model} {a:Addr} {Q:Option Obj->Shared->Prop} (h:Q (s.heap.get? a) s):wpAny M A (loadIfAlive a) Q E s:=fun Γ p _=>h
theorem yF {z TI TO T:Addr} {b:Bool} {Q:Bool->Shared->Prop} (hz:IsZ s.heap z TI TO (rawInt T) b) (hT:∃ o,s.heap.get? T=some o)
  (h:∀ h',IsZ h' z TI TO (rawInt T) true->Ę z s.heap h'->Q false { s with heap:=h' }):wpAny ↥3 A (Ķ (.ref z)) Q E s:=by
 obtain ⟨o,ho⟩:=hT
 unfold Builtin.SmallTypes.ownedTupleIsFree
 refine wpAny_bind (wpAny_field hz rfl (x:=rawInt T) rfl ?_)
 show wpAny _ _ (loadIfAlive (Int.toNat (T:Int)) >>= _) _ _ _
 refine wpAny_bind (qU ?_)
 rw [Int.toNat_natCast,ho]
 simp only [Option.isNone_some,Ô,if_false]
 refine wpAny_bind (wpAny_field hz rfl (x:=.bool b) rfl ?_)
 cases b with
 | true =>
  rw [if_neg ↥1]
  exact wpAny_pure (h s.heap hz (Heap.SameBut.refl ..))
 | false =>
  rw [if_pos ↥1]
  exact wpAny_bind (wpAny_setField_rec hz ↥80 fun h₁ hz₁ hs₁=>wpAny_pure (h h₁ hz₁ hs₁))
theorem nD {z TI TO T i1 i2 l1 l2:Addr} {b:Bool} {k1 k2:Nat} {xs ys:Array Value} {x y:Value} {Q:Value->Shared->Prop} (D:ZipApart z TI TO i1 i2 l1 l2)
  (hz:IsZ s.heap z TI TO (rawInt T) b) (hT:∃ o,s.heap.get? T=some o) (hTI:IsPair s.heap TI (.ref i1) (.ref i2))
  (h1:s.heap.IsListIter i1 l1 k1) (h2:s.heap.IsListIter i2 l2 k2) (hl1:s.heap.IsList l1 xs) (hl2:s.heap.IsList l2 ys) (hx:xs[k1]? = some x) (hy:ys[k2]? = some y)
  (hQ:∀ h',IsZ h' z TI TO (rawInt T) true->h'.IsListIter i1 l1 (k1+1)->h'.IsListIter i2 l2 (k2+1)->IsPair h' s.heap.objs.size x y->h'.objs.size=s.heap.objs.size+1 ->
   ↥30->Q ↥57 { s with heap:=h' }) :
  wpAny ↥3 A (Builtin.«zip.__next__» ⟨[.ref z],[]⟩) (fun fin s'=>∃ v,fin=.done (.ret v)/\Q v s') E s:=by
 show wpAny _ _ (field (.ref z) 2 >>= _) _ _ _
 refine wpAny_bind (wpAny_field hz rfl (x:=.bool false) rfl ?_)
 show wpAny _ _ (field (.ref z) 3 >>= _) _ _ _
 refine wpAny_bind (wpAny_field hz rfl (x:=.ref TI) rfl ?_)
 refine wpAny_bind (wpAny_seqItems hTI rfl ?_)
 show wpAny _ _ (Ķ (.ref z) >>= _) _ _ _
 refine wpAny_bind (yF hz hT fun h₁ hz₁ hs₁ => ?_)
 simp only [Ô,if_false]
 refine wpAny_bind ?_
 simp only [Ãc.symm,Àg,Éa]
 refine wpAny_bind (wpAny_bind (wpAny_holding ?_))
 show wpAny _ _ (ļ (.ref i1) >>= _) _ _ _
 refine wpAny_bind (wpAny_nextOf_list_item (h1.extBut hs₁.extBut D.i1z) (hl1.extBut hs₁.extBut D.l1z) hx fun h₂ h1₂ hs₂=>wpAny_pure ?_)
 refine wpAny_pure ?_
 refine wpAny_bind (wpAny_bind (wpAny_holding ?_))
 show wpAny _ _ (ļ (.ref i2) >>= _) _ _ _
 refine wpAny_bind (wpAny_nextOf_list_item ((h2.extBut hs₁.extBut D.i2z).extBut hs₂.extBut D.i12.symm) ((hl2.extBut hs₁.extBut D.l2z).extBut hs₂.extBut D.l2i1) hy fun h₃ h2₃ hs₃=>wpAny_pure ?_)
 refine wpAny_pure (wpAny_pure ?_)
 refine wpAny_bind (wpAny_newTuple ?_ (by show 2<=sizeLine;decide))
 have hsz:h₃.objs.size=s.heap.objs.size:=by rw [hs₃.1,hs₂.1,hs₁.1]
 have hz₃:IsZ h₃ z TI TO (rawInt T) true:=hs₃.extBut _ _ D.i2z.symm (hs₂.extBut _ _ D.i1z.symm hz₁)
 have hk₃:∀ c o,c≠z->c≠i1->c≠i2->s.heap.get? c=some o->h₃.get? c=some o:=fun c o c1 c3 c4 e=>hs₃.extBut _ _ c4 (hs₂.extBut _ _ c3 (hs₁.extBut _ _ c1 e))
 refine wpAny_pure ⟨_,rfl,?_⟩
 show Q (.ref h₃.objs.size) _
 rw [hsz]
 refine hQ (h₃.push { cls:=.type "tuple",data:=.seq #[x,y] }) (Ä _ hz₃) ?_ ?_ ?_ ?_ ?_
 ·exact (h1₂.extBut hs₃.extBut D.i12).at fun o e=>Ä _ e
 ·exact h2₃.at fun o e=>Ä _ e
 ·rw [<- hsz];exact Ú _ rfl
 ·rw [ŵ,hsz]
 ·exact fun c o c1 c2 c3 e=>Ä _ (hk₃ c o c1 c2 c3 e)
theorem ph {z TI TO T i1 i2 l1 l2:Addr} {b:Bool} {k1 k2:Nat} {xs ys:Array Value} {Q:Fin->Shared->Prop} (hh:A.handled=none) (D:ZipApart z TI TO i1 i2 l1 l2)
  (hz:IsZ s.heap z TI TO (rawInt T) b) (hT:∃ o,s.heap.get? T=some o) (hTI:IsPair s.heap TI (.ref i1) (.ref i2))
  (h1:s.heap.IsListIter i1 l1 k1) (h2:s.heap.IsListIter i2 l2 k2) (hl1:s.heap.IsList l1 xs) (hl2:s.heap.IsList l2 ys) (hend:xs[k1]? = none\/ys[k2]? = none)
  (hE:∀ h' e,↥30->(∃ o,h'.get? e=some o/\o.cls=.type "StopIteration")->E (.ref e) { s with heap:=h' }) :
  wpAny ↥3 A (Builtin.«zip.__next__» ⟨[.ref z],[]⟩) Q E s:=by
 show wpAny _ _ (field (.ref z) 2 >>= _) _ _ _
 refine wpAny_bind (wpAny_field hz rfl (x:=.bool false) rfl ?_)
 show wpAny _ _ (field (.ref z) 3 >>= _) _ _ _
 refine wpAny_bind (wpAny_field hz rfl (x:=.ref TI) rfl ?_)
 refine wpAny_bind (wpAny_seqItems hTI rfl ?_)
 show wpAny _ _ (Ķ (.ref z) >>= _) _ _ _
 refine wpAny_bind (yF hz hT fun h₁ hz₁ hs₁ => ?_)
 simp only [Ô,if_false]
 refine wpAny_bind ?_
 simp only [Ãc.symm,Àg,Éa]
 refine wpAny_bind (wpAny_bind (wpAny_holding ?_))
 show wpAny _ _ (ļ (.ref i1) >>= _) _ _ _
 cases hx:xs[k1]? with
 | none =>
  refine wpAny_bind (wpAny_nextOf_list_end hh (h1.extBut hs₁.extBut D.i1z) (hl1.extBut hs₁.extBut D.l1z) hx fun h₂ e hs₂ he => ?_)
  exact hE h₂ e (fun c o c1 c3 _ x=>hs₂ _ _ c3 (hs₁.extBut _ _ c1 x)) he
 | some x =>
  have hy:ys[k2]? = none:=by rcases hend with h | h;rw [hx] at h;cases h;exact h
  refine wpAny_bind (wpAny_nextOf_list_item (h1.extBut hs₁.extBut D.i1z) (hl1.extBut hs₁.extBut D.l1z) hx fun h₂ h1₂ hs₂=>wpAny_pure ?_)
  refine wpAny_pure ?_
  refine wpAny_bind (wpAny_bind (wpAny_holding ?_))
  show wpAny _ _ (ļ (.ref i2) >>= _) _ _ _
  refine wpAny_bind (wpAny_nextOf_list_end hh ((h2.extBut hs₁.extBut D.i2z).extBut hs₂.extBut D.i12.symm) ((hl2.extBut hs₁.extBut D.l2z).extBut hs₂.extBut D.l2i1) hy fun h₃ e hs₃ he => ?_)
  exact hE h₃ e (fun c o c1 c3 c4 x=>hs₃ _ _ c4 (hs₂.extBut _ _ c3 (hs₁.extBut _ _ c1 x))) he
theorem xV {z TI TO T i1 i2 l1 l2:Addr} {b:Bool} {k1 k2:Nat} {xs ys:Array Value} {x y:Value} {Q:Option Value->Shared->Prop} (D:ZipApart z TI TO i1 i2 l1 l2)
  (hz:IsZ s.heap z TI TO (rawInt T) b) (hT:∃ o,s.heap.get? T=some o) (hTI:IsPair s.heap TI (.ref i1) (.ref i2))
  (h1:s.heap.IsListIter i1 l1 k1) (h2:s.heap.IsListIter i2 l2 k2) (hl1:s.heap.IsList l1 xs) (hl2:s.heap.IsList l2 ys) (hx:xs[k1]? = some x) (hy:ys[k2]? = some y)
  (hQ:∀ h',IsZ h' z TI TO (rawInt T) true->h'.IsListIter i1 l1 (k1+1)->h'.IsListIter i2 l2 (k2+1)->IsPair h' s.heap.objs.size x y->h'.objs.size=s.heap.objs.size+1 ->
   ↥30->Q (some ↥57) { s with heap:=h' }) :
  wpAny ↥3 A (pyNext (.ref z)) Q E s:=by
 have hty:s.TypeIs (.ref z) "zip":=⟨_,hz,rfl⟩
 unfold pyNext
 exact wpAny_bind (wpAny_attempt (wpAny_callSpecial?_slot (name:=Ø "__next__") hty Àh
  (wpAny_call_entry Àh hty F.entry_zip_next
   (nD D hz hT hTI h1 h2 hl1 hl2 hx hy fun h' a1 a2 a3 a4 a5 a6=>wpAny_pure (hQ h' a1 a2 a3 a4 a5 a6)) (F.args_zip_next_1 _))))
theorem next_end {z TI TO T i1 i2 l1 l2:Addr} {b:Bool} {k1 k2:Nat} {xs ys:Array Value} {Q:Option Value->Shared->Prop} (hh:A.handled=none) (D:ZipApart z TI TO i1 i2 l1 l2)
  (hz:IsZ s.heap z TI TO (rawInt T) b) (hT:∃ o,s.heap.get? T=some o) (hTI:IsPair s.heap TI (.ref i1) (.ref i2))
  (h1:s.heap.IsListIter i1 l1 k1) (h2:s.heap.IsListIter i2 l2 k2) (hl1:s.heap.IsList l1 xs) (hl2:s.heap.IsList l2 ys) (hend:xs[k1]? = none\/ys[k2]? = none)
  (hQ:∀ h',↥30->Q none { s with heap:=h' }):wpAny ↥3 A (pyNext (.ref z)) Q E s:=by
 have hty:s.TypeIs (.ref z) "zip":=⟨_,hz,rfl⟩
 unfold pyNext
 refine wpAny_bind (wpAny_attempt (wpAny_callSpecial?_slot (name:=Ø "__next__") hty Àh
  (wpAny_call_entry Àh hty F.entry_zip_next (ph hh D hz hT hTI h1 h2 hl1 hl2 hend fun h' e hk he => ?_) (F.args_zip_next_1 _))))
 obtain ⟨o,ho,hc⟩:=he
 refine wpAny_bind (wpAny_isInstance (T:="StopIteration") (b:=true) ⟨o,ho,hc⟩ isSubtype_stop ?_)
 exact wpAny_pure (hQ _ hk)
end
structure Zs (h:Heap) (z TI TO i1 i2 l1 l2 S N0:Addr) (xs ys:Array Value) (i:Nat) (acc:Array Value):Prop where
 zf:(IsZip h z TI TO .none/\∃ a b,IsPair h TO a b)\/∃ (T:Addr) (b:Bool),IsZ h z TI TO (rawInt T) b/\(∃ o,h.get? T=some o)/\N0<=T
 ti:IsPair h TI (.ref i1) (.ref i2)
 h1:h.IsListIter i1 l1 i
 h2:h.IsListIter i2 l2 i
 hl1:h.IsList l1 xs
 hl2:h.IsList l2 ys
 sz:N0<=h.objs.size
 al:acc.size=i
 ac:∀ (j:Nat) (v:Value),acc[j]? = some v->∃ (a:Addr) (x y:Value),v=â a/\xs[j]? = some x/\ys[j]? = some y/\IsPair h a x y/\N0<=a
 inj:∀ (j j':Nat) (a:Addr),acc[j]? = some (â a)->acc[j']? = some (â a)->j=j'
def Zo (h':Heap) (N0:Addr) (xs ys acc':Array Value):Prop:=acc'.size=min xs.size ys.size /\
 (∀ (j:Nat) (v:Value),acc'[j]? = some v->∃ (a:Addr) (x y:Value),v=â a/\xs[j]? = some x/\ys[j]? = some y/\IsPair h' a x y/\N0<=a) /\
 ∀ (j j':Nat) (a:Addr),acc'[j]? = some (â a)->acc'[j']? = some (â a)->j=j'
structure Zap (z TI TO i1 i2 l1 l2 S N0:Addr):Prop where
 D:ZipApart z TI TO i1 i2 l1 l2
 zN:z<N0
 TIN:TI<N0
 TON:TO<N0
 i1N:i1<N0
 i2N:i2<N0
 SN:S<N0
 Sz:S≠z
 STI:S≠TI
 STO:S≠TO
 Si1:S≠i1
 Si2:S≠i2
 Sl1:S≠l1
 Sl2:S≠l2
def Kp (z TO i1 i2 S:Addr) (h h':Heap):Prop:=∀ c o,c≠z->c≠TO->c≠i1->c≠i2->c≠S->h.get? c=some o->h'.get? c=some o
section
variable {prog:Program} {w:World} {A:Around} {R:Result->Shared->Prop} {z TI TO i1 i2 l1 l2 S N0:Addr} {xs ys:Array Value}
theorem Zs.put {h:Heap} {i:Nat} {acc:Array Value} {c:Nat} {v:Value} (Z:Zap z TI TO i1 i2 l1 l2 S N0) (H:Zs h z TI TO i1 i2 l1 l2 S N0 xs ys i acc) (f:Obj->Obj):∀ acc':Array Value,acc'.size=acc.size->(∀ (j:Nat) (v:Value),acc'[j]? = some v->acc[j]? = some v)->Zs (h.update S f) z TI TO i1 i2 l1 l2 S N0 xs ys i acc':=by
 intro acc' e1 e2
 have up:∀ b o,S≠b->h.get? b=some o->(h.update S f).get? b=some o:=fun b o hb e=>(ç _ _ hb).trans e
 obtain ⟨zf,ti,g1,g2,hl1,hl2,sz,al,ac,inj⟩:=H
 refine ⟨?_,up _ _ Z.STI ti,g1.at fun o e=>up _ o Z.Si1 e,g2.at fun o e=>up _ o Z.Si2 e,hl1.at fun o e=>up _ o Z.Sl1 e,hl2.at fun o e=>up _ o Z.Sl2 e,by rw [Heap.size_update];exact sz,by rw [e1,al],fun j v hj => ?_,fun j j' a q1 q2=>inj j j' a (e2 _ _ q1) (e2 _ _ q2)⟩
 ·rcases zf with ⟨a,x,y,b⟩ | ⟨T,b,a,⟨o,ho⟩,n⟩
  ·exact .inl ⟨up _ _ Z.Sz a,x,y,up _ _ Z.STO b⟩
  ·exact .inr ⟨T,b,up _ _ Z.Sz a,⟨o,up _ _ (æ (è Z.SN n)) ho⟩,n⟩
 ·obtain ⟨a,x,y,h1,h2,h3,h4,h5⟩:=ac j v (e2 j v hj)
  exact ⟨a,x,y,h1,h2,h3,up _ _ (æ (è Z.SN h5)) h4,h5⟩
theorem Zs.next {s:Shared} {i:Nat} {acc:Array Value} {E:Value->Shared->Prop} {Q:Option Value->Shared->Prop} (Z:Zap z TI TO i1 i2 l1 l2 S N0) (H:Zs s.heap z TI TO i1 i2 l1 l2 S N0 xs ys i acc) (hi:i<min xs.size ys.size)
  (hQ:∀ h' a,Zs h' z TI TO i1 i2 l1 l2 S N0 xs ys (i+1) (acc.push ↥114)->Kp z TO i1 i2 S s.heap h'->(∀ o,s.heap.get? S=some o->h'.get? S=some o)->Q (some ↥114) { s with heap:=h' }) :
  wpAny ↥3 A (pyNext (.ref z)) Q E s:=by
 obtain ⟨zf,ti,g1,g2,hl1,hl2,sz,al,ac,inj⟩:=H
 have D:=Z.D
 have hix:i<xs.size:=è hi (Nat.min_le_left ..)
 have hiy:i<ys.size:=è hi (Nat.min_le_right ..)
 have fin:∀ h',(∀ c o,c≠z->c≠TO->c≠i1->c≠i2->s.heap.get? c=some o->h'.get? c=some o)->h'.objs.size=s.heap.objs.size+1->IsPair h' s.heap.objs.size xs[i] ys[i]->h'.IsListIter i1 l1 (i+1)->h'.IsListIter i2 l2 (i+1) ->
   (∃ (T:Addr) (b:Bool),IsZ h' z TI TO (rawInt T) b/\(∃ o,h'.get? T=some o)/\N0<=T)->Q (some ↥57) { s with heap:=h' }:=fun h' hk hsz hp a1 a2 a3=>by
  refine hQ h' s.heap.objs.size ⟨.inr a3,hk _ _ D.TIz D.TITO D.TIi1 D.TIi2 ti,a1,a2,hl1.at fun o e=>hk _ o D.l1z D.l1TO D.l1i1 D.l1i2 e,hl2.at fun o e=>hk _ o D.l2z D.l2TO D.l2i1 D.l2i2 e,by rw [hsz];exact Nat.le_succ_of_le sz,by rw [Ď,al],fun j v hj => ?_,fun j j' a q1 q2 => ?_⟩ (fun c o c1 c2 c3 c4 _ e=>hk c o c1 c2 c3 c4 e) fun o e=>hk _ o Z.Sz Z.STO Z.Si1 Z.Si2 e
  ·rw [Êb] at hj
   split at hj
   ·rename_i e
    rw [al] at e
    subst e
    cases hj
    exact ⟨_,_,_,rfl,ë hix,ë hiy,hp,sz⟩
   ·obtain ⟨a,x,y,h1,h2,h3,h4,h5⟩:=ac j v hj
    have lt:∀ b,b<N0->a≠b:=fun b hb e=>absurd (e▸h5) (Æc hb)
    exact ⟨a,x,y,h1,h2,h3,hk _ _ (lt z Z.zN) (lt TO Z.TON) (lt i1 Z.i1N) (lt i2 Z.i2N) h4,h5⟩
  ·have old:∀ j a,acc[j]? = some (â a)->a≠s.heap.objs.size:=fun j a q=>by
    obtain ⟨a',x,y,h1,_,_,h4,_⟩:=ac j _ q
    cases h1
    exact æ (à h4)
   rw [Êb] at q1 q2
   split at q1
   ·rename_i e1
    split at q2
    ·rename_i e2
     rw [e1,e2]
    ·cases q1
     exact absurd rfl (old _ _ q2)
   ·split at q2
    ·cases q2
     exact absurd rfl (old _ _ q1)
    ·exact inj j j' a q1 q2
 rcases zf with ⟨hz,a,b,hTO⟩ | ⟨T,b,hz,hT,hN⟩
 ·refine wpAny_pyNext_zip_item D hz ti hTO g1 g2 hl1 hl2 (ë hix) (ë hiy) fun h' a1 a2 a3 a4 a5 a6 hk => ?_
  exact fin h' hk a6 a5 a3 a4 ⟨_,false,a1,⟨_,a5⟩,sz⟩
 ·refine xV D hz hT ti g1 g2 hl1 hl2 (ë hix) (ë hiy) fun h' a1 a3 a4 a5 a6 hk => ?_
  obtain ⟨o,ho⟩:=hT
  have lt:∀ b,b<N0->T≠b:=fun b hb e=>absurd (e▸hN) (Æc hb)
  exact fin h' (fun c o c1 _ c3 c4 e=>hk c o c1 c3 c4 e) a6 a5 a3 a4 ⟨T,true,a1,⟨o,hk _ _ (lt z Z.zN) (lt i1 Z.i1N) (lt i2 Z.i2N) ho⟩,hN⟩
theorem Zs.stop {s:Shared} {i:Nat} {acc:Array Value} {E:Value->Shared->Prop} {Q:Option Value->Shared->Prop} (hh:A.handled=none) (Z:Zap z TI TO i1 i2 l1 l2 S N0) (H:Zs s.heap z TI TO i1 i2 l1 l2 S N0 xs ys i acc) (hi:min xs.size ys.size<=i)
  (hQ:∀ h',(∀ c o,c≠z->c≠TO->c≠i1->c≠i2->s.heap.get? c=some o->h'.get? c=some o)->Q none { s with heap:=h' }):wpAny ↥3 A (pyNext (.ref z)) Q E s:=by
 obtain ⟨zf,ti,g1,g2,hl1,hl2,sz,al,ac,inj⟩:=H
 have hend:xs[i]? = none\/ys[i]? = none:=by
  by_cases g:xs.size<=i
  ·exact .inl (by simp [g])
  ·exact .inr (by have:ys.size<=i:=⋯
                  simp [this])
 rcases zf with ⟨hz,a,b,hTO⟩ | ⟨T,b,hz,hT,hN⟩
 ·exact wpAny_pyNext_zip_end hh Z.D hz ti hTO g1 g2 hl1 hl2 hend hQ
 ·exact next_end hh Z.D hz hT ti g1 g2 hl1 hl2 hend fun h' hk=>hQ h' fun c o c1 _ c3 c4 e=>hk c o c1 c3 c4 e
theorem zG (hh:A.in1.handled=none) (hn:min xs.size ys.size<=sizeLine) (Z:Zap z TI TO i1 i2 l1 l2 S N0) (res:Value) :
  ∀ (k i:Nat) (s:Shared) (acc:Array Value) (c:Nat),min xs.size ys.size - i=k->i<=min xs.size ys.size->Zs s.heap z TI TO i1 i2 l1 l2 S N0 xs ys i acc->s.heap.get? S=some { cls:=.type "list",dict:=none,data:=.seq acc c,slots := #[] } ->
  (∀ h' acc' c',Kp z TO i1 i2 S s.heap h'->h'.get? S=some { cls:=.type "list",dict:=none,data:=.seq acc' c',slots := #[] }->Zo h' N0 xs ys acc'->R (.ok (.ret res)) { s with heap:=h' }) ->
  codeAny ↥3 A (.builtin "list.extend.loop" ⟨[.ref S,.ref z,res],[]⟩) R s:=by
 intro k
 induction k with
 | zero =>
  intro i s acc c hk hi H hS hR
  have hin:i=min xs.size ys.size:=⋯
  refine codeAny_builtin Êc ?_
  rw [Ė ō _]
  show wpAny _ A.in1 (pyNext (.ref z) >>= _) _ _ s
  refine wpAny_bind (H.stop hh Z ⋯ fun h' kp=>wpAny_pure ?_)
  refine hR h' acc c (fun c o c1 c2 c3 c4 _ e=>kp c o c1 c2 c3 c4 e) (kp _ _ Z.Sz Z.STO Z.Si1 Z.Si2 hS) ⟨by rw [H.al,hin],fun j v hj => ?_,H.inj⟩
  obtain ⟨a,x,y,g1,g2,g3,g4,g5⟩:=H.ac j v hj
  have lt:∀ b,b<N0->a≠b:=fun b hb e=>absurd (e▸g5) (Æc hb)
  exact ⟨a,x,y,g1,g2,g3,kp _ _ (lt z Z.zN) (lt TO Z.TON) (lt i1 Z.i1N) (lt i2 Z.i2N) g4,g5⟩
 | succ k ih =>
  intro i s acc c hk hi H hS hR
  have hlt:i<min xs.size ys.size:=⋯
  refine codeAny_builtin Êc ?_
  rw [Ė ō _]
  show wpAny _ A.in1 (pyNext (.ref z) >>= _) _ _ s
  refine wpAny_bind (H.next Z hlt fun h' a H' kp kS => ?_)
  have hS':=kS _ hS
  show wpAny _ A.in1 (updateSeq S (·.push ↥114) >>= _) _ _ _
  refine wpAny_bind ?_
  have ha:=H.al
  refine wpAny_updateSeq hS' rfl (wpAny_pure ⟨plainId_quiet ō _,ih (i+1) _ (acc.push ↥114) _ ⋯ ⋯ (H'.put (c:=c) (v:=.none) Z _ _ rfl fun j v e=>e) (Č _ hS' rfl) fun h'' acc' c' kp' hS'' e1 => ?_⟩)
   (by rw [ha];omega) (by show (acc.push _).size<=sizeLine+1;rw [Ď,ha];omega)
  refine hR h'' acc' c' (fun c o c1 c2 c3 c4 c5 e=>kp' c o c1 c2 c3 c4 c5 ((ç _ _ (ė c5)).trans (kp c o c1 c2 c3 c4 c5 e))) hS'' e1
theorem uP:typeLookup (.type "zip") "__len__"=pure none:=by rw [typeLookup_type,builtinLookup_eq_fast];kernel_rfl
theorem qQ:typeLookup (.type "zip") "__length_hint__"=pure none:=by rw [typeLookup_type,builtinLookup_eq_fast];kernel_rfl
theorem Zs.ty {s:Shared} {i:Nat} {acc:Array Value} (H:Zs s.heap z TI TO i1 i2 l1 l2 S N0 xs ys i acc):s.TypeIs (.ref z) "zip":=by
 rcases H.zf with ⟨hz,_⟩ | ⟨T,b,hz,_⟩
 ·exact ⟨_,hz,rfl⟩
 ·exact ⟨_,hz,rfl⟩
theorem vH {s:Shared} {c₀:Nat} (hh:A.in1.handled=none) (hn:min xs.size ys.size<=sizeLine) (Z:Zap z TI TO i1 i2 l1 l2 S N0) (res:Value) (hz:IsZip s.heap z TI TO .none) (H:Zs s.heap z TI TO i1 i2 l1 l2 S N0 xs ys 0 #[])
  (hS:s.heap.get? S=some { cls:=.type "list",data:=.seq #[] c₀ })
  (hR:∀ h' acc' c',Kp z TO i1 i2 S s.heap h'->h'.get? S=some { cls:=.type "list",dict:=none,data:=.seq acc' c',slots := #[] }->Zo h' N0 xs ys acc'->R (.ok (.ret res)) { s with heap:=h' }) :
  wpAny ↥3 A.in1 (ă (.ref S) (.ref z) res)
   ↥38 (fun e s'=>R (.error e) s') s:=by
 unfold Builtin.List.listExtendWith
 refine wpAny_bind (wpAny_typeOf H.ty ?_)
 have h1:Builtin.List.listSameRef (.ref S) (.ref z)=false:=by simp [Åe,Z.Sz]
 have h2:(Ň "zip" == Ň "list")=false:=by decide
 have h3:(Ň "zip" == Ň "tuple")=false:=by decide
 simp only [h1,h2,h3,Åc,Ô,if_false]
 refine wpAny_bind (wpAny_pyIter_zip hz ?_)
 refine wpAny_bind (wpAny_holding ?_)
 unfold Builtin.List.listLengthHint
 refine wpAny_bind (wpAny_specialOf H.ty uP ?_)
 show wpAny _ A.in1 (specialOf (â z) (Ø "__length_hint__") >>= _) _ _ _
 refine wpAny_bind (wpAny_specialOf H.ty qQ ?_)
 refine wpAny_pure ?_
 show wpAny _ A.in1 (rule "list.extend.makes-room" >>= fun _=>Builtin.List.listTouch (.ref S) >>= fun _ =>
  again (.builtin "list.extend.loop" ⟨[.ref S,.ref z,res],[]⟩)) _ _ _
 refine wpAny_bind (wpAny_rule ?_)
 refine wpAny_bind ?_
 show wpAny _ A.in1 (updateSeq S (·.push .none) >>= fun _=>updateSeq S (·.pop)) _ _ _
 refine wpAny_bind (wpAny_updateSeq hS rfl ?_)
 have hS₂:=Č (ę (·.push Ŝ)) hS rfl
 refine wpAny_updateSeq (hz:=by seq_fits) hS₂ rfl ?_
 have hS₃:=Č (ę (·.pop)) hS₂ rfl
 have oth:∀ b o,b≠S->s.heap.get? b=some o->((s.heap.update S (ę (·.push Ŝ))).update S (ę (·.pop))).get? b=some o :=
  fun b o hb e=>(ç _ _ (ė hb)).trans ((ç _ _ (ė hb)).trans e)
 have H1:=Zs.put (c:=0) (v:=.none) Z H (ę (·.push Ŝ)) #[] rfl fun j v e=>e
 have H2:=Zs.put (c:=0) (v:=.none) Z H1 (ę (·.pop)) #[] rfl fun j v e=>e
 refine wpAny_pure ⟨plainId_quiet ō _,zG hh hn Z _ (min xs.size ys.size) 0 _ #[] _ rfl (Ā _) H2 hS₃ fun h' acc' c' kp hS' e1 => ?_⟩
 exact hR h' acc' c' (fun c o c1 c2 c3 c4 c5 e=>kp c o c1 c2 c3 c4 c5 (oth c o c5 e)) hS' e1
theorem Bz {s:Shared} (hh:A.in1.handled=none) (hn:min xs.size ys.size<=sizeLine) (Z:Zap z TI TO i1 i2 l1 l2 S N0) (hz:IsZip s.heap z TI TO .none) (H:Zs s.heap z TI TO i1 i2 l1 l2 S N0 xs ys 0 #[])
  (hS:s.heap.get? S=some { cls:=.type "list",data:=.seq #[] })
  (hR:∀ h' acc' c',Kp z TO i1 i2 S s.heap h'->h'.get? S=some { cls:=.type "list",dict:=none,data:=.seq acc' c',slots := #[] }->Zo h' N0 xs ys acc'->R (.ok (.ret .none)) { s with heap:=h' }) :
  wpAny ↥3 A.in1 (Builtin.«list.__init__» ⟨[.ref S,.ref z],[]⟩)
   ↥38 (fun e s'=>R (.error e) s') s:=by
 show wpAny _ A.in1 (do let old<-ĳ (.ref S);ó (.ref S) (fun _ => #[]);letGo old.toList.reverse;ă (.ref S) (.ref z) .none) _ _ s
 refine wpAny_bind ?_
 unfold Builtin.List.listItems
 refine wpAny_bind (wpAny_seqItems hS rfl (wpAny_pure ?_))
 show wpAny _ A.in1 (updateSeq S (fun _ => #[]) >>= fun _=>letGo (#[]:Array Value).toList.reverse >>= fun _=>ă (.ref S) (.ref z) .none) _ _ s
 refine wpAny_bind (wpAny_updateSeq hS rfl ?_)
 have hS₂:=Č ↥85 hS rfl
 have oth:∀ b o,b≠S->s.heap.get? b=some o->(s.heap.update S ↥85).get? b=some o :=
  fun b o hb e=>(ç _ _ (ė hb)).trans e
 refine wpAny_bind (wpAny_letGo ?_)
 have H1:=Zs.put (c:=0) (v:=.none) Z H ↥85 #[] rfl fun j v e=>e
 refine vH hh hn Z .none (oth _ _ (ė Z.Sz) hz) H1 hS₂ fun h' acc' c' kp hS' e1 => ?_
 exact hR h' acc' c' (fun c o c1 c2 c3 c4 c5 e=>kp c o c1 c2 c3 c4 c5 (oth c o c5 e)) hS' e1
end
theorem GU {N l1 l2:Nat} (h1:l1<N) (h2:l2<N):Zap (N+4) (N+2) (N+3) N (N+1) l1 l2 (N+5) (N+6):=by
 refine ⟨⟨?_,?_,?_,?_,?_,?_,?_,?_,?_,?_,?_,?_,?_,?_,?_,?_,?_,?_⟩,?_,?_,?_,?_,?_,?_,?_,?_,?_,?_,?_,?_,?_⟩<;>first | exact Nat.add_lt_add_left ↥1 N | exact Nat.lt_add_of_pos_right ↥1 | exact Ág ⋯ | exact æ ⋯
section
variable {prog:Program} {w:World} {A:Around} {E:Value->Shared->Prop} {s:Shared} {xs ys:Array Value}
theorem Br {l1 l2:Addr} {Q:Value->Shared->Prop} (hh:A.handled=none) (hn:min xs.size ys.size<=sizeLine) (hl1:s.heap.IsList l1 xs) (hl2:s.heap.IsList l2 ys)
  (hQ:∀ h' (S:Addr) acc' c',s.heap.objs.size<=S->(∀ c o,s.heap.get? c=some o->h'.get? c=some o)->h'.get? S=some { cls:=.type "list",dict:=none,data:=.seq acc' c',slots := #[] }->acc'.size=min xs.size ys.size ->
   (∀ (j:Nat) (v:Value),acc'[j]? = some v->∃ (a:Addr) (x y:Value),v=â a/\xs[j]? = some x/\ys[j]? = some y/\IsPair h' a x y/\s.heap.objs.size<=a/\a≠S)->(∀ (j j':Nat) (a:Addr),acc'[j]? = some (â a)->acc'[j']? = some (â a)->j=j')->Q (.ref S) { s with heap:=h' }) :
  wpAny ↥3 A (call (.type "zip") [.ref l1,.ref l2]) (fun v s1=>wpAny ↥3 A (call (.type "list") [v]) Q E s1) E s:=by
 refine call_zip_2 hl1 hl2 fun h' hz hTI hTO g1 g2 hsz kp => ?_
 have lt1:l1<s.heap.objs.size:=by obtain ⟨_,e,_⟩:=hl1;exact à e
 have lt2:l2<s.heap.objs.size:=by obtain ⟨_,e,_⟩:=hl2;exact à e
 generalize hN:s.heap.objs.size=N at *
 refine callType_codes (Q₁:=fun obj s₁=>obj=.ref h'.objs.size/\s₁={ s with heap:=h'.push { cls:=.type "list",data:=.seq #[] } }) F.called_list (F.typeCall_list_1 _) F.entry_list_init
  (code_list_new _ ⟨rfl,rfl⟩) fun obj s₁ h₁ => ?_
 obtain ⟨rfl,rfl⟩:=h₁
 have hS:(h'.push { cls:=.type "list",data:=.seq #[] }).get? h'.objs.size=some { cls:=.type "list",data:=.seq #[] }:=Ú _ rfl
 have up:∀ c o,h'.get? c=some o->(h'.push { cls:=.type "list",data:=.seq #[] }).get? c=some o:=fun c o e=>Ä _ e
 have Z:=GU lt1 lt2
 have hN6:(h'.push { cls:=.type "list",data:=.seq #[] }).objs.size=N+6:=by rw [ŵ,hsz]
 rw [hsz] at hS ⊢
 have H:Zs (h'.push { cls:=.type "list",data:=.seq #[] }) (N+4) (N+2) (N+3) N (N+1) l1 l2 (N+5) (N+6) xs ys 0 #[] :=
  ⟨.inl ⟨up _ _ hz,_,_,up _ _ hTO⟩,up _ _ hTI,g1.at fun o e=>up _ o e,g2.at fun o e=>up _ o e,hl1.at fun o e=>up _ o (kp _ _ e),hl2.at fun o e=>up _ o (kp _ _ e),Ń hN6.symm,rfl,(fun j v hj=>by simp at hj),fun j j' a hj=>by simp at hj⟩
 refine ⟨⟨_,hS,rfl⟩,F.args_list_init_2 _ _,Bz (R:=wants (fun r s₂=>r=.none/\Q (.ref (N+5)) s₂) E) (by exact hh) hn Z (up _ _ hz) H hS fun h'' acc' c' kk hS' e1 => ?_⟩
 refine ⟨rfl,hQ h'' (N+5) acc' c' (Nat.le_add_right _ _) (fun c o e => ?_) hS' e1.1 (fun j v hj => ?_) e1.2.2⟩
 ·have hc:c<N:=by rw [<- hN];exact à e
  exact kk c o ↥68 ↥68 (æ hc) ↥68 ↥68 (up _ _ (kp _ _ e))
 ·obtain ⟨a,x,y,q1,q2,q3,q4,q5⟩:=e1.2.1 j v hj
  exact ⟨a,x,y,q1,q2,q3,q4,Ð (Nat.le_add_right _ _) q5,Ág (è (Ż _) q5)⟩
end
section
variable {X:Cx} {pins:List ↥6} {σ:L2.St} {H H':Hp} {s:Shared}
theorem By {h':Heap} {t':Nat} (I:Inv X pins σ H s) (k:∀ b u,s.heap.get? b=some u->h'.get? b=some u) (e:∀ b,b<s.heap.objs.size->H' b=H b)
  (new:∀ a o,s.heap.objs.size<=a->H' a=some o->gI X.prog X.w H' h' a o):Inv X pins σ H' { s with heap:=h',toks:=t' }:=by
 have up:∀ b o,H b=some o->H' b=some o:=fun b o q=>by rw [e b (I.hok.lt q)];exact q
 refine I.un ⟨fun b u q _ _ _=>k b u q,fun b u q _ _ _=>⟨u.slots,k b u q⟩,fun b u q n _=>by rw [e b (à q)];exact n,fun b u q _=>⟨u,k b u q⟩,fun b xs q=>up _ _ q,fun b u xs q=>up _ _ q,fun b ps q=>⟨#[],by rw [up _ _ q];simp⟩⟩ ?_
 intro a o q
 by_cases g:a<s.heap.objs.size
 ·rw [e a g] at q
  exact (I.hok a o q).stay (fun c v _ q=>k c v q) (fun c q=>up _ _ q) fun c xs q=>up _ _ q
 ·exact new a o (Nat.le_of_not_lt g) q
theorem pX {α β:Type} {R:α->β->Prop}:∀ {xs:List α} {ys:List β},xs.length=ys.length->(∀ (j:Nat) x y,xs[j]? = some x->ys[j]? = some y->R x y)->Paired R xs ys
 | [],[],_,_=>.nil
 | x::xs,y::ys,hl,h=>.cons (h 0 x y rfl rfl) (pX (by simpa using hl) fun j a b q1 q2=>h (j+1) a b q1 q2)
def adr (acc:Array Value) (j:Nat):Addr:=match acc[j]? with | some ↥114=>a | _=>0
open Classical in
def zH (H:Hp) (N S n:Nat) (acc:Array Value) (xs ys:List V):Hp:=fun b=>if b<N then H b else if b=S then some (.lst ((č n).map fun j=>V.ref (adr acc j))) else
 if h:∃ j,j<n/\acc[j]? = some (â b) then some (.tup [xs.getD h.choose .non,ys.getD h.choose .non]) else none
def sV (H:Hp) (zs xs ys:List V):Prop:=zs.length=min xs.length ys.length/\∀ (j:Nat) (v:V),zs[j]? = some v->∃ a x y,v=.ref a/\xs[j]? = some x/\ys[j]? = some y/\H a=some (.tup [x,y])
theorem qt {l1 l2:Addr} {xs ys:List V} {Q:VK} (hc:X.calm=true) (I:Inv X pins σ H s) (h1:SqL X.K H l1 xs) (h2:SqL X.K H l2 ys) (hl:xs.length<=100000) (hl2:ys.length<=100000)
  (q:∀ H' S zs,aq H H'->H S=none->H' S=some (.lst zs)->sV H' zs xs ys->Q (.ref S) H') :
  wpAny ↥4 X.A (call (.type "zip") [.ref l1,.ref l2]) (fun v s1=>wpAny ↥4 X.A (call (.type "list") [v]) ↥70 X.xe s1) X.xe s:=by
 obtain ⟨it1,r1,p1,z1⟩:=I.list h1
 obtain ⟨it2,r2,p2,z2⟩:=I.list h2
 have n1:=r1.length
 have n2:=r2.length
 refine Br (I.ok.hd hc) (by simp only [Ì];have:sizeLine=16777216:=rfl;omega) p1.isList p2.isList fun h' S acc c' hS kp gS sz ac inj => ?_
 simp only [Ì] at sz
 have ad:∀ j,j<min it1.length it2.length->∃ (a:Addr) (x y:V),acc[j]? = some (â a)/\xs[j]? = some x/\ys[j]? = some y/\(∃ u v,RelV x u/\RelV y v/\IsPair h' a u v)/\s.heap.objs.size<=a/\a≠S:=fun j hj=>by
  have hj':j<acc.size:=by rw [sz];exact hj
  obtain ⟨a,u,v,e1,e2,e3,e4,e5,e6⟩:=ac j acc[j] (ë hj')
  have j1:j<xs.length:=⋯
  have j2:j<ys.length:=⋯
  obtain ⟨u',hu,ru⟩:=r1.get (Â j1)
  obtain ⟨v',hv,rv⟩:=r2.get (Â j2)
  rw [ŕ] at e2 e3
  rw [hu] at e2
  rw [hv] at e3
  cases e2
  cases e3
  exact ⟨a,_,_,by rw [ë hj',e1],Â j1,Â j2,⟨_,_,ru,rv,e4⟩,e5,e6⟩
 have hn:min it1.length it2.length=min xs.length ys.length:=by rw [n1,n2]
 generalize hN:min it1.length it2.length=n at *
 have adr_is:∀ {j a},acc[j]? = some (â a)->adr acc j=a:=fun {j a} e=>by unfold adr;rw [e]
 have tup:∀ (j:Nat) (a:Addr) (x y:V),j<n->acc[j]? = some (â a)->xs[j]? = some x->ys[j]? = some y->s.heap.objs.size<=a->a≠S->zH H s.heap.objs.size S n acc xs ys a=some (.tup [x,y]):=fun j a x y hj e ex ey ha hs=>by
  have h:∃ j,j<n/\acc[j]? = some (â a):=⟨j,hj,e⟩
  have hj2:h.choose=j:=inj _ _ a h.choose_spec.2 e
  unfold zH
  rw [if_neg (Æd ha),if_neg hs,dif_pos h,hj2,Î,Î,ex,ey]
  rfl
 have sat:zH H s.heap.objs.size S n acc xs ys S=some (.lst ((č n).map fun j=>V.ref (adr acc j))):=by
  unfold zH
  rw [if_neg (Æd hS),if_pos rfl]
 have lo:∀ b,b<s.heap.objs.size->zH H s.heap.objs.size S n acc xs ys b=H b:=fun b hb=>by
  unfold zH
  rw [if_pos hb]
 have same:aq H (zH H s.heap.objs.size S n acc xs ys):=fun b o e=>by rw [lo b (I.hok.lt e)];exact e
 refine ⟨.ref S,zH H s.heap.objs.size S n acc xs ys,By (t':=s.toks) I kp lo fun a o ha e => ?_,rfl,q _ S _ same (I.hok.fresh hS) sat ⟨by simp [hn],fun j v hv => ?_⟩⟩
 ·by_cases g:a=S
  ·subst g
   rw [sat] at e
   cases e
   refine ⟨by rw [Á,Äh];have:sizeLine=16777216:=rfl;omega,acc.toList,c',pX (by simp [sz]) fun j x y e1 e2 => ?_,by simpa using gS⟩
   rw [Ë] at e1
   have hj:j<n:=by
    refine á fun z => ?_
    rw [Ą (by rw [Äh];omega)] at e1
    cases e1
   rw [Áe hj] at e1
   cases e1
   obtain ⟨a',_,_,ea,_⟩:=ad j hj
   rw [ì] at e2
   rw [ea] at e2
   cases e2
   show L2.RelV (V.ref (adr acc j)) (â a')
   rw [adr_is ea]
   rfl
  ·unfold zH at e
   rw [if_neg (Æd ha),if_neg g] at e
   split at e
   ·rename_i h
    obtain ⟨a',x,y,ea,ex,ey,⟨u,v,ru,rv,hp⟩,_,_⟩:=ad h.choose h.choose_spec.1
    have:a'=a:=by have:=h.choose_spec.2;rw [ea] at this;cases this;rfl
    subst this
    rw [Î,Î,ex,ey] at e
    cases e
    exact ⟨by simp only [Ò,List.length_nil];rw [sizeLine_eq];decide,[u,v],.cons ru (.cons rv .nil),⟨_,hp,rfl,0,rfl⟩⟩
   ·cases e
 ·rw [Ë] at hv
  have hj:j<n:=by
   refine á fun z => ?_
   rw [Ą (by rw [Äh];omega)] at hv
   cases hv
  rw [Áe hj] at hv
  cases hv
  obtain ⟨a',x,y,ea,ex,ey,_,ha,hs⟩:=ad j hj
  exact ⟨a',x,y,congrArg V.ref (adr_is ea),ex,ey,tup j a' x y hj ea ex ey ha hs⟩
end
unseal SE ST SW SA SS SSs SI SO
section
variable {X:Cx} {a b:Expr} {ga gb:E} {p p2 pos pos2:Pos}
theorem vi {t:TA} (hc:X.calm=true) (gl:Gl X "list") (ml:X.mg "list"=none) (gz:Gl X "zip") (mz:X.mg "zip"=none) (ha:PA X [a,b] t)
  (hs:starEach [a,b] X.env=↥125::starEach [b] X.env:=by rfl) (hpl:(backTo pos2 (starEach [b] X.env)).any (·.1)=false:=by rfl)
  (hs2:starEach [Éh (.Name "zip" p2) [a,b] [] pos2] X.env=[↥121]:=by rfl) (hpl2:(backTo pos (starEach [] X.env)).any (·.1)=false:=by rfl) :
  PE X (.Call (.Name "list" p) [.Call (.Name "zip" p2) [a,b] [] pos2] [] pos) (fun σ H Q=>t σ H fun vs H1=>∃ l1 l2 xs ys,vs=[.ref l1,.ref l2]/\SqL X.K H1 l1 xs/\SqL X.K H1 l2 ys/\xs.length<=100000/\ys.length<=100000 /\
   ∀ H' S zs,aq H1 H'->H1 S=none->H' S=some (.lst zs)->sV H' zs xs ys->Q (.ref S) H'):=by
 intro pins s σ H Q I h
 refine wpAny_Call_Name_kw (fF I gl ml boot_list ?_ ↥1 ↥1)
 refine Ă ?_ hs2 hpl2
 rw [hs2]
 show wpAny _ _ (spliced (↥121::[])) _ _ s
 refine Âg ?_
 refine wpAny_Call_Name_kw (fF I gz mz boot_zip ?_ ↥1 ↥1)
 refine Ă (thn (ha pos2 pins s σ H _ I h) fun us s1 ⟨vs,H1,I1,r1,q1⟩ => ?_) hs hpl
 obtain ⟨l1,l2,xs,ys,rfl,g1,g2,n1,n2,q⟩:=q1
 obtain ⟨u1,u2,rfl,e1,e2⟩:=vals2 r1
 cases e1
 cases e2
 exact thn (qt hc I1 g1 g2 n1 n2 q) fun v s2 h2=>Äd h2
theorem vj {H H':Hp} {zs xs ys:List V} {ds es:List D} (P:sV H' zs xs ys) (r1:Reps X.K X.mg H' xs ds) (r2:Reps X.K X.mg H' ys es):Reps X.K X.mg H' zs (Ëf (fun x y=>D.tup [x,y]) ds es):=by
 obtain ⟨hl,hp⟩:=P
 have l1:=r1.length
 have l2:=r2.length
 have key:∀ (zs:List V) (fs:List D),zs.length=fs.length->(∀ (j:Nat) v f,zs[j]? = some v->fs[j]? = some f->Rep X.K X.mg H' v f)->Reps X.K X.mg H' zs fs:=by
  intro zs
  induction zs with
  | nil =>
   intro fs h _
   cases fs with
   | nil=>exact .nil
   | cons f fs=>cases h
  | cons v vs ih =>
   intro fs h k
   cases fs with
   | nil=>cases h
   | cons f fs=>exact .cons (k 0 v f rfl rfl) (ih fs (by simpa using h) fun j a b q1 q2=>k (j+1) a b q1 q2)
 refine key _ _ (by rw [List.length_zipWith,hl,l1,l2]) fun j v f e1 e2 => ?_
 obtain ⟨a,x,y,rfl,ex,ey,ha⟩:=hp j v e1
 have jx:=(É.mp ex).1
 have jy:=(É.mp ey).1
 have jd:j<ds.length:=⋯
 have je:j<es.length:=⋯
 rw [List.getElem?_zipWith,Â jd,Â je] at e2
 cases e2
 obtain ⟨x',ex',rx⟩:=r1.get (Â jd)
 obtain ⟨y',ey',ry⟩:=r2.get (Â je)
 rw [ex] at ex'
 rw [ey] at ey'
 cases ex'
 cases ey'
 exact .tup (SqT.of ha) (.cons rx (.cons ry .nil))
theorem yM (hc:X.calm=true) (Gl':Gb X "list") (ml:X.mg "list"=none) (Gz:Gb X "zip") (mz:X.mg "zip"=none) (ha:SA X [a,b] [ga,gb])
  (hs:starEach [a,b] X.env=↥125::starEach [b] X.env:=by rfl) (hpl:(backTo pos2 (starEach [b] X.env)).any (·.1)=false:=by rfl)
  (hs2:starEach [Éh (.Name "zip" p2) [a,b] [] pos2] X.env=[↥121]:=by rfl) (hpl2:(backTo pos (starEach [] X.env)).any (·.1)=false:=by rfl) :
  SE X (.Call (.Name "list" p) [.Call (.Name "zip" p2) [a,b] [] pos2] [] pos) (EV.call Ky [ga,gb]) :=
 PE.weak (vi hc Gl'.g ml Gz.g mz ha hs hpl hs2 hpl2) fun σ H Q ⟨δ,hσ,h⟩=>⟨δ,hσ,(RA.bind h).to fun vs H1 s ⟨_,ds,rs,q⟩=>by
  unfold Ky at q
  split at q
  ·rename_i xs ys
   split at q
   ·rename_i hb
    obtain ⟨v,v',rfl,r1,r2⟩:=AL rs
    cases r1 with
    | @lst l1 vs1 _ hq1 rr1 =>
     cases r2 with
     | @lst l2 vs2 _ hq2 rr2 =>
      refine ⟨l1,l2,vs1,vs2,rfl,hq1,hq2,by rw [rr1.length];exact hb.1,by rw [rr2.length];exact hb.2,fun H' S zs sm hn e P => ?_⟩
      exact q _ _ sm (.lst (SqL.of e) (vj (H:=H') P (rr1.mono sm) (rr2.mono sm)))
   ·exact Å q
  ·exact Å q⟩
end
end ES
namespace ES
open PySem PySem.Spec PyProof.Rows L2 EV
unseal SE ST SW SA SS SSs SI SO
section
variable {X:Cx} {N:List Str} {e e2:Expr} {g g2:E} {pos:Pos}
end
end ES
namespace EV
def Gk:List D->R D
 | [.lst ds]=>if ds.length<=100000 then .ok (.lst ds.reverse) else .bad
 | _=>.bad
theorem Gj (h:ds.length<=100000):Gk [.lst ds]=.ok (.lst ds.reverse):=by
 unfold Gk
 simp only
 rw [if_pos h]
end EV
namespace ES
open PySem PySem.Spec PyProof.Rows L2 EV
unseal SE ST SW SA SS SSs SI SO
section
variable {prog:Program} {w:World} {A:Around} {E:Value->Shared->Prop} {s:Shared}
theorem vg:typeLookup (.type "list_reverseiterator") "__len__"=pure none:=by rw [typeLookup_type,builtinLookup_eq_fast];kernel_rfl
theorem ro:typeLookup (.type "list_reverseiterator") "__length_hint__"=pure (some (.builtin "list_reverseiterator.__length_hint__")):=by rw [typeLookup_type,builtinLookup_eq_fast];kernel_rfl
theorem BB (hit:s.heap.IsRevIter it l i) (h:Q false s):wpAny ↥3 A (Builtin.List.listLengthHint (.ref it)) Q E s:=by
 unfold Builtin.List.listLengthHint
 refine wpAny_bind (wpAny_specialOf hit.typeIs vg ?_)
 show wpAny _ A (specialOf (â it) (Ø "__length_hint__") >>= _) _ _ _
 refine wpAny_bind (wpAny_specialOf hit.typeIs ro ?_)
 generalize hid:("list_reverseiterator.__length_hint__":String)=id0
 wp_delta
 rw [show splitId id0=some ("list_reverseiterator","__length_hint__") from by subst hid;decide +kernel]
 subst hid
 refine wpAny_bind (wpAny_isInstance (T:="list_reverseiterator") (b:=true) hit.typeIs (by rw [isSubtype_type];kernel_rfl) ?_)
 refine wpAny_ite_split (fun hab=>absurd hab ↥1) (fun _ => ?_)
 refine wpAny_ite_split (fun _ => ?_) (fun hab=>absurd ↥41 hab)
 refine wpAny_ite_split (fun hab=>absurd hab ↥41) (fun _ => ?_)
 exact wpAny_pure h
theorem vJ {R:Result->Shared->Prop} {it l:Addr} {items:Array Value} (hh:A.handled=none) (hit:s.heap.IsRevIter it l ((items.size:Int) - 1)) (hl:s.heap.IsList l items) (hli:l≠it) (hlen:items.size<=sizeLine) (S:Addr) (hSi:S≠it) (hSl:S≠l) (res:Value) (c₀:Nat) (hS:s.heap.get? S=some { cls:=.type "list",data:=.seq #[] c₀ })
  (hR:∀ h' tk acc' c',(∀ b o,b≠S->b≠it->s.heap.get? b=some o->h'.get? b=some o)->h'.get? S=some { cls:=.type "list",dict:=none,data:=.seq acc' c',slots := #[] } ->
   ItemsOf (fun i v=>items[items.size - 1 - i]? = some v) acc' items.size->R (.ok (.ret res)) { s with heap:=h',toks:=tk }) :
  wpAny ↥3 A.in1 (ă (.ref S) (.ref it) res)
   ↥38 (fun e s'=>R (.error e) s') s:=by
 have hSf:S∉[it,l]:=fun hm=>by
  rcases Ö.mp hm with e | hm
  ·exact hSi e
  ·exact hSl (ï.mp hm)
 have W:=(Walks.listRev (prog:=prog) (w:=w) (A:=A.in1) hh it l hli items).toS
 unfold Builtin.List.listExtendWith
 refine wpAny_bind (wpAny_typeOf (T:="list_reverseiterator") hit.typeIs ?_)
 have h1:Builtin.List.listSameRef (.ref S) (.ref it)=false:=by simp [Åe,hSi]
 have h2:(Ň "list_reverseiterator" == Ň "list")=false:=by decide
 have h3:(Ň "list_reverseiterator" == Ň "tuple")=false:=by decide
 simp only [h1,h2,h3,Åc,Ô,if_false]
 refine wpAny_bind (wpAny_pyIter_revIter hit ?_)
 refine wpAny_bind (wpAny_holding (BB hit ?_))
 refine wpAny_ite_split (fun hab=>absurd hab ↥41) (fun _=>wpAny_pure ⟨plainId_quiet ō _,?_⟩)
 refine codeAny_extend_loopS W hlen S hSf res items.size 0 _ #[] c₀ rfl (Ā _) ⟨Ā _,by simpa using hit,hl⟩ hS (ItemsOf.nil _) fun s' acc' c' hm hS' hacc => ?_
 rw [Moved.eq_with hm]
 refine hR s'.heap s'.toks acc' c' (fun b o hb hi e=>hm.heap b o (fun hmem => ?_) e) hS' hacc
 rcases Ö.mp hmem with e' | hmem
 ·exact hb e'
 ·exact hi (ï.mp hmem)
theorem Bs {Q:Value->Shared->Prop} {l:Addr} {items:Array Value} (hh:A.handled=none) (hl:s.heap.IsList l items) (hlen:items.size<=sizeLine)
  (hQ:∀ h' tk acc' c' S,s.heap.objs.size<=S->↥45->h'.get? S=some { cls:=.type "list",dict:=none,data:=.seq acc' c',slots := #[] } ->
   ItemsOf (fun i v=>items[items.size - 1 - i]? = some v) acc' items.size->Q (.ref S) { s with heap:=h',toks:=tk }) :
  wpAny ↥3 A (call (.type "reversed") [.ref l]) (fun v s1=>wpAny ↥3 A (call (.type "list") [v]) Q E s1) E s:=by
 refine call_reversed_list hl ?_
 have lt1:l<s.heap.objs.size:=by obtain ⟨_,e,_⟩:=hl;exact à e
 generalize hh1:s.heap.push (revObj l ((items.size:Int) - 1))=h1
 have sz1:h1.objs.size=s.heap.objs.size+1:=by rw [<- hh1,ŵ]
 have k1:∀ b o,s.heap.get? b=some o->h1.get? b=some o:=fun b o e=>by rw [<- hh1];exact Ä _ e
 have hit:h1.IsRevIter s.heap.objs.size l ((items.size:Int) - 1):=⟨_,by rw [<- hh1];exact Ú _ rfl,rfl,rfl⟩
 refine callType_codes (Q₁:=fun obj s₁=>obj=.ref h1.objs.size/\s₁={ s with heap:=h1.push { cls:=.type "list",data:=.seq #[] } }) F.called_list (F.typeCall_list_1 _) F.entry_list_init
  (code_list_new _ ⟨rfl,rfl⟩) fun obj s₁ h₁ => ?_
 obtain ⟨rfl,rfl⟩:=h₁
 have hS:(h1.push { cls:=.type "list",data:=.seq #[] }).get? h1.objs.size=some { cls:=.type "list",data:=.seq #[] }:=Ú _ rfl
 refine ⟨⟨_,hS,rfl⟩,F.args_list_init_2 _ _,?_⟩
 show wpAny _ A.in1.in1 (do let old<-ĳ (.ref h1.objs.size);ó (.ref h1.objs.size) (fun _ => #[]);letGo old.toList.reverse;ă (.ref h1.objs.size) ↥57 .none) _ _ _
 refine wpAny_bind ?_
 unfold Builtin.List.listItems
 refine wpAny_bind (wpAny_seqItems hS rfl (wpAny_pure ?_))
 show wpAny _ _ (updateSeq h1.objs.size (fun _ => #[]) >>= fun _=>letGo (#[]:Array Value).toList.reverse >>= fun _=>ă (.ref h1.objs.size) ↥57 .none) _ _ _
 refine wpAny_bind (wpAny_updateSeq hS rfl ?_)
 have hS₂:=Č ↥85 hS rfl
 have oth:∀ b o,b≠h1.objs.size->h1.get? b=some o->((h1.push { cls:=.type "list",data:=.seq #[] }).update h1.objs.size ↥85).get? b=some o :=
  fun b o hb e=>(ç _ _ (ė hb)).trans (Ä _ e)
 refine wpAny_bind (wpAny_letGo ?_)
 have n1:s.heap.objs.size<h1.objs.size:=by rw [sz1];exact Ż _
 have n2:∀ b:Nat,b<s.heap.objs.size->b<h1.objs.size:=fun b hb=>Nat.lt_trans hb n1
 refine vJ (A:=A.in1) (l:=l) (items:=items) hh (hit.at fun o e=>oth _ o (æ n1) e) (hl.at fun o e=>oth _ o (æ (n2 _ lt1)) (k1 _ o e)) (æ lt1) hlen h1.objs.size (Ág n1) (Ág (n2 _ lt1)) .none _ hS₂ fun h' tk acc' c' hk hS' hacc=>⟨rfl,?_⟩
 exact hQ h' tk acc' c' _ (ı n1) (fun b o e=>hk b o (æ (n2 _ ↥42)) (æ ↥42) (oth b o (æ (n2 _ ↥42)) (k1 b o e))) hS' hacc
end
section
variable {X:Cx} {a b:Expr} {ga gb:E} {p p2 pos pos2:Pos}
theorem Ad (h:Vals vs us):Vals vs.reverse us.reverse:=by
 induction h with
 | nil=>exact .nil
 | cons r _ ih=>rw [Ÿ,Ÿ];exact ih.append (.cons r .nil)
theorem yt {us:List Value} {acc:Array Value} (h:ItemsOf (fun i v=>us.toArray[us.toArray.size - 1 - i]? = some v) acc us.toArray.size):acc=us.reverse.toArray:=by
 have hs:us.toArray.size=us.length:=by simp
 rw [hs] at h
 refine Array.ext (by rw [h.1];simp) fun i h1 h2 => ?_
 have e:=h.2 i acc[i] (ë h1)
 have hi:i<us.length:=by rw [<- h.1];exact h1
 have e:us.toArray[us.length - 1 - i]? = some acc[i]:=e
 rw [ŕ] at e
 have e2:us.reverse[i]? = some acc[i]:=by rw [List.getElem?_reverse hi];exact e
 have e3:us.reverse.toArray[i]? = some acc[i]:=by rw [ŕ];exact e2
 rw [ë h2] at e3
 exact (Ó.inj e3).symm
theorem ql (hc:X.calm=true) (Gl':Gb X "list") (ml:X.mg "list"=none) (Gz:Gb X "reversed") (mz:X.mg "reversed"=none) (ha:SA X [a] [ga])
  (hs:starEach [a] X.env=↥125::starEach [] X.env:=by rfl) (hpl:(backTo pos2 (starEach [] X.env)).any (·.1)=false:=by rfl)
  (hs2:starEach [Éh (.Name "reversed" p2) [a] [] pos2] X.env=[(false,eval (Éh (.Name "reversed" p2) [a] [] pos2) X.env)]:=by rfl) (hpl2:(backTo pos (starEach [] X.env)).any (·.1)=false:=by rfl) :
  SE X (.Call (.Name "list" p) [.Call (.Name "reversed" p2) [a] [] pos2] [] pos) (EV.call Gk [ga]):=by
 intro pins s σ H Q I ⟨δ,hσ,h⟩
 refine wpAny_Call_Name_kw (fF I Gl'.g ml boot_list ?_ ↥1 ↥1)
 refine Ă ?_ hs2 hpl2
 rw [hs2]
 show wpAny _ _ (spliced ((false,eval (Éh (.Name "reversed" p2) [a] [] pos2) X.env)::[])) _ _ s
 refine Âg ?_
 refine wpAny_Call_Name_kw (fF I Gz.g mz boot_reversed ?_ ↥1 ↥1)
 refine Ă (thn (ha pos2 pins s σ H _ I ⟨δ,hσ,RA.bind h⟩) fun us s1 ⟨vs,H1,I1,r1,sm,ds,rs,q⟩ => ?_) hs hpl
 unfold Gk at q
 split at q
 ·rename_i es
  split at q
  ·rename_i hz
   obtain ⟨v,rfl,rv⟩:=mn rs
   cases rv with
   | @lst l xs _ hq rr =>
    cases r1 with
    | cons r r1 =>
     cases r1
     cases r
     obtain ⟨its,rvs,pl,hz2⟩:=I1.list hq
     refine thn (Bs (I1.ok.hd hc) pl.isList (by rw [Ì,<-rvs.length];exact hz2) fun h' tk acc' c' S hS kp hS' hacc => ?_) fun v s2 h2=>Äd h2
     have ea:=yt hacc
     subst ea
     refine ⟨.ref S,upd H1 S (.lst xs.reverse),I1.laid (t':=tk) kp hS ⟨by rw [Ġ];exact hz2,its.reverse,c',Ad rvs,hS'⟩,rfl,?_⟩
     have hn:=I1.hok.fresh hS
     exact q _ _ (aL hn _) (.lst (SqL.of au) (tJ (rr.mono (aL hn _))))
  ·exact Å q
 ·exact Å q
end
end ES
namespace ES
open PySem PySem.Spec PyProof.Rows L2 EV
unseal SE ST SW SA SS SSs SI SO
section
variable {X:Cx} {pins:List ↥6} {σ:L2.St} {H:Hp} {s:Shared} {h':Heap}
end
section
variable {X:Cx} {a b:Expr} {ga gb:E} {p pos:Pos}
end
section
variable {X:Cx}
end
section
variable {prog:Program} {w:World} {A:Around} {E:Value->Shared->Prop} {s:Shared}
end
section
variable {X:Cx} {N:List Str} {e:Expr} {es:List Expr} {g:E} {is:List Nat} {pos:Pos}
end
end ES
namespace ES
open PySem PySem.Spec PyProof.Rows L2 EV
section
variable {K:PySem.W.Frag} {mg:Str->Option Value} {Cs ns:List (String×Addr)} {q:String×Addr}
end
end ES
namespace EV
def few (rs:List D) (o:O):O:=if rs.length<100000 then o else .bad
end EV
namespace ES
open PySem PySem.Spec PyProof.Rows L2 EV
unseal SE ST SW SA SS SSs SI SO SSF
def Fr (K:PySem.W.Frag) (mg:Str->Option Value) (H H':Hp) (v:V) (d:D):Prop:=(∃ i,v=.int i/\d=.int i)\/∃ b vs ds,v=.ref b/\d=.lst ds/\H b=none/\H' b=some (.lst vs)/\Reps K mg H' vs ds/\EV.D.flats ds=true
def FrT (K:PySem.W.Frag) (mg:Str->Option Value) (H H':Hp) (v:V) (d:D):Prop:=∃ t v1 v2 d1 d2,v=.ref t/\d=.tup [d1,d2]/\H' t=some (.tup [v1,v2])/\Fr K mg H H' v1 d1/\Fr K mg H H' v2 d2
section
variable {K:PySem.W.Frag} {mg:Str->Option Value} {F F' H:Hp} {v:V} {d:D}
end
def TQ (K:PySem.W.Frag) (mg:Str->Option Value) (H:Hp) (d:D) (Q:VK):Prop:=(∀ v H',aq H H'->FrT K mg H H' v d->Q v H')/\(d=.non->∀ H',aq H H'->Q .non H')
def OQT (X:Cx) (D:Ends) (F:Hp):O->Prop
 | .rt d=>∀ v H,aq F H->FrT X.K X.mg F H v d->D.rt v H
 | o=>OQ X D F o
def tST (X:Cx) (g:S):TS:=fun D σ H=>∃ δ os,StO X H σ δ os/\OQT X D ↥26 (g δ)
@[irreducible] def SST (X:Cx) (st:List Stmt) (g:S):Prop:=PSs X st (tST X g)
unseal SST
section
variable {X:Cx} {N:List Str}
variable {st:Stmt} {rest:List Stmt} {gs gr:S} {e:Expr} {g:E} {pos:Pos}
end
def spT (K:PySem.W.Frag) (mg:Str->Option Value) (f:List D->R D):Sp:=fun vs H Q E=>∃ ds,Reps K mg H vs ds/\match f ds with
 | .ok d=>TQ K mg H d Q
 | .ex C=>∀ Ca,mg C=some (.ref Ca)->∀ H',aq H H'->E (.ref Ca) none H'
 | .bad=>False
structure FnT (P:Program) (w:World) (K:PySem.W.Frag) (mg:Str->Option Value) (base:Heap) (x:Str) (k:Nat) (f:List D->R D):Prop where
 ex:∃ fa fd ps,FnOk P w K mg base (CXF P w) k fa fd ps (spT K mg f)/\mg x=some (.ref fa)/\ŏ K (.ref fa)=true/\Binds K fd ps []
structure CalleeT (X:Cx) (x:Str) (f:List D->R D):Prop where
 ex:∃ k fa fd ps,FnOk X.prog X.w X.K X.mg X.base (CXF X.prog X.w) k fa fd ps (spT X.K X.mg f)/\Room k X.A/\X.mg x=some (.ref fa)/\ŏ X.K (.ref fa)=true/\Binds X.K fd ps []
section
variable {X:Cx} {N:List Str} {x:Str} {f:List D->R D} {e:Expr} {es:List Expr} {gs:List E} {p pos:Pos} {g:E}
end
section
variable {X:Cx} {D:Ends} {F:Hp} {r:R EV.D}
end
section
variable {K:PySem.W.Frag} {mg:Str->Option Value} {H H' H'':Hp} {σ:L2.St} {δ:Dt} {i:Nat} {v:V} {d:D}
end
section
variable {X:Cx} {N:List Str}
end
section
variable {X:Cx} {N:List Str} {D:Ends} {F:Hp} {r:R EV.D}
end
end ES
namespace EV
end EV
namespace ES
open PySem PySem.Spec PyProof.Rows L2 EV
unseal SE ST SW SA SS SSs SI SO SSF SST
section
variable {X:Cx} {a b:Expr} {ga gb:E} {pos:Pos}
end
end ES
namespace EV
end EV
namespace ES
open PySem PySem.Spec PyProof.Rows L2 EV
unseal SE ST SW SA SS SSs SI SO
section
variable {X:Cx} {pos:Pos} {tg e a b:Expr} {g ga gb:E}
end
end ES
namespace EV
open PySem (Str)
end EV
namespace ES
open PySem PySem.Spec PyProof.Rows L2 EV
unseal SE ST SW SA SS SSs SI SO SSF
section
variable {X:Cx} {N:List Str} {tg e c:Expr} {g:IT} {gc:E} {gl:S} {lv:List Stmt} {pos p:Pos} {t:TG} {put:Dt->D->Option Dt}
end
section
variable {X:Cx} {N:List Str} {pos:Pos}
theorem sY {δ:Dt} {i:Nat} {ds:List D} (e:δ[i]? = some (some (.own ds))):var i ↥66=.ok ↥120:=by
 unfold var EV.view
 rw [Ë,e]
 rfl
end
section
variable {X:Cx} {a b:Expr} {ga gb:E}
end
inductive DE (X:Cx):List DictEntry->List (Str×D)->Prop
 | nil:DE X [] []
 | cons {k:Str} {t:Tok} {u:Value} {v:V} {d:D} {es:List DictEntry} {tab:List (Str×D)}:RelV v u->(∀ H,Rep X.K X.mg H v d)->DE X es tab->DE X (⟨hashStr X.w k,.str k t,u⟩::es) ((k,d)::tab)
structure GD (X:Cx) (x:String) (tab:List (Str×D)):Prop where
 ex:∃ (a:Addr) (n:Nat) (es:List DictEntry),X.mg x=some ↥114/\(a == sysModules)=false/\X.K.lookup a=some ⟨.type "dict",none,.dict es.toArray n,#[]⟩/\DE X es tab/\(tab.map (·.1)).Nodup
section
variable {X:Cx} {x:String} {tab:List (Str×D)} {a b:Expr} {ga gb:E} {pos p:Pos}
end
end ES
namespace ES
open PySem PySem.Spec PyProof.Rows L2 EV
unseal SE ST SW SA SS SSs SI SO SSF
section
variable {X:Cx} {x:String} {tab:List (Str×D)} {a b:Expr} {ga gb:E} {pos p:Pos}
end
section
variable {X:Cx} {a b:Expr} {ga gb:E} {pos p:Pos}
end
end ES
namespace ES
open PySem PySem.Spec PyProof.Rows L2 EV
unseal SE ST SW SA SS SSs SI SO SSF
section
variable {prog:Program} {w:World} {A:Around} {E:Value->Shared->Prop} {s:Shared}
end
section
variable {prog:Program} {w:World} {A:Around} {E:Value->Shared->Prop} {s:Shared}
end
section
variable {X:Cx} {a b:Expr} {ga gb:E} {p pos:Pos}
end
end ES
namespace EV
open Classical in
def MV (i:Nat) (rest:S) (δ:Dt) (r:R (List D->Prop)):O:=match r with
 | .ok P=>if (∀ L,P L->rest (δ.set i (some (.lst L)))=.rt ↥29) then .rt ↥29 else .bad
 | .ex C=>.ex C ↥113
 | .bad=>.bad
end EV
namespace ES
open PySem PySem.Spec PyProof.Rows L2 EV
unseal SE ST SW SA SS SSs SI SO SSF
section
variable {X:Cx} {N:List Str} {e:Expr} {g:Dt->R (List D->Prop)} {rest:List Stmt} {gr:S} {pos:Pos}
end
end ES
namespace TS
open PySem PyProof.Rows
abbrev SM:=StateT SortSt Sem
def cu:Bool->Keyed->Array Keyed->Nat->Nat->Nat->SM (Option Nat):=sortPriv% PySem.Builtin.gallop
def aE:Nat->SM Unit:=sortPriv% PySem.Builtin.setMinGallop
def j4:Array Keyed->Array Keyed->SM (Array Keyed):=sortPriv% PySem.Builtin.mergeLo
def j5:Array Keyed->Array Keyed->SM (Array Keyed):=sortPriv% PySem.Builtin.mergeHi
abbrev setG (st:SortSt) (g:Nat):SortSt:=Ëa (kindOf st) ↥76 (pendingOf st) g (failedOf st)
theorem bx (g:Nat):aE g=modify fun s=>setG s g:=rfl
end TS
namespace TS
open PySem PyProof.Rows
def FJ (beyond:Nat->SM (Option Bool)) (n hint:Nat):SM (Option Nat):=do
 let mut lastofs:=0
 let mut ofs:=1
 let mut lo:=0
 let mut hi:=0
 let some right<-beyond hint | return none
 if right then
  let maxofs:=n - hint
  for _ in [0:n] do
   if ofs>=maxofs then break
   let some more<-beyond (hint+ofs) | return none
   if !more then break
   lastofs:=ofs
   ofs:=2*ofs+1
  lo:=hint+lastofs+1
  hi:=hint+min ofs maxofs
 else
  let maxofs:=hint+1
  for _ in [0:n] do
   if ofs>=maxofs then break
   let some found<-beyond (hint - ofs) | return none
   if found then break
   lastofs:=ofs
   ofs:=2*ofs+1
  lo:=hint+1 - min ofs maxofs
  hi:=hint - lastofs
 for _ in [0:n] do
  if lo>=hi then break
  let m:=lo+(hi - lo) / 2
  let some more<-beyond m | return none
  if more then lo:=m+1 else hi:=m
 return some hi
theorem sj (left:Bool) (key:Keyed) (arr:Array Keyed) (base n hint:Nat):cu left key arr base n hint=FJ (fun i=>do
  let x<-elem' arr (base+i)
  if left then lt' x key else return (<- lt' key x).map (!·)) n hint:=rfl
section
variable {prog:Program} {w:World} {A:Around} {E:Value->Shared->Prop} {s:Shared}
theorem wg {beyond:Nat->SM (Option Bool)} {Bd:Nat->Bool} {n hint:Nat} {st:SortSt} {Q:Option Nat->SortSt->Prop}
  (hb:∀ i,i<n->∀ Q:Option Bool->SortSt->Prop,Q (some (Bd i)) st->wpS ↥3 A E s (beyond i) Q st)
  (mono:∀ i j,i<=j->j<n->Bd j=true->Bd i=true) (hh:hint<n)
  (h:∀ k,k<=n->(∀ i,i<k->Bd i=true)->(∀ i,k<=i->i<n->Bd i=false)->Q (some k) st):wpS ↥3 A E s (FJ beyond n hint) Q st:=by
 have last:∀ lo hi,lo<=hi->hi<=n->(∀ i,i<lo->Bd i=true)->(∀ i,hi<=i->i<n->Bd i=false) ->
   wpS ↥3 A E s (do
    let mut lo:=lo
    let mut hi:=hi
    for _ in [0:n] do
     if lo>=hi then break
     let m:=lo+(hi - lo) / 2
     let some more<-beyond m | return none
     if more then lo:=m+1 else hi:=m
    return some hi) Q st:=by
  intro lo hi h1 h2 h3 h4
  refine wpS_bind (wpS_mono (wpS_forRange (I:=fun x c st'=>st'=st/\∃ lo' hi',c=(none,lo',hi')/\lo'<=hi'/\hi'<=n/\(∀ i,i<lo'->Bd i=true)/\(∀ i,hi'<=i->i<n->Bd i=false)/\hi' - lo'<=n - x)
   (Q:=fun c st'=>st'=st/\∃ lo' hi',c=(none,lo',hi')/\lo'<=hi'/\hi'<=n/\(∀ i,i<lo'->Bd i=true)/\(∀ i,hi'<=i->i<n->Bd i=false)/\hi'<=lo') ?step ?fin ?init) ?post)
  case init=>exact ⟨rfl,lo,hi,rfl,h1,h2,h3,h4,⋯⟩
  case fin =>
   rintro c st' ⟨rfl,lo',hi',rfl,a1,a2,a3,a4,a5⟩
   exact ⟨rfl,lo',hi',rfl,a1,a2,a3,a4,⋯⟩
  case step =>
   rintro x c st' _ hx ⟨rfl,lo',hi',rfl,a1,a2,a3,a4,a5⟩
   dsimp only
   by_cases g:lo'>=hi'
   ·rw [if_pos g]
    exact wpS_pure ⟨rfl,lo',hi',rfl,a1,a2,a3,a4,g⟩
   ·rw [if_neg g]
    refine wpS_bind (hb _ ⋯ _ ?_)
    dsimp only
    cases hB:Bd (lo'+(hi' - lo') / 2) with
    | true =>
     rw [if_pos rfl]
     exact wpS_pure ⟨rfl,_,_,rfl,⋯,a2,fun i hi=>mono i _ ⋯ ⋯ hB,a4,⋯⟩
    | false =>
     rw [if_neg ↥1]
     refine wpS_pure ⟨rfl,_,_,rfl,⋯,⋯,a3,fun i hi hn => ?_,⋯⟩
     cases hz:Bd i with
     | false=>rfl
     | true=>rw [mono _ i hi hn hz] at hB;cases hB
  case post =>
   rintro c st' ⟨rfl,lo',hi',rfl,a1,a2,a3,a4,a5⟩
   exact wpS_pure (h hi' a2 (fun i hi=>a3 i ⋯) a4)
 unfold FJ
 refine wpS_bind (hb hint hh _ ?_)
 dsimp only
 cases hB:Bd hint with
 | true =>
  rw [if_pos rfl]
  refine wpS_bind (wpS_mono (wpS_forRange (I:=fun x c st'=>st'=st/\∃ la ofs,c=(none,la,ofs)/\la<ofs/\la<n - hint/\Bd (hint+la)=true/\x<ofs)
   (Q:=fun c st'=>st'=st/\∃ la ofs,c=(none,la,ofs)/\la<ofs/\la<n - hint/\Bd (hint+la)=true/\(ofs>=n - hint\/(ofs<n - hint/\Bd (hint+ofs)=false))) ?step ?fin ⟨rfl,0,1,rfl,⋯,⋯,hB,⋯⟩) ?post)
  case fin =>
   rintro c st' ⟨rfl,la,ofs,rfl,a1,a2,a3,a4⟩
   exact ⟨rfl,la,ofs,rfl,a1,a2,a3,.inl ⋯⟩
  case step =>
   rintro x c st' _ hx ⟨rfl,la,ofs,rfl,a1,a2,a3,a4⟩
   dsimp only
   by_cases g:ofs>=n - hint
   ·rw [if_pos g]
    exact wpS_pure ⟨rfl,la,ofs,rfl,a1,a2,a3,.inl g⟩
   ·rw [if_neg g]
    refine wpS_bind (hb _ ⋯ _ ?_)
    dsimp only
    cases hB2:Bd (hint+ofs) with
    | true =>
     rw [if_neg ↥1]
     exact wpS_pure ⟨rfl,_,_,rfl,⋯,⋯,hB2,⋯⟩
    | false =>
     rw [if_pos ↥1]
     exact wpS_pure ⟨rfl,la,ofs,rfl,a1,a2,a3,.inr ⟨⋯,hB2⟩⟩
  case post =>
   rintro c st' ⟨rfl,la,ofs,rfl,a1,a2,a3,a4⟩
   dsimp only
   refine last _ _ ⋯ ⋯ (fun i hi=>mono i _ ⋯ ⋯ a3) fun i hi hn => ?_
   rcases a4 with a4 | ⟨a4,a5⟩
   ·omega
   ·cases hz:Bd i with
    | false=>rfl
    | true=>rw [mono _ i ⋯ hn hz] at a5;cases a5
 | false =>
  rw [if_neg ↥1]
  refine wpS_bind (wpS_mono (wpS_forRange (I:=fun x c st'=>st'=st/\∃ la ofs,c=(none,la,ofs)/\la<ofs/\la<=hint/\Bd (hint - la)=false/\x<ofs)
   (Q:=fun c st'=>st'=st/\∃ la ofs,c=(none,la,ofs)/\la<ofs/\la<=hint/\Bd (hint - la)=false/\(ofs>=hint+1\/(ofs<hint+1/\Bd (hint - ofs)=true))) ?step ?fin ⟨rfl,0,1,rfl,⋯,⋯,hB,⋯⟩) ?post)
  case fin =>
   rintro c st' ⟨rfl,la,ofs,rfl,a1,a2,a3,a4⟩
   exact ⟨rfl,la,ofs,rfl,a1,a2,a3,.inl ⋯⟩
  case step =>
   rintro x c st' _ hx ⟨rfl,la,ofs,rfl,a1,a2,a3,a4⟩
   dsimp only
   by_cases g:ofs>=hint+1
   ·rw [if_pos g]
    exact wpS_pure ⟨rfl,la,ofs,rfl,a1,a2,a3,.inl g⟩
   ·rw [if_neg g]
    refine wpS_bind (hb _ ⋯ _ ?_)
    dsimp only
    cases hB2:Bd (hint - ofs) with
    | true =>
     rw [if_pos rfl]
     exact wpS_pure ⟨rfl,la,ofs,rfl,a1,a2,a3,.inr ⟨⋯,hB2⟩⟩
    | false =>
     rw [if_neg ↥1]
     exact wpS_pure ⟨rfl,_,_,rfl,⋯,⋯,hB2,⋯⟩
  case post =>
   rintro c st' ⟨rfl,la,ofs,rfl,a1,a2,a3,a4⟩
   dsimp only
   refine last _ _ ⋯ ⋯ (fun i hi => ?_) fun i hi hn => ?_
   ·rcases a4 with a4 | ⟨a4,a5⟩
    ·omega
    ·exact mono i _ ⋯ ⋯ a5
   ·cases hz:Bd i with
    | false=>rfl
    | true=>rw [mono _ i ⋯ hn hz] at a3;cases a3
end
end TS
namespace TS
open PySem PyProof.Rows
def kv (p:Keyed):Int:=numOf p.1
def le (x y:Keyed):Prop:=kv x<=kv y
abbrev Srt (l:List Keyed):Prop:=l.Pairwise le
structure MI (P Q O:List Keyed) (i j:Nat):Prop where
 hi:i<=P.length
 hj:j<=Q.length
 len:O.length=i+j
 perm:(O++P.drop i++Q.drop j).Perm (P++Q)
 srt:Srt O
 lp:∀ x∈O,∀ y∈P.drop i,le x y
 lq:∀ x∈O,∀ y∈Q.drop j,le x y
section
variable {P Q O:List Keyed} {i j k:Nat}
theorem mZ (l:List Keyed) (i k:Nat):l.drop i=(l.drop i).take k++l.drop (i+k):=by
 conv=>lhs;rw [<- Ħ k (l.drop i)]
 rw [Éb]
theorem MI.takeP (h:MI P Q O i j) (sp:Srt P) (hk:i+k<=P.length) (hx:∀ x∈(P.drop i).take k,∀ y∈Q.drop j,le x y):MI P Q (O++(P.drop i).take k) (i+k) j:=by
 have sd:Srt (P.drop i):=sp.sublist ↥89
 have e:=mZ P i k
 have sd':=sd
 rw [e] at sd'
 obtain ⟨s1,s2,s3⟩:=ß.mp sd'
 refine ⟨hk,h.hj,?_,?_,?_,?_,?_⟩
 ·rw [Æ,h.len,é,ú];omega
 ·have:=h.perm
  rw [e] at this
  simpa using this
 ·refine ß.mpr ⟨h.srt,s1,fun x hx y hy=>h.lp x hx y ?_⟩
  rw [e]
  exact ð _ hy
 ·intro x hx' y hy
  rcases È.mp hx' with hx' | hx'
  ·refine h.lp x hx' y ?_
   rw [e]
   exact Ç _ hy
  ·exact s3 x hx' y hy
 ·intro x hx' y hy
  rcases È.mp hx' with hx' | hx'
  ·exact h.lq x hx' y hy
  ·exact hx x hx' y hy
theorem MI.takeQ (h:MI P Q O i j) (sq:Srt Q) (hk:j+k<=Q.length) (hx:∀ x∈(Q.drop j).take k,∀ y∈P.drop i,le x y):MI P Q (O++(Q.drop j).take k) i (j+k):=by
 have sd:Srt (Q.drop j):=sq.sublist ↥89
 have e:=mZ Q j k
 have sd':=sd
 rw [e] at sd'
 obtain ⟨s1,s2,s3⟩:=ß.mp sd'
 refine ⟨h.hi,hk,?_,?_,?_,?_,?_⟩
 ·rw [Æ,h.len,é,ú];omega
 ·refine Ŕ ?_ h.perm
  conv=>rhs;rw [e]
  generalize (Q.drop j).take k=T
  generalize Q.drop (j+k)=R
  generalize P.drop i=S
  have h1:(T++S).Perm (S++T):=Ŗ
  have h2:=(h1.append_left O).append_right R
  simpa using h2
 ·refine ß.mpr ⟨h.srt,s1,fun x hx y hy=>h.lq x hx y ?_⟩
  rw [e]
  exact ð _ hy
 ·intro x hx' y hy
  rcases È.mp hx' with hx' | hx'
  ·exact h.lp x hx' y hy
  ·exact hx x hx' y hy
 ·intro x hx' y hy
  rcases È.mp hx' with hx' | hx'
  ·refine h.lq x hx' y ?_
   rw [e]
   exact Ç _ hy
  ·exact s3 x hx' y hy
theorem MI.doneQ (h:MI P Q O i j) (sp:Srt P) (hj:j=Q.length):(O++P.drop i++Q.drop j).Perm (P++Q)/\Srt (O++P.drop i++Q.drop j):=by
 refine ⟨h.perm,?_⟩
 rw [hj,List.drop_length,ĭ]
 exact ß.mpr ⟨h.srt,sp.sublist ↥89,h.lp⟩
theorem MI.doneP (h:MI P Q O i j) (sq:Srt Q) (hi:i=P.length):(O++P.drop i++Q.drop j).Perm (P++Q)/\Srt (O++P.drop i++Q.drop j):=by
 refine ⟨h.perm,?_⟩
 rw [hi,List.drop_length,ĭ]
 exact ß.mpr ⟨h.srt,sq.sublist ↥89,h.lq⟩
theorem MI.last (h:MI P Q O i j) (sp:Srt P) (sq:Srt Q) (hl:∀ x∈P.drop i,∀ y∈Q,le y x):(O++Q.drop j++P.drop i).Perm (P++Q)/\Srt (O++Q.drop j++P.drop i):=by
 refine ⟨Ŕ ?_ h.perm,?_⟩
 ·rw [Ć,Ć]
  exact Ŗ.append_left O
 ·refine ß.mpr ⟨ß.mpr ⟨h.srt,sq.sublist ↥89,h.lq⟩,sp.sublist ↥89,fun x hx y hy => ?_⟩
  rcases È.mp hx with hx | hx
  ·exact h.lp x hx y hy
  ·exact hl y hy x (ş hx)
end
theorem rP (a b:Array Keyed):j4 a b=(do
 rule "list.sort.merge-lo"
 let total:=a.size+b.size
 let done (out:Array Keyed) (ia ib:Nat):=out++a.extract ia a.size++b.extract ib b.size
 let lastOfA (out:Array Keyed) (ia ib:Nat):=out++b.extract ib b.size++a.extract ia a.size
 let mut out:Array Keyed := #[<- elem' b 0]
 let mut ia:=0
 let mut ib:=1
 if ib == b.size then return done out ia ib
 if ia+1 == a.size then return lastOfA out ia ib
 let mut minGallop:=gallopOf (<- get)
 for _ in [0:total] do
  let mut acount:=0
  let mut bcount:=0
  for _ in [0:total] do
   let some bWins<-lt' (<- elem' b ib) (<- elem' a ia) | return done out ia ib
   if bWins then
    out:=out.push (<- elem' b ib);ib:=ib+1;bcount:=bcount+1;acount:=0
    if ib == b.size then return done out ia ib
    if bcount>=minGallop then break
   else
    out:=out.push (<- elem' a ia);ia:=ia+1;acount:=acount+1;bcount:=0
    if ia+1 == a.size then return lastOfA out ia ib
    if acount>=minGallop then break
  rule "list.sort.gallop"
  minGallop:=minGallop+1
  for _ in [0:total] do
   if minGallop>1 then minGallop:=minGallop - 1
   aE minGallop
   let some k<-cu false (<- elem' b ib) a ia (a.size - ia) 0 | return done out ia ib
   acount:=k
   if k>0 then
    out:=out++a.extract ia (ia+k);ia:=ia+k
    if ia+1 == a.size then return lastOfA out ia ib
    if ia == a.size then return done out ia ib
   out:=out.push (<- elem' b ib);ib:=ib+1
   if ib == b.size then return done out ia ib
   let some k<-cu true (<- elem' a ia) b ib (b.size - ib) 0 | return done out ia ib
   bcount:=k
   if k>0 then
    out:=out++b.extract ib (ib+k);ib:=ib+k
    if ib == b.size then return done out ia ib
   out:=out.push (<- elem' a ia);ia:=ia+1
   if ia+1 == a.size then return lastOfA out ia ib
   if acount<7&&bcount<7 then break
  minGallop:=minGallop+1
  aE minGallop
 unsupported "internal:list.sort.merge-bound"):=rfl
end TS
namespace TS
open PySem PyProof.Rows
def IK (l:List Keyed):Prop:=∀ p∈l,∃ n t,p.1=.int n t
section
variable {prog:Program} {w:World} {A:Around} {E:Value->Shared->Prop} {s:Shared}
theorem kA {x y:Keyed} {st:SortSt} {Q:Option Bool->SortSt->Prop} (hk:kindOf st=oneType') (hx:∃ n t,x.1=.int n t) (hy:∃ n t,y.1=.int n t) (h:Q (some (decide (kv x<kv y))) st):wpS ↥3 A E s (lt' x y) Q st:=by
 obtain ⟨n,t,ex⟩:=hx
 obtain ⟨m,u,ey⟩:=hy
 rw [lt'_eq]
 refine wpS_bind (wpS_get ?_)
 rw [hk,keyLt'_oneType,ex,ey]
 refine wpS_bind (wpS_lift (wpAny_attempt (oneLt_int ⟨rfl,?_⟩)))
 have e:decide (kv x<kv y)=decide (n<m):=by unfold kv;rw [ex,ey];rfl
 rw [e] at h
 exact wpS_pure h
theorem ay {arr:Array Keyed} {i:Nat} {p:Keyed} {st:SortSt} {Q:Keyed->SortSt->Prop} (h:arr[i]? = some p) (hq:Q p st):wpS ↥3 A E s (elem' arr i) Q st:=by
 rw [elem'_eq,h]
 exact wpS_pure hq
theorem cO {left:Bool} {key:Keyed} {arr:Array Keyed} {base n hint:Nat} {st:SortSt} {Q:Option Nat->SortSt->Prop} (hk:kindOf st=oneType') (hkey:∃ n t,key.1=.int n t) (ik:IK arr.toList) (hn:base+n<=arr.size) (hh:hint<n)
  (hs:Srt ((arr.toList.drop base).take n))
  (h:∀ k,k<=n->(∀ x∈((arr.toList.drop base).take n).take k,if left then kv x<kv key else kv x<=kv key)->(∀ x∈((arr.toList.drop base).take n).drop k,if left then kv key<=kv x else kv key<kv x)->Q (some k) st) :
  wpS ↥3 A E s (cu left key arr base n hint) Q st:=by
 have hlen:((arr.toList.drop base).take n).length=n:=by rw [é,ú,Ã];omega
 generalize hS:(arr.toList.drop base).take n=S at *
 have at_:∀ i,i<n->∃ p,S[i]? = some p/\arr[base+i]? = some p/\p∈arr.toList:=fun i hi=>by
  have hi':i<S.length:=⋯
  refine ⟨S[i],Â hi',?_,?_⟩
  ·have:S[i]? = arr[base+i]? := by
    rw [<- hS,Ċ hi,Ĉ,ì]
   rw [<- this]
   exact Â hi'
  ·have hm:S[i]∈(arr.toList.drop base).take n:=by rw [hS];exact ħ hi'
   exact ş (Ņ hm)
 rw [sj]
 refine wg (Bd:=fun i=>match S[i]? with | some p=>if left then decide (kv p<kv key) else !decide (kv key<kv p) | none=>false) (fun i hi Q hq => ?_) (fun i j hij hj hb => ?_) hh (fun k hk1 h1 h2=>h k hk1 (fun x hx => ?_) (fun x hx => ?_))
 ·obtain ⟨p,e1,e2,e3⟩:=at_ i hi
  rw [e1] at hq
  refine wpS_bind (ay e2 ?_)
  cases left with
  | true=>exact kA hk (ik p e3) hkey hq
  | false=>exact wpS_bind (kA hk hkey (ik p e3) (wpS_pure hq))
 ·obtain ⟨p,e1,_,_⟩:=at_ i ⋯
  obtain ⟨q,e2,_,_⟩:=at_ j hj
  have le:kv p<=kv q:=by
   by_cases e:i=j
   ·subst e
    rw [e1] at e2
    cases e2
    exact í _
   ·obtain ⟨hi',g1⟩:=É.mp e1
    obtain ⟨hj',g2⟩:=É.mp e2
    have:=Ľ.mp hs i j hi' hj' ⋯
    rw [g1,g2] at this
    exact this
  simp only [e2] at hb
  simp only [e1]
  cases left with
  | true =>
   simp only [if_true,decide_eq_true_eq] at hb ⊢
   omega
  | false =>
   simp only [Ô,if_false,Äg,decide_eq_false_iff_not] at hb ⊢
   omega
 ·obtain ⟨i,hi,e⟩:=Ũ hx
  rw [é] at hi
  have b:=h1 i ⋯
  rw [List.getElem_take] at e
  have e':S[i]? = some x:=by rw [<- e];exact Â ⋯
  simp only [e'] at b
  cases left with
  | true=>simp only [if_true,decide_eq_true_eq] at b ⊢;exact b
  | false =>
   simp only [Ô,if_false,Äg,decide_eq_false_iff_not] at b ⊢
   omega
 ·obtain ⟨i,hi,e⟩:=Ũ hx
  rw [ú] at hi
  have b:=h2 (k+i) ⋯ ⋯
  rw [List.getElem_drop] at e
  have e':S[k+i]? = some x:=by rw [<- e];exact Â ⋯
  simp only [e'] at b
  cases left with
  | true =>
   simp only [if_true,decide_eq_false_iff_not] at b ⊢
   omega
  | false =>
   simp only [Ô,if_false,Bool.not_eq_false',decide_eq_true_eq] at b ⊢
   exact b
end
abbrev LS:=Option (Array Keyed)×Array Keyed×Nat×Nat×Nat×Nat×Nat
abbrev L1:=Option (Array Keyed)×Array Keyed×Nat×Nat×Nat×Nat
abbrev L0:=Option (Array Keyed)×Array Keyed×Nat×Nat×Nat
section
variable (a b:Array Keyed)
abbrev dn (out:Array Keyed) (ia ib:Nat):Array Keyed:=out++a.extract ia a.size++b.extract ib b.size
abbrev la (out:Array Keyed) (ia ib:Nat):Array Keyed:=out++b.extract ib b.size++a.extract ia a.size
def loD (out:Array Keyed) (ia ib g ac bc:Nat):SM (ForInStep LS):=do
 let x<-elem' a ia
 if (ia+1+1 == a.size)=true then pure (.done (some (la a b (out.push x) (ia+1) ib),out.push x,ia+1,ib,g,ac,bc))
 else if (decide (ac<7)&&decide (bc<7))=true then pure (.done (none,out.push x,ia+1,ib,g,ac,bc))
 else pure (.yield (none,out.push x,ia+1,ib,g,ac,bc))
def loC (out:Array Keyed) (ia ib g ac bc:Nat):SM (ForInStep LS):=do
 let y<-elem' a ia
 let r<-cu true y b ib (b.size - ib) 0
 match r with
 | some k =>
  if k>0 then
   if (ib+k == b.size)=true then pure (.done (some (dn a b (out++b.extract ib (ib+k)) ia (ib+k)),out++b.extract ib (ib+k),ia,ib+k,g,ac,k))
   else loD a b (out++b.extract ib (ib+k)) ia (ib+k) g ac k
  else loD a b out ia ib g ac k
 | _=>pure (.done (some (dn a b out ia ib),out,ia,ib,g,ac,bc))
def loB (out:Array Keyed) (ia ib g ac bc:Nat):SM (ForInStep LS):=do
 let y<-elem' b ib
 if (ib+1 == b.size)=true then pure (.done (some (dn a b (out.push y) ia (ib+1)),out.push y,ia,ib+1,g,ac,bc))
 else loC a b (out.push y) ia (ib+1) g ac bc
def loA (out:Array Keyed) (ia ib g ac bc:Nat):SM (ForInStep LS):=do
 aE g
 let y<-elem' b ib
 let r<-cu false y a ia (a.size - ia) 0
 match r with
 | some k =>
  if k>0 then
   if (ia+k+1 == a.size)=true then pure (.done (some (la a b (out++a.extract ia (ia+k)) (ia+k) ib),out++a.extract ia (ia+k),ia+k,ib,g,k,bc))
   else if (ia+k == a.size)=true then pure (.done (some (dn a b (out++a.extract ia (ia+k)) (ia+k) ib),out++a.extract ia (ia+k),ia+k,ib,g,k,bc))
   else loB a b (out++a.extract ia (ia+k)) (ia+k) ib g k bc
  else loB a b out ia ib g k bc
 | _=>pure (.done (some (dn a b out ia ib),out,ia,ib,g,ac,bc))
def loG (c:LS):SM (ForInStep LS) :=
 if c.2.2.2.2.1>1 then loA a b c.2.1 c.2.2.1 c.2.2.2.1 (c.2.2.2.2.1 - 1) c.2.2.2.2.2.1 c.2.2.2.2.2.2
 else loA a b c.2.1 c.2.2.1 c.2.2.2.1 c.2.2.2.2.1 c.2.2.2.2.2.1 c.2.2.2.2.2.2
def loI (mg:Nat) (c:L1):SM (ForInStep L1):=do
 let y<-elem' b c.2.2.2.1
 let x<-elem' a c.2.2.1
 let r<-lt' y x
 match r with
 | some bw =>
  if bw=true then do
   let y<-elem' b c.2.2.2.1
   if (c.2.2.2.1+1 == b.size)=true then pure (.done (some (dn a b (c.2.1.push y) c.2.2.1 (c.2.2.2.1+1)),c.2.1.push y,c.2.2.1,c.2.2.2.1+1,0,c.2.2.2.2.2+1))
   else if c.2.2.2.2.2+1>=mg then pure (.done (none,c.2.1.push y,c.2.2.1,c.2.2.2.1+1,0,c.2.2.2.2.2+1))
   else pure (.yield (none,c.2.1.push y,c.2.2.1,c.2.2.2.1+1,0,c.2.2.2.2.2+1))
  else do
   let x<-elem' a c.2.2.1
   if (c.2.2.1+1+1 == a.size)=true then pure (.done (some (la a b (c.2.1.push x) (c.2.2.1+1) c.2.2.2.1),c.2.1.push x,c.2.2.1+1,c.2.2.2.1,c.2.2.2.2.1+1,0))
   else if c.2.2.2.2.1+1>=mg then pure (.done (none,c.2.1.push x,c.2.2.1+1,c.2.2.2.1,c.2.2.2.2.1+1,0))
   else pure (.yield (none,c.2.1.push x,c.2.2.1+1,c.2.2.2.1,c.2.2.2.2.1+1,0))
 | _=>pure (.done (some (dn a b c.2.1 c.2.2.1 c.2.2.2.1),c.2.1,c.2.2.1,c.2.2.2.1,c.2.2.2.2.1,c.2.2.2.2.2))
def loO (c:L0):SM (ForInStep L0):=do
 let c1<-forIn [0:a.size+b.size] ((none,c.2.1,c.2.2.1,c.2.2.2.1,0,0):L1) fun _ c1=>loI a b c.2.2.2.2 c1
 match c1.1 with
 | some r=>pure (.done (some r,c1.2.1,c1.2.2.1,c1.2.2.2.1,c.2.2.2.2))
 | none=>do
  liftM (rule "list.sort.gallop")
  let c2<-forIn [0:a.size+b.size] ((none,c1.2.1,c1.2.2.1,c1.2.2.2.1,c.2.2.2.2+1,c1.2.2.2.2.1,c1.2.2.2.2.2):LS) fun _ c2=>loG a b c2
  match c2.1 with
  | some r=>pure (.done (some r,c2.2.1,c2.2.2.1,c2.2.2.2.1,c2.2.2.2.2.1))
  | none=>do
   aE (c2.2.2.2.2.1+1)
   pure (.yield (none,c2.2.1,c2.2.2.1,c2.2.2.2.1,c2.2.2.2.2.1+1))
theorem vq:j4 a b=(do
  liftM (rule "list.sort.merge-lo")
  let p<-elem' b 0
  if (1 == b.size)=true then pure (dn a b #[p] 0 1)
  else if (0+1 == a.size)=true then pure (la a b #[p] 0 1)
  else do
   let s<-get
   let c<-forIn [0:a.size+b.size] ((none,#[p],0,1,gallopOf s):L0) fun _ c=>loO a b c
   match c.1 with
   | some r=>pure r
   | none=>unsupported "internal:list.sort.merge-bound"):=by
 rw [rP]
 refine congrArg (bind _) (funext fun _u => ?_)
 refine congrArg (bind _) (funext fun p => ?_)
 show (if (1 == b.size)=true then _ else _)=_
 refine congrArg (ite _ _) ?_
 show (if (0+1 == a.size)=true then _ else _)=_
 refine congrArg (ite _ _) ?_
 refine congrArg (bind _) (funext fun s => ?_)
 refine congr (congrArg bind ?_) (funext fun c => ?_)
 ·refine congrArg (forIn _ _) (funext fun x=>funext fun c => ?_)
  unfold loO
  refine congr (congrArg bind ?_) (funext fun c1 => ?_)
  ·refine congrArg (forIn _ _) (funext fun x=>funext fun c1 => ?_)
   rfl
  ·obtain ⟨r,o1,i1,j1,n1,m1⟩:=c1
   cases r with
   | some r=>rfl
   | none =>
    refine congrArg (bind _) (funext fun _v => ?_)
    refine congr (congrArg bind ?_) (funext fun c2 => ?_)
    ·refine congrArg (forIn _ _) (funext fun x=>funext fun c2 => ?_)
     obtain ⟨r2,o2,i2,j2,g2,n2,m2⟩:=c2
     unfold loG
     by_cases hg:g2>1
     ·refine ĩ (if_pos hg) (ĩ ?_ (if_pos hg).symm)
      rfl
     ·refine ĩ (if_neg hg) (ĩ ?_ (if_neg hg).symm)
      rfl
    ·obtain ⟨r2,o2,i2,j2,g2,n2,m2⟩:=c2
     cases r2<;>rfl
 ·obtain ⟨r,o1,i1,j1,g1⟩:=c
  cases r<;>rfl
end
end TS
namespace TS
open PySem PyProof.Rows
theorem oJ (a:Array Keyed) (i:Nat):(a.extract i a.size).toList=a.toList.drop i:=by
 rw [Š,ľ,ď (by rw [ú,Ã];exact ñ _)]
theorem Kb (a:Array Keyed) (i k:Nat):(a.extract i (i+k)).toList=(a.toList.drop i).take k:=by
 rw [Š,ľ,show i+k - i=k by omega]
theorem yQ (a b out:Array Keyed) (i j:Nat):(dn a b out i j).toList=out.toList++a.toList.drop i++b.toList.drop j:=by
 show (out++a.extract i a.size++b.extract j b.size).toList=_
 rw [õ,õ,oJ,oJ]
theorem Fw (a b out:Array Keyed) (i j:Nat):(la a b out i j).toList=out.toList++b.toList.drop j++a.toList.drop i:=by
 show (out++b.extract j b.size++a.extract i a.size).toList=_
 rw [õ,õ,oJ,oJ]
theorem jo {a:Array Keyed} {i:Nat} (h:i<a.size):∃ x,a[i]? = some x/\x∈a.toList/\(a.toList.drop i).take 1=[x]/\x∈a.toList.drop i:=by
 have h':i<a.toList.length:=by rw [Ã];exact h
 refine ⟨a[i],getElem?_pos a i h,by simp,?_,?_⟩
 ·rw [đ h'];simp
 ·rw [đ h'];simp
theorem kj {l:List Keyed} {i:Nat} {x:Keyed} (hs:Srt l) (h:(l.drop i).take 1=[x]):∀ y∈l.drop i,le x y:=by
 intro y hy
 have sd:Srt (l.drop i):=hs.sublist ↥89
 cases e:l.drop i with
 | nil=>rw [e] at hy;cases hy
 | cons z r =>
  rw [e] at h hy sd
  have hz:z=x:=by simpa using h
  subst hz
  rcases Ö.mp hy with rfl | hy
  ·exact í _
  ·exact (List.pairwise_cons.mp sd).1 y hy
structure MG (a b:Array Keyed):Prop where
 ia:IK a.toList
 ib:IK b.toList
 sa:Srt a.toList
 sb:Srt b.toList
 last:∀ i,i+1=a.size->∀ x∈a.toList.drop i,∀ y∈b.toList,le y x
structure Iv (a b out:Array Keyed) (i j:Nat):Prop where
 mi:MI a.toList b.toList out.toList i j
 hi:i+1<a.size
 hj:j<b.size
def Fn (a b r:Array Keyed):Prop:=r.toList.Perm (a.toList++b.toList)/\Srt r.toList
def Ck (a b:Array Keyed) (st:SortSt) (n:Nat):ForInStep LS->SortSt->Prop
 | .done c,st'=>↥43/\(↥46\/(c.1=none/\Iv a b c.2.1 c.2.2.1 c.2.2.2.1/\n<c.2.1.size))
 | .yield c,st'=>↥43/\c.1=none/\Iv a b c.2.1 c.2.2.1 c.2.2.2.1/\n<c.2.1.size
def M0 (a b:Array Keyed) (st:SortSt) (n:Nat):ForInStep L1->SortSt->Prop
 | .done c,st'=>st'=st/\(↥46\/(c.1=none/\Iv a b c.2.1 c.2.2.1 c.2.2.2.1/\n<c.2.1.size))
 | .yield c,st'=>st'=st/\c.1=none/\Iv a b c.2.1 c.2.2.1 c.2.2.2.1/\n<c.2.1.size
section
variable {prog:Program} {w:World} {A:Around} {E:Value->Shared->Prop} {s:Shared} {a b out:Array Keyed} {i j n g ac bc:Nat} {st st':SortSt}
theorem MI.pushP (M:MG a b) (h:MI a.toList b.toList out.toList i j) {x:Keyed} (hi:i<a.size) (e:(a.toList.drop i).take 1=[x]) (hx:∀ y∈b.toList.drop j,le x y):MI a.toList b.toList (out.push x).toList (i+1) j:=by
 have:=h.takeP (k:=1) M.sa (by rw [Ã];omega) (by rw [e];intro z hz;rw [ï.mp hz];exact hx)
 rw [e] at this
 rw [ņ]
 exact this
theorem MI.pushQ (M:MG a b) (h:MI a.toList b.toList out.toList i j) {x:Keyed} (hj:j<b.size) (e:(b.toList.drop j).take 1=[x]) (hx:∀ y∈a.toList.drop i,le x y):MI a.toList b.toList (out.push x).toList i (j+1):=by
 have:=h.takeQ (k:=1) M.sb (by rw [Ã];omega) (by rw [e];intro z hz;rw [ï.mp hz];exact hx)
 rw [e] at this
 rw [ņ]
 exact this
theorem BI (M:MG a b) (h:MI a.toList b.toList out.toList i j) (hi:i+1=a.size):Fn a b (la a b out i j):=by
 unfold Fn
 rw [Fw]
 exact h.last M.sa M.sb (M.last i hi)
theorem uk (M:MG a b) (h:MI a.toList b.toList out.toList i j) (hj:j=b.size):Fn a b (dn a b out i j):=by
 unfold Fn
 rw [yQ]
 exact h.doneQ M.sa (by rw [Ã];exact hj)
theorem J6 (M:MG a b) (h:MI a.toList b.toList out.toList i j) (hi:i=a.size):Fn a b (dn a b out i j):=by
 unfold Fn
 rw [yQ]
 exact h.doneP M.sb (by rw [Ã];exact hi)
theorem Cm (M:MG a b) (hG:∃ g,st'=setG st g) (h:Iv a b out i j) (hn:n<=out.size) (hx:∀ x,(a.toList.drop i).take 1=[x]->∀ y∈b.toList.drop j,le x y):wpS ↥3 A E s (loD a b out i j g ac bc) (Ck a b st n) st':=by
 obtain ⟨x,e1,e2,e3,e4⟩:=jo (a:=a) (i:=i) (by have:=h.hi;omega)
 have mi:=h.mi.pushP M (by have:=h.hi;omega) e3 (hx x e3)
 have hs:n<(out.push x).size:=by rw [Ď];omega
 unfold loD
 refine wpS_bind (ay e1 ?_)
 by_cases g1:i+1+1=a.size
 ·rw [if_pos ↥16]
  exact wpS_pure ⟨hG,.inl ⟨_,rfl,BI M mi g1⟩⟩
 ·rw [if_neg ↥16]
  have iv:Iv a b (out.push x) (i+1) j:=⟨mi,by have:=h.hi;omega,h.hj⟩
  split
  ·exact wpS_pure ⟨hG,.inr ⟨rfl,iv,hs⟩⟩
  ·exact wpS_pure ⟨hG,rfl,iv,hs⟩
theorem nN (a:Array Keyed) (i:Nat):(a.toList.drop i).take (a.size - i)=a.toList.drop i:=ď (by rw [ú,Ã];exact ñ _)
theorem Hd (M:MG a b) (hk:kindOf st=oneType') (hG:∃ g,st'=setG st g) (h:Iv a b out i j) (hn:n<=out.size):wpS ↥3 A E s (loC a b out i j g ac bc) (Ck a b st n) st':=by
 obtain ⟨y,e1,e2,e3,e4⟩:=jo (a:=a) (i:=i) (by have:=h.hi;omega)
 have hk':kindOf st'=oneType':=by obtain ⟨g,rfl⟩:=hG;exact hk
 have hj:=h.hj
 unfold loC
 refine wpS_bind (ay e1 ?_)
 refine wpS_bind (cO hk' (M.ia y e2) M.ib ⋯ ⋯ (by rw [nN];exact M.sb.sublist ↥89) fun k hk1 t1 t2 => ?_)
 rw [nN] at t1 t2
 simp only [if_true] at t1 t2
 by_cases g0:k>0
 ·simp only [if_pos g0]
  have mi:MI a.toList b.toList (out++b.extract j (j+k)).toList i (j+k):=by
   rw [õ,Kb]
   refine h.mi.takeQ M.sb (by rw [Ã];omega) fun x hx z hz => ?_
   have q1:=t1 x hx
   have q2:kv y<=kv z:=kj M.sa e3 z hz
   show kv x<=kv z
   omega
  have hs:n<=(out++b.extract j (j+k)).size:=by rw [ś];omega
  by_cases g1:j+k=b.size
  ·rw [if_pos ↥16]
   exact wpS_pure ⟨hG,.inl ⟨_,rfl,uk M mi g1⟩⟩
  ·rw [if_neg ↥16]
   refine Cm M hG ⟨mi,h.hi,⋯⟩ hs fun x hx z hz => ?_
   rw [e3] at hx
   have hx':y=x:=by simpa using hx
   subst hx'
   exact t2 z (by rw [Éb];exact hz)
 ·simp only [if_neg g0]
  have k0:k=0:=⋯
  subst k0
  refine Cm M hG h hn fun x hx z hz => ?_
  rw [e3] at hx
  have hx':y=x:=by simpa using hx
  subst hx'
  exact t2 z (by rw [ĺ];exact hz)
theorem Cn (M:MG a b) (hk:kindOf st=oneType') (hG:∃ g,st'=setG st g) (h:Iv a b out i j) (hn:n<=out.size) (hx:∀ x,(b.toList.drop j).take 1=[x]->∀ y∈a.toList.drop i,le x y):wpS ↥3 A E s (loB a b out i j g ac bc) (Ck a b st n) st':=by
 have hj:=h.hj
 obtain ⟨y,e1,e2,e3,e4⟩:=jo (a:=b) (i:=j) hj
 have mi:=h.mi.pushQ M hj e3 (hx y e3)
 have hs:n<=(out.push y).size:=by rw [Ď];omega
 unfold loB
 refine wpS_bind (ay e1 ?_)
 by_cases g1:j+1=b.size
 ·rw [if_pos ↥16]
  exact wpS_pure ⟨hG,.inl ⟨_,rfl,uk M mi g1⟩⟩
 ·rw [if_neg ↥16]
  exact Hd M hk hG ⟨mi,h.hi,⋯⟩ hs
theorem He (M:MG a b) (hk:kindOf st=oneType') (hG:∃ g,st'=setG st g) (h:Iv a b out i j) (hn:n<=out.size):wpS ↥3 A E s (loA a b out i j g ac bc) (Ck a b st n) st':=by
 have hj:=h.hj
 have hi:=h.hi
 obtain ⟨y,e1,e2,e3,e4⟩:=jo (a:=b) (i:=j) hj
 obtain ⟨g0,rfl⟩:=hG
 have hG:∃ g',setG (setG st g0) g=setG st g':=⟨g,rfl⟩
 unfold loA
 rw [bx]
 refine wpS_bind (wpS_modify ?_)
 refine wpS_bind (ay e1 ?_)
 refine wpS_bind (cO (show kindOf (setG (setG st g0) g)=oneType' from hk) (M.ib y e2) M.ia ⋯ ⋯ (by rw [nN];exact M.sa.sublist ↥89) fun k hk1 t1 t2 => ?_)
 rw [nN] at t1 t2
 simp only [Ô,if_false] at t1 t2
 by_cases gk:k>0
 ·simp only [if_pos gk]
  have mi:MI a.toList b.toList (out++a.extract i (i+k)).toList (i+k) j:=by
   rw [õ,Kb]
   refine h.mi.takeP M.sa (by rw [Ã];omega) fun x hx z hz => ?_
   have q1:=t1 x hx
   have q2:kv y<=kv z:=kj M.sb e3 z hz
   show kv x<=kv z
   omega
  have hs:n<=(out++a.extract i (i+k)).size:=by rw [ś];omega
  by_cases g1:i+k+1=a.size
  ·rw [if_pos ↥16]
   exact wpS_pure ⟨hG,.inl ⟨_,rfl,BI M mi g1⟩⟩
  ·rw [if_neg ↥16]
   by_cases g2:i+k=a.size
   ·rw [if_pos ↥110]
    exact wpS_pure ⟨hG,.inl ⟨_,rfl,J6 M mi g2⟩⟩
   ·rw [if_neg ↥110]
    refine Cn M hk hG ⟨mi,⋯,hj⟩ hs fun x hx z hz => ?_
    rw [e3] at hx
    have hx':y=x:=by simpa using hx
    subst hx'
    have:=t2 z (by rw [Éb];exact hz)
    show kv y<=kv z
    omega
 ·simp only [if_neg gk]
  have k0:k=0:=⋯
  subst k0
  refine Cn M hk hG h hn fun x hx z hz => ?_
  rw [e3] at hx
  have hx':y=x:=by simpa using hx
  subst hx'
  have:=t2 z (by rw [ĺ];exact hz)
  show kv y<=kv z
  omega
theorem Hb (M:MG a b) (hk:kindOf st=oneType') (h:Iv a b out i j) (mg:Nat) (hn:n<=out.size):wpS ↥3 A E s (loI a b mg (none,out,i,j,ac,bc)) (M0 a b st n) st:=by
 have hj:=h.hj
 have hi:=h.hi
 obtain ⟨y,e1,e2,e3,e4⟩:=jo (a:=b) (i:=j) hj
 obtain ⟨x,f1,f2,f3,f4⟩:=jo (a:=a) (i:=i) ⋯
 unfold loI
 dsimp only
 refine wpS_bind (ay e1 ?_)
 refine wpS_bind (ay f1 ?_)
 refine wpS_bind (kA hk (M.ib y e2) (M.ia x f2) ?_)
 by_cases hl:kv y<kv x
 ·simp only [hl,decide_true,if_true]
  have mi:=h.mi.pushQ M hj e3 (fun z hz=>by
   have q2:kv x<=kv z:=kj M.sa f3 z hz
   show kv y<=kv z
   omega)
  have hs:n<(out.push y).size:=by rw [Ď];omega
  refine wpS_bind (ay e1 ?_)
  by_cases g1:j+1=b.size
  ·rw [if_pos ↥16]
   exact wpS_pure ⟨rfl,.inl ⟨_,rfl,uk M mi g1⟩⟩
  ·rw [if_neg ↥16]
   have iv:Iv a b (out.push y) i (j+1):=⟨mi,hi,⋯⟩
   split
   ·exact wpS_pure ⟨rfl,.inr ⟨rfl,iv,hs⟩⟩
   ·exact wpS_pure ⟨rfl,rfl,iv,hs⟩
 ·simp only [hl,decide_false,Ô,if_false]
  have mi:=h.mi.pushP M ⋯ f3 (fun z hz=>by
   have q2:kv y<=kv z:=kj M.sb e3 z hz
   show kv x<=kv z
   omega)
  have hs:n<(out.push x).size:=by rw [Ď];omega
  refine wpS_bind (ay f1 ?_)
  by_cases g1:i+1+1=a.size
  ·rw [if_pos ↥16]
   exact wpS_pure ⟨rfl,.inl ⟨_,rfl,BI M mi g1⟩⟩
  ·rw [if_neg ↥16]
   have iv:Iv a b (out.push x) (i+1) j:=⟨mi,⋯,hj⟩
   split
   ·exact wpS_pure ⟨rfl,.inr ⟨rfl,iv,hs⟩⟩
   ·exact wpS_pure ⟨rfl,rfl,iv,hs⟩
theorem Iv.lt (h:Iv a b out i j):out.size<a.size+b.size:=by
 have:=h.mi.len
 rw [Ã] at this
 have:=h.hi
 have:=h.hj
 omega
def MZ (a b:Array Keyed) (st:SortSt) (n:Nat):ForInStep L0->SortSt->Prop
 | .done c,st'=>↥43/\∃ r,c.1=some r/\Fn a b r
 | .yield c,st'=>↥43/\c.1=none/\Iv a b c.2.1 c.2.2.1 c.2.2.2.1/\n<c.2.1.size
theorem Ha (M:MG a b) (hk:kindOf st=oneType') (hG:∃ g,st'=setG st g) (h:Iv a b out i j) (hn:n<=out.size):wpS ↥3 A E s (loO a b (none,out,i,j,g)) (MZ a b st n) st':=by
 have hk':kindOf st'=oneType':=by obtain ⟨g,rfl⟩:=hG;exact hk
 unfold loO
 dsimp only
 refine wpS_bind (wpS_mono (wpS_forRange (I:=fun x c s2=>s2=st'/\c.1=none/\Iv a b c.2.1 c.2.2.1 c.2.2.2.1/\out.size+x<=c.2.1.size)
  (Q:=fun c s2=>s2=st'/\(↥46\/(c.1=none/\Iv a b c.2.1 c.2.2.1 c.2.2.2.1/\out.size<c.2.1.size))) ?step ?fin ⟨rfl,rfl,h,ñ _⟩) ?post)
 case fin =>
  rintro c s2 ⟨rfl,hc,iv,hx⟩
  have:=iv.lt
  omega
 case step =>
  rintro x c s2 _ hx ⟨rfl,hc,iv,hs⟩
  obtain ⟨r,o1,i1,j1,a1,b1⟩:=c
  cases hc
  refine wpS_mono (Hb (st:=s2) M hk' iv g hs) fun r s3 hp => ?_
  cases r with
  | done c' =>
   obtain ⟨rfl,hp⟩:=hp
   refine ⟨rfl,?_⟩
   rcases hp with hp | ⟨p1,p2,p3⟩
   ·exact .inl hp
   ·exact .inr ⟨p1,p2,⋯⟩
  | yield c' =>
   obtain ⟨rfl,p1,p2,p3⟩:=hp
   exact ⟨rfl,p1,p2,⋯⟩
 case post =>
  rintro c s2 ⟨rfl,hp⟩
  obtain ⟨r,o1,i1,j1,a1,b1⟩:=c
  rcases hp with ⟨r',hr,hf⟩ | ⟨hr,iv,hs⟩
  ·cases hr
   exact wpS_pure ⟨hG,r',rfl,hf⟩
  ·cases hr
   dsimp only
   refine wpS_bind (wpS_lift (wpAny_rule ⟨rfl,?_⟩))
   refine wpS_bind (wpS_mono (wpS_forRange (I:=fun x c s3=>(∃ g,s3=setG st g)/\c.1=none/\Iv a b c.2.1 c.2.2.1 c.2.2.2.1/\o1.size+x<=c.2.1.size)
    (Q:=fun c s3=>(∃ g,s3=setG st g)/\(↥46\/(c.1=none/\Iv a b c.2.1 c.2.2.1 c.2.2.2.1/\o1.size<c.2.1.size))) ?step2 ?fin2 ⟨hG,rfl,iv,ñ _⟩) ?post2)
   case fin2 =>
    rintro c s3 ⟨hg,hc,iv2,hx⟩
    have:=iv2.lt
    omega
   case step2 =>
    rintro x c s3 _ hx ⟨hg,hc,iv2,hs2⟩
    obtain ⟨r,o2,i2,j2,g2,a2,b2⟩:=c
    cases hc
    have fin:∀ g',wpS ↥3 A E s (loA a b o2 i2 j2 g' a2 b2) (fun r st'=>match r with
      | .done c'=>↥43/\((∃ r,c'.1=some r/\Fn a b r)\/(c'.1=none/\Iv a b c'.2.1 c'.2.2.1 c'.2.2.2.1/\o1.size<c'.2.1.size))
      | .yield c'=>↥43/\c'.1=none/\Iv a b c'.2.1 c'.2.2.1 c'.2.2.2.1/\o1.size+(x+1)<=c'.2.1.size) s3:=fun g'=>by
     refine wpS_mono (He (n:=o1.size+x) M hk hg iv2 hs2) fun r s4 hp => ?_
     cases r with
     | done c' =>
      refine ⟨hp.1,?_⟩
      rcases hp.2 with hp | ⟨p1,p2,p3⟩
      ·exact .inl hp
      ·exact .inr ⟨p1,p2,⋯⟩
     | yield c'=>exact ⟨hp.1,hp.2.1,hp.2.2.1,by have:=hp.2.2.2;omega⟩
    unfold loG
    dsimp only
    split
    ·exact wpS_mono (fin _) fun r s4 hp=>by cases r<;>exact hp
    ·exact wpS_mono (fin _) fun r s4 hp=>by cases r<;>exact hp
   case post2 =>
    rintro c s3 ⟨hg,hp⟩
    obtain ⟨r,o2,i2,j2,g2,a2,b2⟩:=c
    rcases hp with ⟨r',hr,hf⟩ | ⟨hr,iv2,hs2⟩
    ·cases hr
     exact wpS_pure ⟨hg,r',rfl,hf⟩
    ·cases hr
     dsimp only
     rw [bx]
     obtain ⟨g3,rfl⟩:=hg
     exact wpS_bind (wpS_modify (wpS_pure ⟨⟨_,rfl⟩,rfl,iv2,by show n<o2.size;dsimp only at hs hs2;omega⟩))
theorem qR {Q:Array Keyed->SortSt->Prop} (M:MG a b) (hk:kindOf st=oneType') (ha:1<=a.size) (hb:1<=b.size) (h0:∀ x,(b.toList.drop 0).take 1=[x]->∀ y∈a.toList,le x y)
  (h:∀ out g,Fn a b out->Q out (setG st g)):wpS ↥3 A E s (j4 a b) Q st:=by
 obtain ⟨p,e1,e2,e3,e4⟩:=jo (a:=b) (i:=0) ⋯
 have hst:st=setG st (gallopOf st):=rfl
 have m0:MI a.toList b.toList ([]:List Keyed) 0 0:=⟨Ā _,Ā _,rfl,by simp,Ŷ,fun x hx=>(nomatch hx),fun x hx=>(nomatch hx)⟩
 have mi:MI a.toList b.toList (#[p]:Array Keyed).toList 0 1:=by
  have:=MI.pushQ (out := #[]) M m0 ⋯ e3 (by rw [ĺ];exact h0 p e3)
  exact this
 rw [vq]
 refine wpS_bind (wpS_lift (wpAny_rule ⟨rfl,?_⟩))
 refine wpS_bind (ay e1 ?_)
 by_cases g1:1=b.size
 ·rw [if_pos ↥16]
  exact wpS_pure (h _ (gallopOf st) (uk M mi g1))
 ·rw [if_neg ↥16]
  by_cases g2:0+1=a.size
  ·rw [if_pos ↥110]
   exact wpS_pure (h _ (gallopOf st) (BI M mi g2))
  ·rw [if_neg ↥110]
   refine wpS_bind (wpS_get ?_)
   refine wpS_bind (wpS_mono (wpS_forRange (I:=fun x c s2=>(∃ g,s2=setG st g)/\c.1=none/\Iv a b c.2.1 c.2.2.1 c.2.2.2.1/\x+1<=c.2.1.size)
    (Q:=fun c s2=>(∃ g,s2=setG st g)/\∃ r,c.1=some r/\Fn a b r) ?step ?fin ⟨⟨_,hst⟩,rfl,(⟨mi,⋯,⋯⟩:Iv a b #[p] 0 1),ñ _⟩) ?post)
   case fin =>
    rintro c s2 ⟨_,_,iv,hx⟩
    have:=iv.lt
    omega
   case step =>
    rintro x c s2 _ hx ⟨hg,hc,iv,hs⟩
    obtain ⟨r,o1,i1,j1,g1⟩:=c
    cases hc
    refine wpS_mono (Ha (n:=x+1) M hk hg iv hs) fun r s3 hp => ?_
    cases r with
    | done c'=>exact hp
    | yield c'=>exact ⟨hp.1,hp.2.1,hp.2.2.1,by have:=hp.2.2.2;omega⟩
   case post =>
    rintro c s2 ⟨⟨g,rfl⟩,r,hr,hf⟩
    rw [hr]
    exact wpS_pure (h r g hf)
end
end TS
namespace TS
open PySem PyProof.Rows
theorem rQ (a b:Array Keyed):j5 a b=(do
 rule "list.sort.merge-hi"
 let total:=a.size+b.size
 let done (out:Array Keyed) (na nb:Nat):=a.extract 0 na++b.extract 0 nb++out.reverse
 let firstOfB (out:Array Keyed) (na nb:Nat):=b.extract 0 nb++a.extract 0 na++out.reverse
 let mut na:=a.size - 1
 let mut nb:=b.size
 let mut out:Array Keyed := #[<- elem' a na]
 if na == 0 then return done out na nb
 if nb == 1 then return firstOfB out na nb
 let mut minGallop:=gallopOf (<- get)
 for _ in [0:total] do
  let mut acount:=0
  let mut bcount:=0
  for _ in [0:total] do
   let some aWins<-lt' (<- elem' b (nb - 1)) (<- elem' a (na - 1)) | return done out na nb
   if aWins then
    na:=na - 1;out:=out.push (<- elem' a na);acount:=acount+1;bcount:=0
    if na == 0 then return done out na nb
    if acount>=minGallop then break
   else
    nb:=nb - 1;out:=out.push (<- elem' b nb);bcount:=bcount+1;acount:=0
    if nb == 1 then return firstOfB out na nb
    if bcount>=minGallop then break
  rule "list.sort.gallop"
  minGallop:=minGallop+1
  for _ in [0:total] do
   if minGallop>1 then minGallop:=minGallop - 1
   aE minGallop
   let some at_<-cu false (<- elem' b (nb - 1)) a 0 na (na - 1) | return done out na nb
   let k:=na - at_
   acount:=k
   if k>0 then
    out:=out++(a.extract at_ na).reverse;na:=at_
    if na == 0 then return done out na nb
   nb:=nb - 1;out:=out.push (<- elem' b nb)
   if nb == 1 then return firstOfB out na nb
   let some at_<-cu true (<- elem' a (na - 1)) b 0 nb (nb - 1) | return done out na nb
   let k:=nb - at_
   bcount:=k
   if k>0 then
    out:=out++(b.extract at_ nb).reverse;nb:=at_
    if nb == 1 then return firstOfB out na nb
    if nb == 0 then return done out na nb
   na:=na - 1;out:=out.push (<- elem' a na)
   if na == 0 then return done out na nb
   if acount<7&&bcount<7 then break
  minGallop:=minGallop+1
  aE minGallop
 unsupported "internal:list.sort.merge-bound"):=rfl
abbrev HS:=Option (Array Keyed)×Nat×Nat×Array Keyed×Nat×Nat×Nat
abbrev H1:=Option (Array Keyed)×Nat×Nat×Array Keyed×Nat×Nat
abbrev H0:=Option (Array Keyed)×Nat×Nat×Array Keyed×Nat
section
variable (a b:Array Keyed)
abbrev dh (out:Array Keyed) (na nb:Nat):Array Keyed:=a.extract 0 na++b.extract 0 nb++out.reverse
abbrev fb (out:Array Keyed) (na nb:Nat):Array Keyed:=b.extract 0 nb++a.extract 0 na++out.reverse
def hiD (out:Array Keyed) (na nb g ac bc:Nat):SM (ForInStep HS):=do
 let x<-elem' a (na - 1)
 if (na - 1 == 0)=true then pure (.done (some (dh a b (out.push x) (na - 1) nb),na - 1,nb,out.push x,g,ac,bc))
 else if (decide (ac<7)&&decide (bc<7))=true then pure (.done (none,na - 1,nb,out.push x,g,ac,bc))
 else pure (.yield (none,na - 1,nb,out.push x,g,ac,bc))
def hiC (out:Array Keyed) (na nb g ac bc:Nat):SM (ForInStep HS):=do
 let y<-elem' a (na - 1)
 let r<-cu true y b 0 nb (nb - 1)
 match r with
 | some t =>
  if nb - t>0 then
   if (t == 1)=true then pure (.done (some (fb a b (out++(b.extract t nb).reverse) na t),na,t,out++(b.extract t nb).reverse,g,ac,nb - t))
   else if (t == 0)=true then pure (.done (some (dh a b (out++(b.extract t nb).reverse) na t),na,t,out++(b.extract t nb).reverse,g,ac,nb - t))
   else hiD a b (out++(b.extract t nb).reverse) na t g ac (nb - t)
  else hiD a b out na nb g ac (nb - t)
 | _=>pure (.done (some (dh a b out na nb),na,nb,out,g,ac,bc))
def hiB (out:Array Keyed) (na nb g ac bc:Nat):SM (ForInStep HS):=do
 let y<-elem' b (nb - 1)
 if (nb - 1 == 1)=true then pure (.done (some (fb a b (out.push y) na (nb - 1)),na,nb - 1,out.push y,g,ac,bc))
 else hiC a b (out.push y) na (nb - 1) g ac bc
def hiA (out:Array Keyed) (na nb g ac bc:Nat):SM (ForInStep HS):=do
 aE g
 let y<-elem' b (nb - 1)
 let r<-cu false y a 0 na (na - 1)
 match r with
 | some t =>
  if na - t>0 then
   if (t == 0)=true then pure (.done (some (dh a b (out++(a.extract t na).reverse) t nb),t,nb,out++(a.extract t na).reverse,g,na - t,bc))
   else hiB a b (out++(a.extract t na).reverse) t nb g (na - t) bc
  else hiB a b out na nb g (na - t) bc
 | _=>pure (.done (some (dh a b out na nb),na,nb,out,g,ac,bc))
def hiG (c:HS):SM (ForInStep HS) :=
 if c.2.2.2.2.1>1 then hiA a b c.2.2.2.1 c.2.1 c.2.2.1 (c.2.2.2.2.1 - 1) c.2.2.2.2.2.1 c.2.2.2.2.2.2
 else hiA a b c.2.2.2.1 c.2.1 c.2.2.1 c.2.2.2.2.1 c.2.2.2.2.2.1 c.2.2.2.2.2.2
def hiI (mg:Nat) (c:H1):SM (ForInStep H1):=do
 let y<-elem' b (c.2.2.1 - 1)
 let x<-elem' a (c.2.1 - 1)
 let r<-lt' y x
 match r with
 | some aw =>
  if aw=true then do
   let x<-elem' a (c.2.1 - 1)
   if (c.2.1 - 1 == 0)=true then pure (.done (some (dh a b (c.2.2.2.1.push x) (c.2.1 - 1) c.2.2.1),c.2.1 - 1,c.2.2.1,c.2.2.2.1.push x,c.2.2.2.2.1+1,0))
   else if c.2.2.2.2.1+1>=mg then pure (.done (none,c.2.1 - 1,c.2.2.1,c.2.2.2.1.push x,c.2.2.2.2.1+1,0))
   else pure (.yield (none,c.2.1 - 1,c.2.2.1,c.2.2.2.1.push x,c.2.2.2.2.1+1,0))
  else do
   let y<-elem' b (c.2.2.1 - 1)
   if (c.2.2.1 - 1 == 1)=true then pure (.done (some (fb a b (c.2.2.2.1.push y) c.2.1 (c.2.2.1 - 1)),c.2.1,c.2.2.1 - 1,c.2.2.2.1.push y,0,c.2.2.2.2.2+1))
   else if c.2.2.2.2.2+1>=mg then pure (.done (none,c.2.1,c.2.2.1 - 1,c.2.2.2.1.push y,0,c.2.2.2.2.2+1))
   else pure (.yield (none,c.2.1,c.2.2.1 - 1,c.2.2.2.1.push y,0,c.2.2.2.2.2+1))
 | _=>pure (.done (some (dh a b c.2.2.2.1 c.2.1 c.2.2.1),c.2.1,c.2.2.1,c.2.2.2.1,c.2.2.2.2.1,c.2.2.2.2.2))
def hiO (c:H0):SM (ForInStep H0):=do
 let c1<-forIn [0:a.size+b.size] ((none,c.2.1,c.2.2.1,c.2.2.2.1,0,0):H1) fun _ c1=>hiI a b c.2.2.2.2 c1
 match c1.1 with
 | some r=>pure (.done (some r,c1.2.1,c1.2.2.1,c1.2.2.2.1,c.2.2.2.2))
 | none=>do
  liftM (rule "list.sort.gallop")
  let c2<-forIn [0:a.size+b.size] ((none,c1.2.1,c1.2.2.1,c1.2.2.2.1,c.2.2.2.2+1,c1.2.2.2.2.1,c1.2.2.2.2.2):HS) fun _ c2=>hiG a b c2
  match c2.1 with
  | some r=>pure (.done (some r,c2.2.1,c2.2.2.1,c2.2.2.2.1,c2.2.2.2.2.1))
  | none=>do
   aE (c2.2.2.2.2.1+1)
   pure (.yield (none,c2.2.1,c2.2.2.1,c2.2.2.2.1,c2.2.2.2.2.1+1))
theorem vt:j5 a b=(do
  liftM (rule "list.sort.merge-hi")
  let p<-elem' a (a.size - 1)
  if (a.size - 1 == 0)=true then pure (dh a b #[p] (a.size - 1) b.size)
  else if (b.size == 1)=true then pure (fb a b #[p] (a.size - 1) b.size)
  else do
   let s<-get
   let c<-forIn [0:a.size+b.size] ((none,a.size - 1,b.size,#[p],gallopOf s):H0) fun _ c=>hiO a b c
   match c.1 with
   | some r=>pure r
   | none=>unsupported "internal:list.sort.merge-bound"):=by
 rw [rQ]
 refine congrArg (bind _) (funext fun _u => ?_)
 refine congrArg (bind _) (funext fun p => ?_)
 show (if (a.size - 1 == 0)=true then _ else _)=_
 refine congrArg (ite _ _) ?_
 show (if (b.size == 1)=true then _ else _)=_
 refine congrArg (ite _ _) ?_
 refine congrArg (bind _) (funext fun s => ?_)
 refine congr (congrArg bind ?_) (funext fun c => ?_)
 ·refine congrArg (forIn _ _) (funext fun x=>funext fun c => ?_)
  unfold hiO
  refine congr (congrArg bind ?_) (funext fun c1 => ?_)
  ·refine congrArg (forIn _ _) (funext fun x=>funext fun c1 => ?_)
   rfl
  ·obtain ⟨r,i1,j1,o1,n1,m1⟩:=c1
   cases r with
   | some r=>rfl
   | none =>
    refine congrArg (bind _) (funext fun _v => ?_)
    refine congr (congrArg bind ?_) (funext fun c2 => ?_)
    ·refine congrArg (forIn _ _) (funext fun x=>funext fun c2 => ?_)
     obtain ⟨r2,i2,j2,o2,g2,n2,m2⟩:=c2
     unfold hiG
     by_cases hg:g2>1
     ·refine ĩ (if_pos hg) (ĩ ?_ (if_pos hg).symm)
      rfl
     ·refine ĩ (if_neg hg) (ĩ ?_ (if_neg hg).symm)
      rfl
    ·obtain ⟨r2,i2,j2,o2,g2,n2,m2⟩:=c2
     cases r2<;>rfl
 ·obtain ⟨r,i1,j1,o1,g1⟩:=c
  cases r<;>rfl
end
end TS
namespace TS
open PySem PyProof.Rows
structure HI (P Q O:List Keyed) (i j:Nat):Prop where
 hi:i<=P.length
 hj:j<=Q.length
 len:O.length+i+j=P.length+Q.length
 perm:(P.take i++Q.take j++O).Perm (P++Q)
 srt:Srt O
 lp:∀ x∈P.take i,∀ y∈O,le x y
 lq:∀ x∈Q.take j,∀ y∈O,le x y
section
variable {P Q O:List Keyed} {i j t:Nat}
theorem fT (l:List Keyed) {i t:Nat} (h:t<=i):l.take i=l.take t++(l.take i).drop t:=by
 conv=>lhs;rw [<- Ħ t (l.take i)]
 rw [š,Áa h]
theorem HI.takeP (h:HI P Q O i j) (sp:Srt P) (ht:t<=i) (hx:∀ x∈Q.take j,∀ y∈(P.take i).drop t,le x y):HI P Q ((P.take i).drop t++O) t j:=by
 have hi:=h.hi
 have sd:Srt (P.take i):=sp.sublist ↥74
 have e:=fT P ht
 have sd':=sd
 rw [e] at sd'
 obtain ⟨s1,s2,s3⟩:=ß.mp sd'
 refine ⟨⋯,h.hj,?_,?_,?_,?_,?_⟩
 ·have:=h.len
  rw [Æ,ú,é]
  omega
 ·refine Ŕ ?_ h.perm
  conv=>rhs;rw [e]
  generalize (P.take i).drop t=T
  generalize P.take t=R
  generalize Q.take j=S
  have h1:(S++T).Perm (T++S):=Ŗ
  have h2:=(h1.append_left R).append_right O
  simpa using h2
 ·refine ß.mpr ⟨s2,h.srt,fun x hx y hy=>h.lp x ?_ y hy⟩
  rw [e]
  exact Ç _ hx
 ·intro x hx' y hy
  rcases È.mp hy with hy | hy
  ·exact s3 x hx' y hy
  ·refine h.lp x ?_ y hy
   rw [e]
   exact ð _ hx'
 ·intro x hx' y hy
  rcases È.mp hy with hy | hy
  ·exact hx x hx' y hy
  ·exact h.lq x hx' y hy
theorem HI.takeQ (h:HI P Q O i j) (sq:Srt Q) (ht:t<=j) (hx:∀ x∈P.take i,∀ y∈(Q.take j).drop t,le x y):HI P Q ((Q.take j).drop t++O) i t:=by
 have hj:=h.hj
 have sd:Srt (Q.take j):=sq.sublist ↥74
 have e:=fT Q ht
 have sd':=sd
 rw [e] at sd'
 obtain ⟨s1,s2,s3⟩:=ß.mp sd'
 refine ⟨h.hi,⋯,?_,?_,?_,?_,?_⟩
 ·have:=h.len
  rw [Æ,ú,é]
  omega
 ·refine Ŕ ?_ h.perm
  conv=>rhs;rw [e]
  simp
 ·refine ß.mpr ⟨s2,h.srt,fun x hx y hy=>h.lq x ?_ y hy⟩
  rw [e]
  exact Ç _ hx
 ·intro x hx' y hy
  rcases È.mp hy with hy | hy
  ·exact hx x hx' y hy
  ·exact h.lp x hx' y hy
 ·intro x hx' y hy
  rcases È.mp hy with hy | hy
  ·exact s3 x hx' y hy
  ·refine h.lq x ?_ y hy
   rw [e]
   exact ð _ hx'
theorem HI.doneP (h:HI P Q O i j) (sq:Srt Q) (hi:i=0):(P.take i++Q.take j++O).Perm (P++Q)/\Srt (P.take i++Q.take j++O):=by
 refine ⟨h.perm,?_⟩
 subst hi
 rw [Ãb,Ł]
 exact ß.mpr ⟨sq.sublist ↥74,h.srt,h.lq⟩
theorem HI.doneQ (h:HI P Q O i j) (sp:Srt P) (hj:j=0):(P.take i++Q.take j++O).Perm (P++Q)/\Srt (P.take i++Q.take j++O):=by
 refine ⟨h.perm,?_⟩
 subst hj
 rw [Ãb,ĭ]
 exact ß.mpr ⟨sp.sublist ↥74,h.srt,h.lp⟩
theorem HI.first (h:HI P Q O i j) (sp:Srt P) (sq:Srt Q) (hl:∀ x∈Q.take j,∀ y∈P,le x y):(Q.take j++P.take i++O).Perm (P++Q)/\Srt (Q.take j++P.take i++O):=by
 refine ⟨Ŕ ?_ h.perm,?_⟩
 ·exact Ŗ.append_right O
 ·refine ß.mpr ⟨ß.mpr ⟨sq.sublist ↥74,sp.sublist ↥74,fun x hx y hy=>hl x hx y (Ņ hy)⟩,h.srt,fun x hx y hy => ?_⟩
  rcases È.mp hx with hx | hx
  ·exact h.lq x hx y hy
  ·exact h.lp x hx y hy
end
theorem BL (a:Array Keyed) (i:Nat):(a.extract 0 i).toList=a.toList.take i:=by
 rw [Š,ľ,ĺ,Nat.sub_zero]
theorem oI (a:Array Keyed) (t i:Nat):(a.extract t i).toList=(a.toList.take i).drop t:=by
 rw [Š,ľ,Ãd]
theorem yR (a b out:Array Keyed) (i j:Nat):(dh a b out i j).toList=a.toList.take i++b.toList.take j++out.toList.reverse:=by
 show (a.extract 0 i++b.extract 0 j++out.reverse).toList=_
 rw [õ,õ,BL,BL,Ţ]
theorem FL (a b out:Array Keyed) (i j:Nat):(fb a b out i j).toList=b.toList.take j++a.toList.take i++out.toList.reverse:=by
 show (b.extract 0 j++a.extract 0 i++out.reverse).toList=_
 rw [õ,õ,BL,BL,Ţ]
theorem lG {a:Array Keyed} {i:Nat} (h0:0<i) (h:i<=a.size):∃ x,a[i - 1]? = some x/\x∈a.toList/\(a.toList.take i).drop (i - 1)=[x]:=by
 have h':i - 1<a.toList.length:=by rw [Ã];omega
 refine ⟨a[i - 1],getElem?_pos a (i - 1) ⋯,by simp,?_⟩
 rw [Ãd,show i - (i - 1)=1 by omega,đ h']
 simp
theorem oz {l:List Keyed} {i:Nat} {x:Keyed} (hs:Srt l) (h:(l.take i).drop (i - 1)=[x]):∀ y∈l.take i,le y x:=by
 intro y hy
 have sd:Srt (l.take i):=hs.sublist ↥74
 have e:=Ħ (i - 1) (l.take i)
 rw [h] at e
 rw [<- e] at sd hy
 rcases È.mp hy with hy | hy
 ·exact (ß.mp sd).2.2 y hy x (.head _)
 ·rw [ï.mp hy];exact í _
structure MH (a b:Array Keyed):Prop where
 ia:IK a.toList
 ib:IK b.toList
 sa:Srt a.toList
 sb:Srt b.toList
 first:∀ x∈b.toList.take 1,∀ y∈a.toList,le x y
structure Jv (a b out:Array Keyed) (i j:Nat):Prop where
 hi:HI a.toList b.toList out.toList.reverse i j
 i0:0<i
 j1:1<j
def Cj (a b:Array Keyed) (st:SortSt) (n:Nat):ForInStep HS->SortSt->Prop
 | .done c,st'=>↥43/\(↥46\/(c.1=none/\Jv a b c.2.2.2.1 c.2.1 c.2.2.1/\n<c.2.2.2.1.size))
 | .yield c,st'=>↥43/\c.1=none/\Jv a b c.2.2.2.1 c.2.1 c.2.2.1/\n<c.2.2.2.1.size
def MY (a b:Array Keyed) (st:SortSt) (n:Nat):ForInStep H1->SortSt->Prop
 | .done c,st'=>st'=st/\(↥46\/(c.1=none/\Jv a b c.2.2.2.1 c.2.1 c.2.2.1/\n<c.2.2.2.1.size))
 | .yield c,st'=>st'=st/\c.1=none/\Jv a b c.2.2.2.1 c.2.1 c.2.2.1/\n<c.2.2.2.1.size
section
variable {prog:Program} {w:World} {A:Around} {E:Value->Shared->Prop} {s:Shared} {a b out:Array Keyed} {i j n g ac bc:Nat} {st st':SortSt}
theorem HI.pushP (M:MH a b) (h:HI a.toList b.toList out.toList.reverse i j) {x:Keyed} (e:(a.toList.take i).drop (i - 1)=[x]) (hx:∀ y∈b.toList.take j,le y x):HI a.toList b.toList (out.push x).toList.reverse (i - 1) j:=by
 have:=h.takeP (t:=i - 1) M.sa ⋯ (by rw [e];intro y hy z hz;rw [ï.mp hz];exact hx y hy)
 rw [e] at this
 rw [ņ,ũ]
 exact this
theorem HI.pushQ (M:MH a b) (h:HI a.toList b.toList out.toList.reverse i j) {x:Keyed} (e:(b.toList.take j).drop (j - 1)=[x]) (hx:∀ y∈a.toList.take i,le y x):HI a.toList b.toList (out.push x).toList.reverse i (j - 1):=by
 have:=h.takeQ (t:=j - 1) M.sb ⋯ (by rw [e];intro y hy z hz;rw [ï.mp hz];exact hx y hy)
 rw [e] at this
 rw [ņ,ũ]
 exact this
theorem BJ (M:MH a b) (h:HI a.toList b.toList out.toList.reverse i j) (hj:j=1):Fn a b (fb a b out i j):=by
 unfold Fn
 rw [FL]
 subst hj
 exact h.first M.sa M.sb M.first
theorem um (M:MH a b) (h:HI a.toList b.toList out.toList.reverse i j) (hi:i=0):Fn a b (dh a b out i j):=by
 unfold Fn
 rw [yR]
 exact h.doneP M.sb hi
theorem J7 (M:MH a b) (h:HI a.toList b.toList out.toList.reverse i j) (hj:j=0):Fn a b (dh a b out i j):=by
 unfold Fn
 rw [yR]
 exact h.doneQ M.sa hj
theorem Jv.is (h:Jv a b out i j):i<=a.size/\j<=b.size:=by
 have h1:=h.hi.hi
 have h2:=h.hi.hj
 rw [Ã] at h1 h2
 exact ⟨h1,h2⟩
theorem Co (M:MH a b) (hG:∃ g,st'=setG st g) (h:Jv a b out i j) (hn:n<=out.size) (hx:∀ x,(a.toList.take i).drop (i - 1)=[x]->∀ y∈b.toList.take j,le y x):wpS ↥3 A E s (hiD a b out i j g ac bc) (Cj a b st n) st':=by
 obtain ⟨x,e1,e2,e3⟩:=lG (a:=a) h.i0 h.is.1
 have mi:=h.hi.pushP M e3 (hx x e3)
 have hs:n<(out.push x).size:=by rw [Ď];omega
 have i0:=h.i0
 unfold hiD
 refine wpS_bind (ay e1 ?_)
 by_cases g1:i - 1=0
 ·rw [if_pos ↥16]
  exact wpS_pure ⟨hG,.inl ⟨_,rfl,um M mi g1⟩⟩
 ·rw [if_neg ↥16]
  have iv:Jv a b (out.push x) (i - 1) j:=⟨mi,⋯,h.j1⟩
  split
  ·exact wpS_pure ⟨hG,.inr ⟨rfl,iv,hs⟩⟩
  ·exact wpS_pure ⟨hG,rfl,iv,hs⟩
theorem AA (a:Array Keyed) (i:Nat):(a.toList.drop 0).take i=a.toList.take i:=by rw [ĺ]
theorem Hh (M:MH a b) (hk:kindOf st=oneType') (hG:∃ g,st'=setG st g) (h:Jv a b out i j) (hn:n<=out.size):wpS ↥3 A E s (hiC a b out i j g ac bc) (Cj a b st n) st':=by
 obtain ⟨y,e1,e2,e3⟩:=lG (a:=a) h.i0 h.is.1
 have hk':kindOf st'=oneType':=by obtain ⟨g,rfl⟩:=hG;exact hk
 have j1:=h.j1
 have js:=h.is.2
 unfold hiC
 refine wpS_bind (ay e1 ?_)
 refine wpS_bind (cO hk' (M.ia y e2) M.ib ⋯ ⋯ (by rw [AA];exact M.sb.sublist ↥74) fun t hk1 t1 t2 => ?_)
 rw [AA] at t1 t2
 simp only [if_true] at t1 t2
 by_cases g0:j - t>0
 ·simp only [if_pos g0]
  have mi:HI a.toList b.toList (out++(b.extract t j).reverse).toList.reverse i t:=by
   rw [õ,Ţ,oI,ũ,Éc]
   refine h.hi.takeQ M.sb hk1 fun x hx z hz => ?_
   have q1:=t2 z hz
   have q2:kv x<=kv y:=oz M.sa e3 x hx
   show kv x<=kv z
   omega
  have hs:n<=(out++(b.extract t j).reverse).size:=by rw [ś];omega
  by_cases g1:t=1
  ·rw [if_pos ↥16]
   exact wpS_pure ⟨hG,.inl ⟨_,rfl,BJ M mi g1⟩⟩
  ·rw [if_neg ↥16]
   by_cases g2:t=0
   ·rw [if_pos ↥110]
    exact wpS_pure ⟨hG,.inl ⟨_,rfl,J7 M mi g2⟩⟩
   ·rw [if_neg ↥110]
    refine Co M hG ⟨mi,h.i0,⋯⟩ hs fun x hx z hz => ?_
    rw [e3] at hx
    have hx':y=x:=by simpa using hx
    subst hx'
    have:=t1 z (by rw [š,Áa hk1];exact hz)
    show kv z<=kv y
    omega
 ·simp only [if_neg g0]
  have k0:t=j:=⋯
  subst k0
  refine Co M hG h hn fun x hx z hz => ?_
  rw [e3] at hx
  have hx':y=x:=by simpa using hx
  subst hx'
  have:=t1 z (by rw [š,Nat.min_self];exact hz)
  show kv z<=kv y
  omega
theorem Cp (M:MH a b) (hk:kindOf st=oneType') (hG:∃ g,st'=setG st g) (h:Jv a b out i j) (hn:n<=out.size) (hx:∀ x,(b.toList.take j).drop (j - 1)=[x]->∀ y∈a.toList.take i,le y x):wpS ↥3 A E s (hiB a b out i j g ac bc) (Cj a b st n) st':=by
 have j1:=h.j1
 obtain ⟨y,e1,e2,e3⟩:=lG (a:=b) (i:=j) ⋯ h.is.2
 have mi:=h.hi.pushQ M e3 (hx y e3)
 have hs:n<=(out.push y).size:=by rw [Ď];omega
 unfold hiB
 refine wpS_bind (ay e1 ?_)
 by_cases g1:j - 1=1
 ·rw [if_pos ↥16]
  exact wpS_pure ⟨hG,.inl ⟨_,rfl,BJ M mi g1⟩⟩
 ·rw [if_neg ↥16]
  exact Hh M hk hG ⟨mi,h.i0,⋯⟩ hs
theorem Hi (M:MH a b) (hk:kindOf st=oneType') (hG:∃ g,st'=setG st g) (h:Jv a b out i j) (hn:n<=out.size):wpS ↥3 A E s (hiA a b out i j g ac bc) (Cj a b st n) st':=by
 have j1:=h.j1
 have i0:=h.i0
 have is:=h.is.1
 obtain ⟨y,e1,e2,e3⟩:=lG (a:=b) (i:=j) ⋯ h.is.2
 obtain ⟨g0,rfl⟩:=hG
 have hG:∃ g',setG (setG st g0) g=setG st g':=⟨g,rfl⟩
 unfold hiA
 rw [bx]
 refine wpS_bind (wpS_modify ?_)
 refine wpS_bind (ay e1 ?_)
 refine wpS_bind (cO (show kindOf (setG (setG st g0) g)=oneType' from hk) (M.ib y e2) M.ia ⋯ ⋯ (by rw [AA];exact M.sa.sublist ↥74) fun t hk1 t1 t2 => ?_)
 rw [AA] at t1 t2
 simp only [Ô,if_false] at t1 t2
 by_cases gk:i - t>0
 ·simp only [if_pos gk]
  have mi:HI a.toList b.toList (out++(a.extract t i).reverse).toList.reverse t j:=by
   rw [õ,Ţ,oI,ũ,Éc]
   refine h.hi.takeP M.sa hk1 fun x hx z hz => ?_
   have q1:=t2 z hz
   have q2:kv x<=kv y:=oz M.sb e3 x hx
   show kv x<=kv z
   omega
  have hs:n<=(out++(a.extract t i).reverse).size:=by rw [ś];omega
  by_cases g1:t=0
  ·rw [if_pos ↥16]
   exact wpS_pure ⟨hG,.inl ⟨_,rfl,um M mi g1⟩⟩
  ·rw [if_neg ↥16]
   refine Cp M hk hG ⟨mi,⋯,j1⟩ hs fun x hx z hz => ?_
   rw [e3] at hx
   have hx':y=x:=by simpa using hx
   subst hx'
   exact t1 z (by rw [š,Áa hk1];exact hz)
 ·simp only [if_neg gk]
  have k0:t=i:=⋯
  subst k0
  refine Cp M hk hG h hn fun x hx z hz => ?_
  rw [e3] at hx
  have hx':y=x:=by simpa using hx
  subst hx'
  exact t1 z (by rw [š,Nat.min_self];exact hz)
theorem Hg (M:MH a b) (hk:kindOf st=oneType') (h:Jv a b out i j) (mg:Nat) (hn:n<=out.size):wpS ↥3 A E s (hiI a b mg (none,i,j,out,ac,bc)) (MY a b st n) st:=by
 have j1:=h.j1
 have i0:=h.i0
 obtain ⟨y,e1,e2,e3⟩:=lG (a:=b) (i:=j) ⋯ h.is.2
 obtain ⟨x,f1,f2,f3⟩:=lG (a:=a) i0 h.is.1
 unfold hiI
 dsimp only
 refine wpS_bind (ay e1 ?_)
 refine wpS_bind (ay f1 ?_)
 refine wpS_bind (kA hk (M.ib y e2) (M.ia x f2) ?_)
 by_cases hl:kv y<kv x
 ·simp only [hl,decide_true,if_true]
  have mi:=h.hi.pushP M f3 (fun z hz=>by
   have q2:kv z<=kv y:=oz M.sb e3 z hz
   show kv z<=kv x
   omega)
  have hs:n<(out.push x).size:=by rw [Ď];omega
  refine wpS_bind (ay f1 ?_)
  by_cases g1:i - 1=0
  ·rw [if_pos ↥16]
   exact wpS_pure ⟨rfl,.inl ⟨_,rfl,um M mi g1⟩⟩
  ·rw [if_neg ↥16]
   have iv:Jv a b (out.push x) (i - 1) j:=⟨mi,⋯,j1⟩
   split
   ·exact wpS_pure ⟨rfl,.inr ⟨rfl,iv,hs⟩⟩
   ·exact wpS_pure ⟨rfl,rfl,iv,hs⟩
 ·simp only [hl,decide_false,Ô,if_false]
  have mi:=h.hi.pushQ M e3 (fun z hz=>by
   have q2:kv z<=kv x:=oz M.sa f3 z hz
   show kv z<=kv y
   omega)
  have hs:n<(out.push y).size:=by rw [Ď];omega
  refine wpS_bind (ay e1 ?_)
  by_cases g1:j - 1=1
  ·rw [if_pos ↥16]
   exact wpS_pure ⟨rfl,.inl ⟨_,rfl,BJ M mi g1⟩⟩
  ·rw [if_neg ↥16]
   have iv:Jv a b (out.push y) i (j - 1):=⟨mi,i0,⋯⟩
   split
   ·exact wpS_pure ⟨rfl,.inr ⟨rfl,iv,hs⟩⟩
   ·exact wpS_pure ⟨rfl,rfl,iv,hs⟩
theorem Jv.lt (h:Jv a b out i j):out.size<a.size+b.size:=by
 have h1:=h.hi.len
 rw [Ġ,Ã,Ã,Ã] at h1
 have:=h.i0
 omega
def MX (a b:Array Keyed) (st:SortSt) (n:Nat):ForInStep H0->SortSt->Prop
 | .done c,st'=>↥43/\∃ r,c.1=some r/\Fn a b r
 | .yield c,st'=>↥43/\c.1=none/\Jv a b c.2.2.2.1 c.2.1 c.2.2.1/\n<c.2.2.2.1.size
theorem Hf (M:MH a b) (hk:kindOf st=oneType') (hG:∃ g,st'=setG st g) (h:Jv a b out i j) (hn:n<=out.size):wpS ↥3 A E s (hiO a b (none,i,j,out,g)) (MX a b st n) st':=by
 have hk':kindOf st'=oneType':=by obtain ⟨g,rfl⟩:=hG;exact hk
 unfold hiO
 dsimp only
 refine wpS_bind (wpS_mono (wpS_forRange (I:=fun x c s2=>s2=st'/\c.1=none/\Jv a b c.2.2.2.1 c.2.1 c.2.2.1/\out.size+x<=c.2.2.2.1.size)
  (Q:=fun c s2=>s2=st'/\(↥46\/(c.1=none/\Jv a b c.2.2.2.1 c.2.1 c.2.2.1/\out.size<c.2.2.2.1.size))) ?step ?fin ⟨rfl,rfl,h,ñ _⟩) ?post)
 case fin =>
  rintro c s2 ⟨rfl,hc,iv,hx⟩
  have:=iv.lt
  omega
 case step =>
  rintro x c s2 _ hx ⟨rfl,hc,iv,hs⟩
  obtain ⟨r,i1,j1,o1,a1,b1⟩:=c
  cases hc
  refine wpS_mono (Hg (st:=s2) M hk' iv g hs) fun r s3 hp => ?_
  cases r with
  | done c' =>
   obtain ⟨rfl,hp⟩:=hp
   refine ⟨rfl,?_⟩
   rcases hp with hp | ⟨p1,p2,p3⟩
   ·exact .inl hp
   ·exact .inr ⟨p1,p2,⋯⟩
  | yield c' =>
   obtain ⟨rfl,p1,p2,p3⟩:=hp
   exact ⟨rfl,p1,p2,⋯⟩
 case post =>
  rintro c s2 ⟨rfl,hp⟩
  obtain ⟨r,i1,j1,o1,a1,b1⟩:=c
  rcases hp with ⟨r',hr,hf⟩ | ⟨hr,iv,hs⟩
  ·cases hr
   exact wpS_pure ⟨hG,r',rfl,hf⟩
  ·cases hr
   dsimp only
   refine wpS_bind (wpS_lift (wpAny_rule ⟨rfl,?_⟩))
   refine wpS_bind (wpS_mono (wpS_forRange (I:=fun x c s3=>(∃ g,s3=setG st g)/\c.1=none/\Jv a b c.2.2.2.1 c.2.1 c.2.2.1/\o1.size+x<=c.2.2.2.1.size)
    (Q:=fun c s3=>(∃ g,s3=setG st g)/\(↥46\/(c.1=none/\Jv a b c.2.2.2.1 c.2.1 c.2.2.1/\o1.size<c.2.2.2.1.size))) ?step2 ?fin2 ⟨hG,rfl,iv,ñ _⟩) ?post2)
   case fin2 =>
    rintro c s3 ⟨hg,hc,iv2,hx⟩
    have:=iv2.lt
    omega
   case step2 =>
    rintro x c s3 _ hx ⟨hg,hc,iv2,hs2⟩
    obtain ⟨r,i2,j2,o2,g2,a2,b2⟩:=c
    cases hc
    have fin:∀ g',wpS ↥3 A E s (hiA a b o2 i2 j2 g' a2 b2) (fun r st'=>match r with
      | .done c'=>↥43/\((∃ r,c'.1=some r/\Fn a b r)\/(c'.1=none/\Jv a b c'.2.2.2.1 c'.2.1 c'.2.2.1/\o1.size<c'.2.2.2.1.size))
      | .yield c'=>↥43/\c'.1=none/\Jv a b c'.2.2.2.1 c'.2.1 c'.2.2.1/\o1.size+(x+1)<=c'.2.2.2.1.size) s3:=fun g'=>by
     refine wpS_mono (Hi (n:=o1.size+x) M hk hg iv2 hs2) fun r s4 hp => ?_
     cases r with
     | done c' =>
      refine ⟨hp.1,?_⟩
      rcases hp.2 with hp | ⟨p1,p2,p3⟩
      ·exact .inl hp
      ·exact .inr ⟨p1,p2,⋯⟩
     | yield c'=>exact ⟨hp.1,hp.2.1,hp.2.2.1,by have:=hp.2.2.2;omega⟩
    unfold hiG
    dsimp only
    split
    ·exact wpS_mono (fin _) fun r s4 hp=>by cases r<;>exact hp
    ·exact wpS_mono (fin _) fun r s4 hp=>by cases r<;>exact hp
   case post2 =>
    rintro c s3 ⟨hg,hp⟩
    obtain ⟨r,i2,j2,o2,g2,a2,b2⟩:=c
    rcases hp with ⟨r',hr,hf⟩ | ⟨hr,iv2,hs2⟩
    ·cases hr
     exact wpS_pure ⟨hg,r',rfl,hf⟩
    ·cases hr
     dsimp only
     rw [bx]
     obtain ⟨g3,rfl⟩:=hg
     exact wpS_bind (wpS_modify (wpS_pure ⟨⟨_,rfl⟩,rfl,iv2,by show n<o2.size;dsimp only at hs hs2;omega⟩))
theorem qS {Q:Array Keyed->SortSt->Prop} (M:MH a b) (hk:kindOf st=oneType') (ha:1<=a.size) (hb:1<=b.size) (hl:∀ x,(a.toList.take a.size).drop (a.size - 1)=[x]->∀ y∈b.toList,le y x)
  (h:∀ out g,Fn a b out->Q out (setG st g)):wpS ↥3 A E s (j5 a b) Q st:=by
 obtain ⟨p,e1,e2,e3⟩:=lG (a:=a) (i:=a.size) ⋯ ↥15
 have hst:st=setG st (gallopOf st):=rfl
 have m0:HI a.toList b.toList (#[]:Array Keyed).toList.reverse a.size b.size:=⟨by rw [Ã];exact ñ _,by rw [Ã];exact ñ _,by rw [Ã,Ã];simp,by rw [ď (by rw [Ã];exact ñ _),ď (by rw [Ã];exact ñ _)];simp,Ŷ,fun x hx y hy=>(nomatch hy),fun x hx y hy=>(nomatch hy)⟩
 have mi:HI a.toList b.toList (#[p]:Array Keyed).toList.reverse (a.size - 1) b.size:=HI.pushP (out := #[]) M m0 e3 (fun y hy=>hl p e3 y (Ņ hy))
 rw [vt]
 refine wpS_bind (wpS_lift (wpAny_rule ⟨rfl,?_⟩))
 refine wpS_bind (ay e1 ?_)
 by_cases g1:a.size - 1=0
 ·rw [if_pos ↥16]
  exact wpS_pure (h _ (gallopOf st) (um M mi g1))
 ·rw [if_neg ↥16]
  by_cases g2:b.size=1
  ·rw [if_pos ↥110]
   exact wpS_pure (h _ (gallopOf st) (BJ M mi g2))
  ·rw [if_neg ↥110]
   refine wpS_bind (wpS_get ?_)
   refine wpS_bind (wpS_mono (wpS_forRange (I:=fun x c s2=>(∃ g,s2=setG st g)/\c.1=none/\Jv a b c.2.2.2.1 c.2.1 c.2.2.1/\x+1<=c.2.2.2.1.size)
    (Q:=fun c s2=>(∃ g,s2=setG st g)/\∃ r,c.1=some r/\Fn a b r) ?step ?fin ⟨⟨_,hst⟩,rfl,(⟨mi,⋯,⋯⟩:Jv a b #[p] (a.size - 1) b.size),ñ _⟩) ?post)
   case fin =>
    rintro c s2 ⟨_,_,iv,hx⟩
    have:=iv.lt
    omega
   case step =>
    rintro x c s2 _ hx ⟨hg,hc,iv,hs⟩
    obtain ⟨r,i1,j1,o1,g1⟩:=c
    cases hc
    refine wpS_mono (Hf (n:=x+1) M hk hg iv hs) fun r s3 hp => ?_
    cases r with
    | done c'=>exact hp
    | yield c'=>exact ⟨hp.1,hp.2.1,hp.2.2.1,by have:=hp.2.2.2;omega⟩
   case post =>
    rintro c s2 ⟨⟨g,rfl⟩,r,hr,hf⟩
    rw [hr]
    exact wpS_pure (h r g hf)
end
end TS
namespace TS
open PySem PyProof.Rows
def SOn (arr:Array Keyed) (s n:Nat):Prop:=∀ i j,s<=i->i<=j->j<s+n->K arr i<=K arr j
theorem pe {arr:Array Keyed} {i:Nat} {p:Keyed} (h:arr[i]? = some p):K arr i=kv p:=by unfold K kv;rw [h]
theorem seg_at {arr:Array Keyed} {s n i:Nat} (hi:i<n):((arr.toList.drop s).take n)[i]? = arr[s+i]? := by
 rw [Ċ hi,Ĉ,ì]
theorem wN {arr:Array Keyed} {s n:Nat} (hz:s+n<=arr.size) (h:SOn arr s n):Srt ((arr.toList.drop s).take n):=by
 refine Ľ.mpr fun i j hi hj hij => ?_
 have hlen:((arr.toList.drop s).take n).length=n:=by rw [é,ú,Ã];omega
 have e1:=seg_at (arr:=arr) (s:=s) (n:=n) (i:=i) ⋯
 have e2:=seg_at (arr:=arr) (s:=s) (n:=n) (i:=j) ⋯
 rw [Â hi] at e1
 rw [Â hj] at e2
 have:=h (s+i) (s+j) ⋯ ⋯ ⋯
 rw [pe e1.symm,pe e2.symm] at this
 exact this
def putAt (arr:Array Keyed) (s:Nat) (l:List Keyed) (k:Nat):Array Keyed:=(l.zipIdx k).foldl (fun a (p,j)=>a.setIfInBounds (s+j) p) arr
theorem mL:∀ (l:List Keyed) (arr:Array Keyed) (s k:Nat),s+k+l.length<=arr.size->(putAt arr s l k).toList=arr.toList.take (s+k)++l++arr.toList.drop (s+k+l.length)
 | [],arr,s,k,_=>by
  show arr.toList=_
  simp
 | p::l,arr,s,k,h=>by
  have ih:=mL l (arr.setIfInBounds (s+k) p) s (k+1) (by rw [Array.size_setIfInBounds];rw [Ò] at h;omega)
  have e:putAt arr s (p::l) k=putAt (arr.setIfInBounds (s+k) p) s l (k+1):=rfl
  rw [Ò] at h
  have hl:s+k<arr.toList.length:=by rw [Ã];omega
  rw [e,ih,Ãe,show s+(k+1)=s+k+1 by omega,List.take_succ_eq_append_getElem (by rw [Ĕ];exact hl),List.getElem_set_self,List.take_set_of_le ↥15,List.drop_set_of_lt ⋯]
  simp [Nat.add_assoc,Nat.add_comm 1]
structure SB (a₀:Array Keyed) (st:SortSt):Prop where
 perm:(arrOf st).toList.Perm a₀.toList
 kind:kindOf st=oneType'
 failed:failedOf st=none
theorem SB.size {a₀:Array Keyed} {st:SortSt} (h:SB a₀ st):(arrOf st).size=a₀.size:=by
 have:=h.perm.length_eq
 simpa using this
theorem rR (i:Nat):mergeAt' i=(do
 let s<-get
 let (some (sa,na,power),some (sb,nb,_)):=((pendingOf s)[i]?,(pendingOf s)[i+1]?) | unsupported "internal:list.sort.pending"
 set (setPending s (((pendingOf s).setIfInBounds i (sa,na+nb,power)).eraseIdxIfInBounds (i+1)))
 let some k<-cu false (<- elem' (arrOf s) sb) (arrOf s) sa na 0 | return false
 let (sa,na):=(sa+k,na - k)
 if na == 0 then return true
 let some nb<-cu true (<- elem' (arrOf s) (sa+na - 1)) (arrOf s) sb nb (nb - 1) | return false
 if nb == 0 then return true
 let x:=(arrOf s).extract sa sb
 let y:=(arrOf s).extract sb (sb+nb)
 let merged<-if na<=nb then j4 x y else j5 x y
 modify fun s=>setArr s (merged.toList.zipIdx.foldl (fun a (p,j)=>a.setIfInBounds (sa+j) p) (arrOf s))
 return (failedOf (<- get)).isNone):=rfl
theorem yg {arr:Array Keyed} {s n i k:Nat} {p:Keyed} (h:arr[s+i]? = some p) (hi:i<k) (hk:k<=n):p∈((arr.toList.drop s).take n).take k :=
 ê (i:=i) (by rw [Ċ hi,seg_at ⋯];exact h)
theorem t7 {arr:Array Keyed} {s n i k:Nat} {p:Keyed} (h:arr[s+i]? = some p) (hi:i<n) (hk:k<=i):p∈((arr.toList.drop s).take n).drop k :=
 ê (i:=i - k) (by rw [Ĉ,show k+(i - k)=i by omega,seg_at hi];exact h)
theorem jh {arr:Array Keyed} {s e:Nat} {u:Keyed} (h:u∈(arr.extract s e).toList):∃ i,s<=i/\i<e/\arr[i]? = some u:=by
 obtain ⟨i,ei⟩:=List.mem_iff_getElem?.mp h
 rw [oI,Ĉ] at ei
 have hl:s+i<e:=by
  refine á fun z => ?_
  rw [Ą (by rw [é];omega)] at ei
  cases ei
 refine ⟨s+i,⋯,hl,?_⟩
 rw [Ċ hl,ì] at ei
 exact ei
theorem dG {arr:Array Keyed} {i:Nat} (h:i<arr.size):∃ p,arr[i]? = some p:=⟨arr[i],getElem?_pos arr i h⟩
theorem wO {arr:Array Keyed} {s e:Nat} (hz:e<=arr.size) (h:∀ i j,s<=i->i<=j->j<e->K arr i<=K arr j):Srt (arr.extract s e).toList:=by
 by_cases g:s<=e
 ·have:=wN (arr:=arr) (s:=s) (n:=e - s) ⋯ (fun i j a b c=>h i j a b ⋯)
  rw [oI,Ãd]
  exact this
 ·rw [oI,Çg (by rw [é];omega)]
  exact Ŷ
section
variable {prog:Program} {w:World} {A:Around} {E:Value->Shared->Prop} {s:Shared} {a₀:Array Keyed}
theorem Dq {σ:Type} {M:Model} {x:σ} {Q:PUnit->σ->Prop} {st:σ} (h:Q ⟨⟩ x):wpS M A E s (set x:StateT σ Sem PUnit) Q st:=by
 unfold wpS;rw [StateT.run_set];exact wpAny_pure ⟨rfl,h⟩
theorem qT {st:SortSt} {i sa na pw sb nb pq:Nat} {Q:Bool->SortSt->Prop} (h0:IK a₀.toList) (hB:SB a₀ st) (p1:(pendingOf st)[i]? = some (sa,na,pw)) (p2:(pendingOf st)[i+1]? = some (sb,nb,pq)) (hs:sb=sa+na) (n1:1<=na) (n2:1<=nb) (hz:sb+nb<=a₀.size)
  (s1:SOn ↥76 sa na) (s2:SOn ↥76 sb nb)
  (h:∀ st',SB a₀ st'->pendingOf st'=((pendingOf st).setIfInBounds i (sa,na+nb,pw)).eraseIdxIfInBounds (i+1)->SOn ↥25 sa (na+nb)->(∀ k,k<sa\/sa+na+nb<=k->K ↥25 k=K ↥76 k)->Q true st') :
  wpS ↥3 A E s (mergeAt' i) Q st:=by
 have hsz:=hB.size
 have ik:IK (arrOf st).toList:=fun p hp=>h0 p (hB.perm.mem_iff.mp hp)
 obtain ⟨y0,e1,e2,e3,e4⟩:=jo (a:=arrOf st) (i:=sb) ⋯
 rw [rR]
 refine wpS_bind (wpS_get ?_)
 rw [p1,p2]
 refine wpS_bind (Dq ?_)
 generalize hst:setPending st (((pendingOf st).setIfInBounds i (sa,na+nb,pw)).eraseIdxIfInBounds (i+1))=st1
 have hB1:SB a₀ st1:=by rw [<- hst];exact ⟨hB.perm,hB.kind,hB.failed⟩
 have ha1:arrOf st1=arrOf st:=by rw [<- hst]
 have hp1:pendingOf st1=((pendingOf st).setIfInBounds i (sa,na+nb,pw)).eraseIdxIfInBounds (i+1):=by rw [<- hst]
 refine wpS_bind (ay e1 ?_)
 refine wpS_bind (cO hB1.kind (ik y0 e2) ik ⋯ ⋯ (wN ⋯ s1) fun k hk1 t1 t2 => ?_)
 simp only [Ô,if_false] at t1 t2
 have ky:K ↥76 sb=kv y0:=pe e1
 have A1:∀ i,sa<=i->i<sa+k->K ↥76 i<=kv y0:=fun i a b=>by
  obtain ⟨p,hp⟩:=dG (arr:=arrOf st) (i:=i) ⋯
  rw [pe hp]
  exact t1 p (yg (i:=i - sa) (by rw [show sa+(i - sa)=i by omega];exact hp) ⋯ hk1)
 have A2:∀ i,sa+k<=i->i<sb->kv y0<=K ↥76 i:=fun i a b=>by
  obtain ⟨p,hp⟩:=dG (arr:=arrOf st) (i:=i) ⋯
  rw [pe hp]
  have:=t2 p (t7 (i:=i - sa) (by rw [show sa+(i - sa)=i by omega];exact hp) ⋯ ⋯)
  omega
 have Y0:∀ i,sb<=i->i<sb+nb->kv y0<=K ↥76 i:=fun i a b=>by rw [<- ky];exact s2 sb i ↥15 a b
 dsimp only
 by_cases g1:na - k=0
 ·rw [if_pos ↥16]
  refine wpS_pure (h st1 hB1 hp1 ?_ fun j _=>by rw [ha1])
  rw [ha1]
  intro i j a b c
  by_cases gi:i<sb
  ·by_cases gj:j<sb
   ·exact s1 i j a b ⋯
   ·exact Œ (A1 i a ⋯) (Y0 j ⋯ ⋯)
  ·exact s2 i j ⋯ b ⋯
 ·rw [if_neg ↥16]
  have hsx:sa+k+(na - k) - 1=sb - 1:=⋯
  obtain ⟨xl,f1⟩:=dG (arr:=arrOf st) (i:=sb - 1) ⋯
  have f2:xl∈(arrOf st).toList:=ł.mpr (ŗ f1)
  have kx:K ↥76 (sb - 1)=kv xl:=pe f1
  refine wpS_bind (ay (by rw [hsx];exact f1) ?_)
  refine wpS_bind (cO hB1.kind (ik xl f2) ik ⋯ ⋯ (wN ⋯ s2) fun t ht1 u1 u2 => ?_)
  simp only [if_true] at u1 u2
  have B1:∀ i,sb<=i->i<sb+t->K ↥76 i<=kv xl:=fun i a b=>by
   obtain ⟨p,hp⟩:=dG (arr:=arrOf st) (i:=i) ⋯
   rw [pe hp]
   have:=u1 p (yg (i:=i - sb) (by rw [show sb+(i - sb)=i by omega];exact hp) ⋯ ht1)
   omega
  have B2:∀ i,sb+t<=i->i<sb+nb->kv xl<=K ↥76 i:=fun i a b=>by
   obtain ⟨p,hp⟩:=dG (arr:=arrOf st) (i:=i) ⋯
   rw [pe hp]
   exact u2 p (t7 (i:=i - sb) (by rw [show sb+(i - sb)=i by omega];exact hp) ⋯ ⋯)
  have X0:∀ i,sa<=i->i<sb->K ↥76 i<=kv xl:=fun i a b=>by rw [<- kx];exact s1 i (sb - 1) a ⋯ ⋯
  dsimp only
  by_cases g2:t=0
  ·rw [if_pos ↥110]
   refine wpS_pure (h st1 hB1 hp1 ?_ fun j _=>by rw [ha1])
   rw [ha1]
   intro i j a b c
   by_cases gi:i<sb
   ·by_cases gj:j<sb
    ·exact s1 i j a b ⋯
    ·exact Œ (X0 i a gi) (B2 j ⋯ ⋯)
   ·exact s2 i j ⋯ b ⋯
  ·rw [if_neg ↥110]
   have sx:((arrOf st).extract (sa+k) sb).size=sb - (sa+k):=by rw [Array.size_extract];omega
   have sy:((arrOf st).extract sb (sb+t)).size=t:=by rw [Array.size_extract];omega
   have ikx:IK ((arrOf st).extract (sa+k) sb).toList:=fun p hp=>by obtain ⟨i,_,_,e⟩:=jh hp;exact ik p (ł.mpr (ŗ e))
   have iky:IK ((arrOf st).extract sb (sb+t)).toList:=fun p hp=>by obtain ⟨i,_,_,e⟩:=jh hp;exact ik p (ł.mpr (ŗ e))
   have srx:=wO (arr:=arrOf st) (s:=sa+k) (e:=sb) ⋯ fun i j a b c=>s1 i j ⋯ b ⋯
   have sry:=wO (arr:=arrOf st) (s:=sb) (e:=sb+t) ⋯ fun i j a b c=>s2 i j a b ⋯
   have hfirst:∀ v∈((arrOf st).extract sb (sb+t)).toList.take 1,∀ u∈((arrOf st).extract (sa+k) sb).toList,le v u:=fun v hv u hu=>by
    have ev:v=y0:=by
     rw [oI,Ãd,show sb+t - sb=t by omega,š,Áa ⋯,e3] at hv
     exact ï.mp hv
    obtain ⟨i,a1,a2,a3⟩:=jh hu
    rw [ev]
    have:=A2 i a1 a2
    rw [pe a3] at this
    exact this
   have hlast:∀ i,i+1=((arrOf st).extract (sa+k) sb).size->∀ u∈((arrOf st).extract (sa+k) sb).toList.drop i,∀ v∈((arrOf st).extract sb (sb+t)).toList,le v u:=fun i hi u hu v hv=>by
    have eu:u=xl:=by
     obtain ⟨m,hm,em⟩:=Ũ hu
     rw [ú,Ã] at hm
     have m0:m=0:=⋯
     subst m0
     have:(((arrOf st).extract (sa+k) sb).toList.drop i)[0]? = some u:=by rw [<- em];exact Â _
     rw [Ĉ,oI,Ĉ,Ċ ⋯,ì,show sa+k+(i+0)=sb - 1 by omega,f1] at this
     exact (Ó.inj this).symm
    obtain ⟨q,a1,a2,a3⟩:=jh hv
    rw [eu]
    have:=B1 q a1 a2
    rw [pe a3] at this
    exact this
   have fin:∀ out g,Fn ((arrOf st).extract (sa+k) sb) ((arrOf st).extract sb (sb+t)) out ->
     wpS ↥3 A E s (do
      modify fun s=>setArr s (out.toList.zipIdx.foldl (fun a (p,j)=>a.setIfInBounds (sa+k+j) p) (arrOf s))
      return (failedOf (<- get)).isNone) Q (setG st1 g):=by
    rintro out g ⟨op,os⟩
    refine wpS_bind (wpS_modify ?_)
    refine wpS_bind (wpS_get ?_)
    have hlen:out.toList.length=sb - (sa+k)+t:=by
     have:=op.length_eq
     rw [Æ,Ã,Ã,Ã,sx,sy] at this
     rw [Ã]
     exact this
    have hpl:=mL out.toList ↥76 (sa+k) 0 ⋯
    rw [Nat.add_zero] at hpl
    generalize hp:putAt ↥76 (sa+k) out.toList 0=arr2 at hpl
    have harr:arrOf (setArr (setG st1 g) (out.toList.zipIdx.foldl (fun a (p,j)=>a.setIfInBounds (sa+k+j) p) (arrOf (setG st1 g))))=arr2:=by
     rw [<- hp]
     show putAt (arrOf st1) (sa+k) out.toList 0=_
     rw [ha1]
    have key:∀ i,arr2[i]? = if i<sa+k then (arrOf st)[i]? else if i<sb+t then out.toList[i - (sa+k)]? else (arrOf st)[i]? := fun i=>by
     rw [<- ì,hpl]
     have tl:((arrOf st).toList.take (sa+k)).length=sa+k:=by rw [é,Ã];omega
     by_cases c1:i<sa+k
     ·rw [if_pos c1,Ć,ý ⋯,Ċ c1,ì]
     ·rw [if_neg c1,Ć,û ⋯,tl]
      by_cases c2:i<sb+t
      ·rw [if_pos c2,ý ⋯]
      ·rw [if_neg c2,û ⋯,Ĉ,ì]
       congr 1
       omega
    have bet:∀ i p,sa+k<=i->i<sb+t->arr2[i]? = some p->kv y0<=kv p/\kv p<=kv xl:=fun i p a b e=>by
     rw [key,if_neg ⋯,if_pos b] at e
     have hm:p∈((arrOf st).extract (sa+k) sb).toList++((arrOf st).extract sb (sb+t)).toList:=op.mem_iff.mp (ê e)
     rcases È.mp hm with hm | hm
     ·obtain ⟨q,q1,q2,q3⟩:=jh hm
      rw [<- pe q3]
      exact ⟨A2 q q1 q2,X0 q ⋯ q2⟩
     ·obtain ⟨q,q1,q2,q3⟩:=jh hm
      rw [<- pe q3]
      exact ⟨Y0 q q1 ⋯,B1 q q1 q2⟩
    have hz2:arr2.size=a₀.size:=by
     have:=congrArg Äe hpl
     rw [Ã,Æ,Æ,é,ú,Ã,hlen] at this
     omega
    have same:∀ i,i<sa+k\/sb+t<=i->K arr2 i=K ↥76 i:=fun i hi=>K_congr (by
     rw [key]
     rcases hi with hi | hi
     ·rw [if_pos hi]
     ·rw [if_neg ⋯,if_neg ⋯])
    have hst2:∀ st2,st2=setArr (setG st1 g) (out.toList.zipIdx.foldl (fun a (p,j)=>a.setIfInBounds (sa+k+j) p) (arrOf (setG st1 g)))->Q (failedOf st2).isNone st2:=fun st2 e=>by
     have ef:failedOf st2=none:=by rw [e];exact hB1.failed
     have ea:arrOf st2=arr2:=by rw [e];exact harr
     rw [ef]
     refine h st2 ⟨?_,by rw [e];exact hB1.kind,ef⟩ (by rw [e];exact hp1) ?_ fun i hi=>by rw [ea];exact same i ⋯
     ·rw [ea,hpl]
      refine Ŕ ?_ hB.perm
      have e1:(arrOf st).toList=(arrOf st).toList.take (sa+k)++(((arrOf st).extract (sa+k) sb).toList++((arrOf st).extract sb (sb+t)).toList)++(arrOf st).toList.drop (sa+k+out.toList.length):=by
       rw [oI,oI,hlen]
       have q1:=fT (arrOf st).toList (i:=sb) (t:=sa+k) ⋯
       have q2:=fT (arrOf st).toList (i:=sb+t) (t:=sb) ⋯
       rw [<- Ć,<-q1,<-q2,show sa+k+(sb - (sa+k)+t)=sb+t by omega,Ħ]
      conv=>rhs;rw [e1]
      exact (op.append_left _).append_right _
     ·rw [ea]
      intro i j a b c
      by_cases ci:i<sa+k
      ·rw [same i (.inl ci)]
       by_cases cj:j<sa+k
       ·rw [same j (.inl cj)]
        exact s1 i j a b ⋯
       ·refine Œ (A1 i a ci) ?_
        by_cases cj2:j<sb+t
        ·obtain ⟨p,hp⟩:=dG (arr:=arr2) (i:=j) ⋯
         rw [pe hp]
         exact (bet j p ⋯ cj2 hp).1
        ·rw [same j (.inr ⋯)]
         exact Y0 j ⋯ ⋯
      ·by_cases ci2:i<sb+t
       ·obtain ⟨p,hp⟩:=dG (arr:=arr2) (i:=i) ⋯
        by_cases cj2:j<sb+t
        ·obtain ⟨q,hq⟩:=dG (arr:=arr2) (i:=j) ⋯
         rw [pe hp,pe hq]
         by_cases eij:i=j
         ·subst eij
          rw [hp] at hq
          cases hq
          exact í _
         ·rw [key,if_neg ⋯,if_pos ci2] at hp
          rw [key,if_neg ⋯,if_pos cj2] at hq
          obtain ⟨h1,g1'⟩:=É.mp hp
          obtain ⟨h2,g2'⟩:=É.mp hq
          have:=Ľ.mp os (i - (sa+k)) (j - (sa+k)) h1 h2 ⋯
          rw [g1',g2'] at this
          exact this
        ·rw [pe hp,same j (.inr ⋯)]
         exact Œ (bet i p ⋯ ci2 hp).2 (B2 j ⋯ ⋯)
       ·rw [same i (.inr ⋯),same j (.inr ⋯)]
        exact s2 i j ⋯ b ⋯
    exact wpS_pure (hst2 _ rfl)
   by_cases gl:na - k<=t
   ·simp only [if_pos gl]
    refine wpS_bind (qR ⟨ikx,iky,srx,sry,hlast⟩ hB1.kind ⋯ ⋯ (fun v hv u hu=>hfirst v (by rw [ĺ] at hv;rw [hv];exact .head _) u hu) fun out g hf => ?_)
    exact fin out g hf
   ·simp only [if_neg gl]
    refine wpS_bind (qS ⟨ikx,iky,srx,sry,hfirst⟩ hB1.kind ⋯ ⋯ (fun u hu v hv=>hlast (((arrOf st).extract (sa+k) sb).size - 1) ⋯ u ?_ v hv) fun out g hf => ?_)
    ·rw [ď (by rw [Ã];exact ñ _)] at hu
     rw [hu]
     exact .head _
    ·exact fin out g hf
end
end TS
namespace TS
open PySem PyProof.Rows
section
variable {prog:Program} {w:World} {A:Around} {E:Value->Shared->Prop} {s:Shared} {a₀:Array Keyed}
theorem SB.setArr {st:SortSt} (h:SB a₀ st) {xs:Array Keyed} (hp:xs.Perm ↥76):SB a₀ (setArr st xs) :=
 ⟨(Array.perm_iff_toList_perm.mp hp).trans h.perm,h.kind,h.failed⟩
theorem kC {st:SortSt} {i j:Nat} {Q:Option Bool->SortSt->Prop} (hB:SB a₀ st) (h0:IK a₀.toList) (hi:i<a₀.size) (hj:j<a₀.size)
  (h:Q (some (decide (K ↥76 i<K ↥76 j))) st):wpS ↥3 A E s (ltAt' i j) Q st:=by
 have hz:=hB.size
 obtain ⟨p,e1⟩:=dG (arr:=arrOf st) (i:=i) ⋯
 obtain ⟨q,e2⟩:=dG (arr:=arrOf st) (i:=j) ⋯
 rw [pe e1,pe e2] at h
 rw [ltAt'_eq]
 refine wpS_bind (wpS_get ?_)
 refine wpS_bind (ay e1 (wpS_bind (ay e2 ?_)))
 have mem:∀ {i:Nat} {p:Keyed},(arrOf st)[i]? = some p->∃ n t,p.1=ű n t:=fun {i p} e=>h0 _ (hB.perm.mem_iff.mp (ł.mpr (ŗ e)))
 exact kA hB.kind (mem e1) (mem e2) h
def Out (x y:Array Keyed) (lo n:Nat):Prop:=∀ k,k<lo\/lo+n<=k->K x k=K y k
theorem zP {st:SortSt} {lo n ok:Nat} {Q:Bool->SortSt->Prop} (h0:IK a₀.toList) (hn:lo+n<=a₀.size) (hok:ok<=n) (hB:SB a₀ st) (hs:SOn ↥76 lo ok)
  (h:∀ st',SB a₀ st'->pendingOf st'=pendingOf st->SOn ↥25 lo n->Out ↥25 ↥76 lo n->Q true st'):wpS ↥3 A E s (binarySort' lo n ok) Q st:=by
 rw [binarySort'_eq]
 refine wpS_bind (wpS_mono (wpS_forRange (I:=fun k c st'=>c=(none,())/\SB a₀ st'/\pendingOf st'=pendingOf st/\SOn ↥25 lo (min k n)/\Out ↥25 ↥76 lo n)
  (Q:=fun c st'=>c=(none,())/\SB a₀ st'/\pendingOf st'=pendingOf st/\SOn ↥25 lo n/\Out ↥25 ↥76 lo n) ?step ?fin ?init) ?post)
 case post =>
  rintro c st' ⟨rfl,hB',hp,hs',ho⟩
  exact wpS_pure (h st' hB' hp hs' ho)
 case init =>
  refine ⟨rfl,hB,rfl,fun i j h1 hij hj => ?_,fun _ _=>rfl⟩
  by_cases h1:ok=0
  ·have:i=j:=⋯
   subst this;exact í _
  ·exact hs i j ⋯ hij ⋯
 case fin =>
  rintro c st' ⟨hc,hB',hp,hs',ho⟩
  rw [show min (max (max ok 1) n) n=n by omega] at hs'
  exact ⟨hc,hB',hp,hs',ho⟩
 case step =>
  rintro k c st' hak hkn ⟨rfl,hB',hp,hs',ho⟩
  rw [show min k n=k by omega] at hs'
  refine wpS_bind (wpS_mono (wpS_forRange (I:=fun x c st''=>st''=st'/\∃ l r,c=(none,l,r)/\l<=r/\r<=k/\r - l<=k - x /\
    (∀ i,i<l->K ↥25 (lo+i)<=K ↥25 (lo+k))/\(∀ i,r<=i->i<k->K ↥25 (lo+k)<K ↥25 (lo+i)))
   (Q:=fun c st''=>st''=st'/\∃ l r,c=(none,l,r)/\l<=k /\
    (∀ i,i<l->K ↥25 (lo+i)<=K ↥25 (lo+k))/\(∀ i,l<=i->i<k->K ↥25 (lo+k)<K ↥25 (lo+i))) ?istep ?ifin ?iinit) ?ipost)
  case iinit=>exact ⟨rfl,0,k,rfl,⋯,⋯,⋯,fun i hi=>⋯,fun i h1 h2=>⋯⟩
  case ifin =>
   rintro c st'' ⟨rfl,l,r,rfl,hlr,hrk,hm,hlo,hhi⟩
   have:l=r:=⋯
   subst this
   exact ⟨rfl,l,l,rfl,hrk,hlo,hhi⟩
  case istep =>
   rintro x c st'' _ hxk ⟨rfl,l,r,rfl,hlr,hrk,hm,hlo,hhi⟩
   dsimp only
   by_cases hge:l>=r
   ·rw [if_pos hge]
    have:l=r:=⋯
    subst this
    exact wpS_pure ⟨rfl,l,l,rfl,hrk,hlo,hhi⟩
   ·rw [if_neg hge]
    refine wpS_bind (kC hB' h0 ⋯ ⋯ ?_)
    by_cases hless:K (arrOf st'') (lo+k)<K (arrOf st'') (lo+(l+r) / 2)
    ·simp only [hless,decide_true,if_true]
     refine wpS_pure ⟨rfl,l,(l+r) / 2,rfl,⋯,⋯,⋯,hlo,fun i h1 h2 => ?_⟩
     exact Int.lt_of_lt_of_le hless (hs' _ _ ⋯ ⋯ ⋯)
    ·simp only [hless,decide_false,Ô,if_false]
     refine wpS_pure ⟨rfl,(l+r) / 2+1,r,rfl,⋯,⋯,⋯,fun i h1 => ?_,hhi⟩
     exact Œ (hs' (lo+i) (lo+(l+r) / 2) ⋯ ⋯ ⋯) (Int.not_lt.mp hless)
  case ipost =>
   rintro c st'' ⟨rfl,l,r,rfl,hlk,hlo,hhi⟩
   show wpS _ _ _ _ (do moveDown' (lo+k) (lo+l);pure (þ (none,()))) _ _
   rw [moveDown'_eq]
   have hks:lo+k<(arrOf st'').size:=by rw [hB'.size];omega
   have hd:lo+k - (lo+l)=k - l:=⋯
   refine wpS_bind (wpS_modify (wpS_pure ⟨rfl,hB'.setArr (bubble_perm _ _ _),hp,?_,?_⟩))
   ·rw [show min (k+1) n=k+1 by omega]
    intro i j h1 hij hj
    show K (bubble (arrOf st'') (lo+k) (lo+k - (lo+l))) i<=K (bubble (arrOf st'') (lo+k) (lo+k - (lo+l))) j
    rw [hd,K_bubble hks ⋯,K_bubble hks ⋯,show lo+k - (k - l)=lo+l by omega]
    have lo':∀ i,lo<=i->i<lo+l->K (arrOf st'') i<=K (arrOf st'') (lo+k):=fun i a b=>by
     have:=hlo (i - lo) ⋯
     rw [show lo+(i - lo)=i by omega] at this
     exact this
    have hi':∀ i,lo+l<=i->i<lo+k->K (arrOf st'') (lo+k)<=K (arrOf st'') i:=fun i a b=>by
     have:=hhi (i - lo) ⋯ ⋯
     rw [show lo+(i - lo)=i by omega] at this
     exact Þ this
    repeat' split
    all_goals first
     | (exfalso;omega)
     | exact í _
     | exact lo' _ ⋯ ⋯
     | exact hi' _ ⋯ ⋯
     | exact hs' _ _ ⋯ ⋯ ⋯
   ·intro q hq
    show K (bubble (arrOf st'') (lo+k) (lo+k - (lo+l))) q=_
    rw [hd,K_bubble hks ⋯,if_neg ⋯,if_neg ⋯]
    exact ho q hq
def NOn (xs:Array Keyed) (lo n:Nat):Prop:=∀ i j,lo<=i->i<=j->j<lo+n->K xs j<=K xs i
def KD (lo a nrem:Nat):SM AscSt :=
 forIn [a:nrem] ((none,a):AscSt) fun _ __s=>do
  let __x<-ltAt' (lo+__s.snd) (lo+__s.snd - 1)
  match __x with
  | some smaller=>if smaller=true then pure (Ő (none,__s.snd)) else pure (þ (none,__s.snd+1))
  | _=>pure (Ő (some none,__s.snd))
def gQ (lo n nrem:Nat):SM (Option Nat):=do
 reverseSlice' lo (lo+n)
 let __s<-KD lo n nrem
 match __s.fst with
 | some r=>pure r
 | none=>pure (some __s.snd)
def BQ (lo n nrem:Nat):SM DescSt :=
 forIn [n:nrem] ((none,n,0):DescSt) fun _ __s=>do
  let __x<-ltAt' (lo+__s.snd.fst) (lo+__s.snd.fst - 1)
  match __x with
  | some smaller =>
   if smaller=true then
    if __s.snd.snd>0 then do
     reverseSlice' (lo+__s.snd.fst - (__s.snd.snd+1)) (lo+__s.snd.fst)
     pure (þ (none,__s.snd.fst+1,0))
    else pure (þ (none,__s.snd.fst+1,0))
   else do
    let __x<-ltAt' (lo+__s.snd.fst - 1) (lo+__s.snd.fst)
    match __x with
    | some larger =>
     if larger=true then pure (Ő (none,__s.snd.fst,__s.snd.snd))
     else pure (þ (none,__s.snd.fst+1,__s.snd.snd+1))
    | _=>pure (Ő (some none,__s.snd.fst,__s.snd.snd))
  | _=>pure (Ő (some none,__s.snd.fst,__s.snd.snd))
def sv (lo n nrem:Nat):SM (Option Nat):=do
 liftM (rule "list.sort.descending-run")
 let __s<-BQ lo (n+1) nrem
 match __s.fst with
 | some r=>pure r
 | none =>
  if __s.snd.snd>0 then do
   reverseSlice' (lo+__s.snd.fst - (__s.snd.snd+1)) (lo+__s.snd.fst)
   gQ lo __s.snd.fst nrem
  else gQ lo __s.snd.fst nrem
theorem qo (lo nrem:Nat):countRun' lo nrem=(do
  let __s<-KD lo 1 nrem
  match __s.fst with
  | some r=>pure r
  | none =>
   if (__s.snd == nrem)=true then pure (some __s.snd)
   else if __s.snd>1 then do
    let __x<-ltAt' lo (lo+__s.snd - 1)
    match __x with
    | some rose=>if rose=true then pure (some __s.snd) else do
      reverseSlice' lo (lo+__s.snd)
      sv lo __s.snd nrem
    | _=>pure none
   else sv lo __s.snd nrem):=by
 have tl:∀ n,(do
   reverseSlice' lo (lo+n)
   let __s<-KD lo n nrem
   match __s.fst with
   | some r=>pure r
   | none=>pure (some __s.snd):SM (Option Nat))=gQ lo n nrem:=fun n=>rfl
 rw [countRun'_eq]
 refine congr (congrArg bind rfl) (funext fun c => ?_)
 obtain ⟨r,n⟩:=c
 cases r with
 | some r=>rfl
 | none =>
  have desc:∀ k:Nat,(do
    liftM (rule "list.sort.descending-run")
    let c<-BQ lo (k+1) nrem
    match c.fst with
    | some r=>pure r
    | none =>
     if c.snd.snd>0 then do
      reverseSlice' (lo+c.snd.fst - (c.snd.snd+1)) (lo+c.snd.fst)
      gQ lo c.snd.fst nrem
     else gQ lo c.snd.fst nrem:SM (Option Nat))=sv lo k nrem:=fun k=>rfl
  show (if (n == nrem)=true then _ else _)=_
  refine congrArg (ite _ _) ?_
  show (if n>1 then _ else _)=(if n>1 then _ else _)
  by_cases g:n>1
  ·rw [if_pos g]
   refine ĩ ?_ (if_pos g).symm
   refine congrArg (bind _) (funext fun x => ?_)
   cases x with
   | none=>rfl
   | some rose =>
    cases rose with
    | true=>rfl
    | false =>
     refine congrArg (bind _) (funext fun _r => ?_)
     unfold sv
     refine congrArg (bind _) (funext fun _u => ?_)
     refine congr (congrArg bind rfl) (funext fun c2 => ?_)
     obtain ⟨r2,n2,q2⟩:=c2
     cases r2 with
     | some r2=>rfl
     | none =>
      have tail:∀ (z:SM (Option Nat)),z=gQ lo n2 nrem->z=gQ lo n2 nrem:=fun z e=>e
      by_cases hq:q2>0
      ·refine ĩ (if_pos hq) (ĩ ?_ (if_pos hq).symm)
       refine congrArg (bind _) (funext fun _v => ?_)
       unfold gQ
       refine congrArg (bind _) (funext fun _w => ?_)
       refine congr (congrArg bind rfl) (funext fun c3 => ?_)
       obtain ⟨r3,n3⟩:=c3
       cases r3<;>rfl
      ·refine ĩ (if_neg hq) (ĩ ?_ (if_neg hq).symm)
       unfold gQ
       refine congrArg (bind _) (funext fun _w => ?_)
       refine congr (congrArg bind rfl) (funext fun c3 => ?_)
       obtain ⟨r3,n3⟩:=c3
       cases r3<;>rfl
  ·rw [if_neg g]
   refine ĩ ?_ (if_neg g).symm
   unfold sv
   refine congrArg (bind _) (funext fun _u => ?_)
   refine congr (congrArg bind rfl) (funext fun c2 => ?_)
   obtain ⟨r2,n2,q2⟩:=c2
   cases r2 with
   | some r2=>rfl
   | none =>
    have tail:∀ (z:SM (Option Nat)),z=gQ lo n2 nrem->z=gQ lo n2 nrem:=fun z e=>e
    by_cases hq:q2>0
    ·refine ĩ (if_pos hq) (ĩ ?_ (if_pos hq).symm)
     refine congrArg (bind _) (funext fun _v => ?_)
     unfold gQ
     refine congrArg (bind _) (funext fun _w => ?_)
     refine congr (congrArg bind rfl) (funext fun c3 => ?_)
     obtain ⟨r3,n3⟩:=c3
     cases r3<;>rfl
    ·refine ĩ (if_neg hq) (ĩ ?_ (if_neg hq).symm)
     unfold gQ
     refine congrArg (bind _) (funext fun _w => ?_)
     refine congr (congrArg bind rfl) (funext fun c3 => ?_)
     obtain ⟨r3,n3⟩:=c3
     cases r3<;>rfl
end
end TS
namespace TS
open PySem PyProof.Rows
section
variable {prog:Program} {w:World} {A:Around} {E:Value->Shared->Prop} {s:Shared} {a₀:Array Keyed}
structure Eq' (a₀:Array Keyed) (st st':SortSt) (lo nrem:Nat):Prop where
 sb:SB a₀ st'
 pend:pendingOf st'=pendingOf st
 out:Out ↥25 ↥76 lo nrem
theorem Eq'.rev {st st':SortSt} {lo nrem i j:Nat} (h:Eq' a₀ st st' lo nrem) (hn:lo+nrem<=a₀.size) (hi:lo<=i) (hj:j<=lo+nrem):Eq' a₀ st (setArr st' (mirror ↥25 i j ((j - i) / 2))) lo nrem:=by
 have hz:=h.sb.size
 refine ⟨h.sb.setArr (mirror_perm _ _ _ _),h.pend,fun k hk => ?_⟩
 show K (mirror ↥25 i j ((j - i) / 2)) k=_
 rw [K_mirror ⋯,if_neg ⋯]
 exact h.out k hk
theorem sX {st st':SortSt} {lo a nrem:Nat} {Q:AscSt->SortSt->Prop} (h0:IK a₀.toList) (hn:lo+nrem<=a₀.size) (ha:1<=a) (han:a<=nrem) (hB:SB a₀ st')
  (hs:SOn ↥25 lo a)
  (h:∀ n,a<=n->n<=nrem->SOn ↥25 lo n->(n=nrem\/K ↥25 (lo+n)<K ↥25 (lo+n - 1))->Q (none,n) st') :
  wpS ↥3 A E s (KD lo a nrem) Q st':=by
 unfold KD
 refine wpS_forRange (I:=fun x c s2=>s2=st'/\c=(none,x)/\SOn ↥25 lo x) ?step ?fin ⟨rfl,rfl,hs⟩
 case fin =>
  rintro c s2 ⟨rfl,rfl,hs'⟩
  rw [show max a nrem=nrem by omega] at hs' ⊢
  exact h nrem han ↥15 hs' (.inl rfl)
 case step =>
  rintro x c s2 hax hxn ⟨rfl,rfl,hs'⟩
  dsimp only
  refine wpS_bind (kC hB h0 ⋯ ⋯ ?_)
  by_cases hless:K (arrOf s2) (lo+x)<K (arrOf s2) (lo+x - 1)
  ·simp only [hless,decide_true,if_true]
   exact wpS_pure (h x hax ⋯ hs' (.inr hless))
  ·simp only [hless,decide_false,Ô,if_false]
   refine wpS_pure ⟨rfl,rfl,fun i j hi hij hj => ?_⟩
   by_cases hjx:j<lo+x
   ·exact hs' i j hi hij hjx
   ·have hj':j=lo+x:=⋯
    subst hj'
    by_cases hi':i=lo+x
    ·subst hi';exact í _
    ·exact Œ (hs' i (lo+x - 1) hi ⋯ ⋯) (Int.not_lt.mp hless)
theorem pz {st st':SortSt} {lo n nrem:Nat} {Q:Option Nat->SortSt->Prop} (h0:IK a₀.toList) (hn:lo+nrem<=a₀.size) (h1:1<=n) (hnn:n<=nrem) (hE:Eq' a₀ st st' lo nrem)
  (hs:NOn ↥25 lo n) (h:∀ m st',Eq' a₀ st st' lo nrem->1<=m->m<=nrem->SOn ↥25 lo m->Q (some m) st') :
  wpS ↥3 A E s (gQ lo n nrem) Q st':=by
 unfold gQ
 have hsz:lo+n<=(arrOf st').size:=by rw [hE.sb.size];omega
 refine wpS_bind (wpS_reverse ?_)
 have hE':=hE.rev (i:=lo) (j:=lo+n) hn ↥15 ⋯
 refine wpS_bind (sX (st:=st) h0 hn h1 hnn hE'.sb ?_ fun m hm1 hm2 hsm _=>wpS_pure (h m _ hE' ⋯ hm2 hsm))
 intro i j hi hij hj
 show K (mirror ↥25 lo (lo+n) ((lo+n - lo) / 2)) i<=K (mirror ↥25 lo (lo+n) ((lo+n - lo) / 2)) j
 rw [K_mirror hsz,K_mirror hsz,if_pos ⋯,if_pos ⋯]
 exact hs _ _ ⋯ ⋯ ⋯
theorem wj {st st':SortSt} {lo n nrem:Nat} {Q:DescSt->SortSt->Prop} (h0:IK a₀.toList) (hn:lo+nrem<=a₀.size) (h1:1<=n) (hnn:n<=nrem) (hE:Eq' a₀ st st' lo nrem)
  (hs:NOn ↥25 lo n)
  (h:∀ m neq st',Eq' a₀ st st' lo nrem->n<=m->m<=nrem->NOn ↥25 lo m->neq+1<=m->(∀ i,lo+m - (neq+1)<=i->i<lo+m->K ↥25 i=K ↥25 (lo+m - 1))->Q (none,m,neq) st') :
  wpS ↥3 A E s (BQ lo n nrem) Q st':=by
 unfold BQ
 refine wpS_forRange (I:=fun x c s2=>∃ neq,c=(none,x,neq)/\Eq' a₀ st s2 lo nrem/\NOn (arrOf s2) lo x/\neq+1<=x /\
   (∀ i,lo+x - (neq+1)<=i->i<lo+x->K (arrOf s2) i=K (arrOf s2) (lo+x - 1))) ?step ?fin ⟨0,rfl,hE,hs,⋯,fun i h1 h2=>by congr 1;omega⟩
 case fin =>
  rintro c s2 ⟨neq,rfl,hE',hs',hq,he⟩
  rw [show max n nrem=nrem by omega] at hs' hq he ⊢
  exact h nrem neq s2 hE' hnn ↥15 hs' hq he
 case step =>
  rintro x c s2 hax hxn ⟨neq,rfl,hE',hs',hq,he⟩
  dsimp only
  have hsz:lo+x<=(arrOf s2).size:=by rw [hE'.sb.size];omega
  refine wpS_bind (kC hE'.sb h0 ⋯ ⋯ ?_)
  by_cases hless:K (arrOf s2) (lo+x)<K (arrOf s2) (lo+x - 1)
  ·simp only [hless,decide_true,if_true]
   have step1:∀ xs:Array Keyed,(∀ k,K xs k=K (arrOf s2) k)->NOn xs lo (x+1):=by
    intro xs hk i j hi hij hj
    rw [hk,hk]
    by_cases hjx:j<lo+x
    ·exact hs' i j hi hij hjx
    ·have hj':j=lo+x:=⋯
     subst hj'
     by_cases hi':i=lo+x
     ·subst hi';exact í _
     ·exact Œ (Þ hless) (hs' i (lo+x - 1) hi ⋯ ⋯)
   by_cases hneq:neq>0
   ·rw [if_pos hneq]
    refine wpS_bind (wpS_reverse (wpS_pure ⟨0,rfl,hE'.rev hn ⋯ ⋯,step1 _ (K_mirror_equal hsz he),⋯,fun i h1 h2=>by congr 1;omega⟩))
   ·rw [if_neg hneq]
    exact wpS_pure ⟨0,rfl,hE',step1 _ (fun _=>rfl),⋯,fun i h1 h2=>by congr 1;omega⟩
  ·simp only [hless,decide_false,Ô,if_false]
   refine wpS_bind (kC hE'.sb h0 ⋯ ⋯ ?_)
   by_cases hlarger:K (arrOf s2) (lo+x - 1)<K (arrOf s2) (lo+x)
   ·simp only [hlarger,decide_true,if_true]
    exact wpS_pure (h x neq s2 hE' hax ⋯ hs' hq he)
   ·simp only [hlarger,decide_false,Ô,if_false]
    have heqx:K (arrOf s2) (lo+x)=K (arrOf s2) (lo+x - 1):=⋯
    refine wpS_pure ⟨neq+1,rfl,hE',fun i j hi hij hj => ?_,⋯,fun i h1 h2 => ?_⟩
    ·by_cases hjx:j<lo+x
     ·exact hs' i j hi hij hjx
     ·have hj':j=lo+x:=⋯
      subst hj'
      by_cases hi':i=lo+x
      ·subst hi';exact í _
      ·rw [heqx];exact hs' i (lo+x - 1) hi ⋯ ⋯
    ·rw [show lo+(x+1) - 1=lo+x by omega]
     by_cases hix:i=lo+x
     ·subst hix;rfl
     ·rw [heqx];exact he i ⋯ ⋯
theorem pA {st st':SortSt} {lo n nrem:Nat} {Q:Option Nat->SortSt->Prop} (h0:IK a₀.toList) (hn:lo+nrem<=a₀.size) (hnn:n+1<=nrem) (hE:Eq' a₀ st st' lo nrem)
  (hs:NOn ↥25 lo (n+1)) (h:∀ m st',Eq' a₀ st st' lo nrem->1<=m->m<=nrem->SOn ↥25 lo m->Q (some m) st') :
  wpS ↥3 A E s (sv lo n nrem) Q st':=by
 unfold sv
 refine wpS_bind (wpS_lift (wpAny_rule ⟨rfl,?_⟩))
 refine wpS_bind (wj h0 hn ⋯ hnn hE hs fun m neq s2 hE' hm1 hm2 hs' hq he => ?_)
 dsimp only
 have hsz:lo+m<=(arrOf s2).size:=by rw [hE'.sb.size];omega
 by_cases hneq:neq>0
 ·rw [if_pos hneq]
  refine wpS_bind (wpS_reverse (pz h0 hn ⋯ hm2 (hE'.rev hn ⋯ ⋯) ?_ h))
  intro i j hi hij hj
  show K (mirror (arrOf s2) _ _ _) j<=K (mirror (arrOf s2) _ _ _) i
  rw [K_mirror_equal hsz he,K_mirror_equal hsz he]
  exact hs' i j hi hij hj
 ·rw [if_neg hneq]
  exact pz h0 hn ⋯ hm2 hE' hs' h
theorem uV {st:SortSt} {lo nrem:Nat} {Q:Option Nat->SortSt->Prop} (h0:IK a₀.toList) (hn:lo+nrem<=a₀.size) (h1:1<=nrem) (hB:SB a₀ st)
  (h:∀ m st',Eq' a₀ st st' lo nrem->1<=m->m<=nrem->SOn ↥25 lo m->Q (some m) st') :
  wpS ↥3 A E s (countRun' lo nrem) Q st:=by
 have hE:Eq' a₀ st st lo nrem:=⟨hB,rfl,fun _ _=>rfl⟩
 rw [qo]
 refine wpS_bind (sX (st:=st) h0 hn (ñ 1) h1 hB (fun i j hi hij hj=>by
  have:i=j:=⋯
  subst this;exact í _) fun n hn1 hn2 hsn hor => ?_)
 dsimp only
 by_cases hnn:n=nrem
 ·rw [if_pos (by simpa using hnn)]
  exact wpS_pure (h n st hE hn1 hn2 hsn)
 ·rw [if_neg (by simpa using hnn)]
  have hlt:K ↥76 (lo+n)<K ↥76 (lo+n - 1):=hor.resolve_left hnn
  by_cases hgt:n>1
  ·rw [if_pos hgt]
   refine wpS_bind (kC hB h0 ⋯ ⋯ ?_)
   by_cases hrose:K ↥76 lo<K ↥76 (lo+n - 1)
   ·simp only [hrose,decide_true,if_true]
    exact wpS_pure (h n st hE hn1 hn2 hsn)
   ·simp only [hrose,decide_false,Ô,if_false]
    have hsz:lo+n<=(arrOf st).size:=by rw [hB.size];omega
    have hall:∀ k,lo<=k->k<lo+n->K ↥76 k=K ↥76 (lo+n - 1):=by
     intro k hk0 hk
     have a1:=hsn lo k ⋯ ⋯ hk
     have a2:=hsn k (lo+n - 1) ⋯ ⋯ ⋯
     omega
    refine wpS_bind (wpS_reverse (pA h0 hn ⋯ (hE.rev hn ↥15 ⋯) ?_ h))
    intro i j hi hij hj
    show K (mirror ↥76 _ _ _) j<=K (mirror ↥76 _ _ _) i
    rw [K_mirror_equal hsz hall,K_mirror_equal hsz hall]
    by_cases hjn:j<lo+n
    ·rw [hall i ⋯ ⋯,hall j ⋯ hjn];exact í _
    ·have hj':j=lo+n:=⋯
     subst hj'
     by_cases hi':i=lo+n
     ·subst hi';exact í _
     ·rw [hall i ⋯ ⋯];exact Þ hlt
  ·rw [if_neg hgt]
   have hn1':n=1:=⋯
   subst hn1'
   refine pA h0 hn ⋯ hE ?_ h
   intro i j hi hij hj
   by_cases hi':i=j
   ·subst hi';exact í _
   ·have hi0:i=lo:=⋯
    have hj1:j=lo+1:=⋯
    subst hi0;subst hj1
    rw [show i+1 - 1=i by omega] at hlt
    exact Þ hlt
end
end TS
namespace TS
open PySem PyProof.Rows
abbrev Run:=Nat×Nat×Nat
def Ch (arr:Array Keyed):Nat->List Run->Nat->Prop
 | s,[],e=>s=e
 | s,x::r,e=>x.1=s/\1<=x.2.1/\SOn arr s x.2.1/\Ch arr (s+x.2.1) r e
section
variable {arr arr':Array Keyed}
theorem Ch.len:∀ {p:List Run} {s e:Nat},Ch arr s p e->s+p.length<=e
 | [],s,e,h=>by cases h;exact ñ _
 | x::r,s,e,h=>by
  have:=Ch.len h.2.2.2
  have:=h.2.1
  rw [Ò]
  omega
theorem Ch.congr:∀ {p:List Run} {s e:Nat},(∀ k,s<=k->k<e->K arr' k=K arr k)->Ch arr s p e->Ch arr' s p e
 | [],s,e,_,h=>h
 | x::r,s,e,hk,h=>by
  have l:=Ch.len h.2.2.2
  refine ⟨h.1,h.2.1,fun i j a b c => ?_,Ch.congr (fun k a b=>hk k ⋯ b) h.2.2.2⟩
  rw [hk i ⋯ ⋯,hk j ⋯ ⋯]
  exact h.2.2.1 i j a b c
theorem Ch.app:∀ {p q:List Run} {s e:Nat},Ch arr s (p++q) e↔∃ m,Ch arr s p m/\Ch arr m q e
 | [],q,s,e=>⟨fun h=>⟨s,rfl,h⟩,fun ⟨m,h1,h2⟩=>by cases h1;exact h2⟩
 | x::r,q,s,e=>by
  constructor
  ·rintro ⟨a,b,c,d⟩
   obtain ⟨m,h1,h2⟩:=Ch.app.mp d
   exact ⟨m,⟨a,b,c,h1⟩,h2⟩
  ·rintro ⟨m,⟨a,b,c,h1⟩,h2⟩
   exact ⟨a,b,c,Ch.app.mpr ⟨m,h1,h2⟩⟩
theorem Ch.mod {f:Run->Run} (hf:∀ x,(f x).1=x.1/\(f x).2.1=x.2.1):∀ {p:List Run} {s e i:Nat},Ch arr s p e->Ch arr s (p.modify i f) e
 | [],s,e,i,h=>by rw [List.modify_nil];exact h
 | x::r,s,e,0,h=>by
  rw [List.modify_zero_cons]
  refine ⟨by rw [(hf x).1];exact h.1,by rw [(hf x).2];exact h.2.1,by rw [(hf x).2];exact h.2.2.1,by rw [(hf x).2];exact h.2.2.2⟩
 | x::r,s,e,i+1,h=>by
  rw [List.modify_succ_cons]
  exact ⟨h.1,h.2.1,h.2.2.1,Ch.mod hf h.2.2.2⟩
end
theorem wQ {p:List Run} {i:Nat} {x y:Run} (h1:p[i]? = some x) (h2:p[i+1]? = some y):∃ pre post,p=pre++x::y::post/\pre.length=i:=by
 obtain ⟨l1,e1⟩:=É.mp h1
 obtain ⟨l2,e2⟩:=É.mp h2
 refine ⟨p.take i,p.drop (i+2),?_,by rw [é];omega⟩
 conv=>lhs;rw [<- Ħ i p]
 rw [đ l1,đ l2,e1,e2]
section
variable {prog:Program} {w:World} {A:Around} {E:Value->Shared->Prop} {s:Shared} {a₀:Array Keyed}
theorem gO {st:SortSt} {i lo:Nat} {Q:Bool->SortSt->Prop} (h0:IK a₀.toList) (hB:SB a₀ st) (hc:Ch ↥76 0 (pendingOf st).toList lo) (hlo:lo<=a₀.size) (hi:i+1<(pendingOf st).size)
  (h:∀ st',SB a₀ st'->Ch ↥25 0 (pendingOf st').toList lo->(pendingOf st').size+1=(pendingOf st).size->(∀ k,lo<=k->K ↥25 k=K ↥76 k)->Q true st') :
  wpS ↥3 A E s (mergeAt' i) Q st:=by
 obtain ⟨⟨sa,na,pw⟩,p1⟩:∃ x,(pendingOf st)[i]? = some x:=⟨(pendingOf st)[i],getElem?_pos _ i ⋯⟩
 obtain ⟨⟨sb,nb,pq⟩,p2⟩:∃ x,(pendingOf st)[i+1]? = some x:=⟨(pendingOf st)[i+1],getElem?_pos _ (i+1) hi⟩
 obtain ⟨pre,post,ep,el⟩:=wQ (p:=(pendingOf st).toList) (i:=i) (by rw [ì];exact p1) (by rw [ì];exact p2)
 rw [ep] at hc
 obtain ⟨m,c1,c2⟩:=Ch.app.mp hc
 obtain ⟨d1,d2,d3,d4,d5,d6,d7⟩:=c2
 simp only at d1 d2 d3 d4 d5 d6 d7
 subst d1
 have l7:=d7.len
 refine qT h0 hB p1 p2 d4 d2 d5 ⋯ d3 (by rw [d4];exact d6) fun st' hB' hp hs' hk => ?_
 have e2:(pendingOf st').toList=pre++(sa,na+nb,pw)::post:=by
  rw [hp,Array.toList_eraseIdxIfInBounds,Ãe,ep]
  rw [List.set_append_right _ _ ⋯,el,Nat.sub_self,List.set_cons_zero]
  rw [List.eraseIdx_append_of_length_le ⋯,el,show i+1 - i=1 by omega]
  rfl
 refine h st' hB' ?_ ?_ fun k hk1=>hk k (.inr ⋯)
 ·rw [e2]
  refine Ch.app.mpr ⟨sa,c1.congr fun k a b=>hk k (.inl b),rfl,by show 1<=na+nb;omega,hs',?_⟩
  show Ch ↥25 (sa+(na+nb)) post lo
  rw [<- Nat.add_assoc]
  exact d7.congr fun k a b=>hk k (.inr a)
 ·have q1:=congrArg Äe e2
  have q2:=congrArg Äe ep
  rw [Ã,Æ,Ò] at q1
  rw [Ã,Æ,Ò,Ò] at q2
  omega
theorem nF {st3:SortSt} {lo n x:Nat} (b:SB a₀ st3) (c:Ch (arrOf st3) 0 (pendingOf st3).toList lo) (d:SOn (arrOf st3) lo n) (n1:1<=n) (hn:lo+n<=a₀.size) (hx:x<=lo) :
  wpS ↥3 A E s (do
    modify fun s=>setPending s ((pendingOf s).push (lo,n,0))
    pure (þ (none,lo+n)):SM (ForInStep (Option Unit×Nat))) (fun r st'=>∃ lo,r=.yield (none,lo)/\x+1<=lo/\lo<=a₀.size/\SB a₀ st'/\Ch ↥25 0 (pendingOf st').toList lo) st3:=by
 refine wpS_bind (wpS_modify (wpS_pure ⟨lo+n,rfl,⋯,hn,⟨b.perm,b.kind,b.failed⟩,?_⟩))
 show Ch (arrOf st3) 0 ((pendingOf st3).push (lo,n,0)).toList (lo+n)
 rw [ņ]
 exact Ch.app.mpr ⟨lo,c,rfl,n1,d,rfl⟩
theorem zO {st:SortSt} {Q:Unit->SortSt->Prop} (h0:IK a₀.toList) (hB:SB a₀ st) (hp:pendingOf st = #[]) (h2:2<=a₀.size)
  (h:∀ st',SB a₀ st'->SOn ↥25 0 a₀.size->Q () st'):wpS ↥3 A E s sortRuns' Q st:=by
 rw [sortRuns'_eq]
 refine wpS_bind (wpS_get ?_)
 dsimp only
 rw [hB.size]
 generalize minRun' a₀.size a₀.size 0=mr
 refine wpS_bind (wpS_mono (wpS_forRange
  (I:=fun x c st'=>∃ lo,c=(none,lo)/\x<=lo/\lo<=a₀.size/\SB a₀ st'/\Ch ↥25 0 (pendingOf st').toList lo)
  (Q:=fun c st'=>c=(none,a₀.size)/\SB a₀ st'/\Ch ↥25 0 (pendingOf st').toList a₀.size) ?step ?fin ⟨0,rfl,ñ _,Ā _,hB,by rw [hp];rfl⟩) ?post)
 case fin =>
  rintro c st' ⟨lo,rfl,a1,a2,a3,a4⟩
  have:lo=a₀.size:=⋯
  subst this
  exact ⟨rfl,a3,a4⟩
 case step =>
  rintro x c st' _ hx ⟨lo,rfl,a1,a2,a3,a4⟩
  dsimp only
  by_cases g:lo>=a₀.size
  ·rw [if_pos g]
   have:lo=a₀.size:=⋯
   subst this
   exact wpS_pure ⟨rfl,a3,a4⟩
  ·rw [if_neg g]
   refine wpS_bind (uV h0 ⋯ ⋯ a3 fun m st2 hE hm1 hm2 hs2 => ?_)
   have c2:Ch (arrOf st2) 0 (pendingOf st2).toList lo:=by rw [hE.pend];exact a4.congr fun k _ b=>hE.out k (.inl b)
   dsimp only
   by_cases gm:m<mr
   ·rw [if_pos gm]
    refine wpS_bind (wpS_lift (wpAny_rule ⟨rfl,?_⟩))
    refine wpS_bind (zP h0 ⋯ ⋯ hE.sb hs2 fun st3 d1 d2 d3 d4 => ?_)
    rw [if_neg ↥1]
    have cB:=d1
    have cC:Ch (arrOf st3) 0 (pendingOf st3).toList lo:=by rw [d2];exact c2.congr fun k _ b=>d4 k (.inl b)
    have cS:=d3
    refine wpS_bind (wpS_get ?_)
    cases hb:(pendingOf st3).back? with
    | none =>
     refine wpS_mono (nF (a₀:=a₀) (n:=(min (a₀.size - lo) mr)) (x:=x) cB cC cS ⋯ ⋯ a1) fun r s4 hp => ?_
     obtain ⟨lo',rfl,f⟩:=hp
     exact ⟨lo',rfl,f⟩
    | some z =>
     obtain ⟨s1,m1,q1⟩:=z
     dsimp only
     generalize power' a₀.size (2*s1+m1) (2*s1+m1+m1+(min (a₀.size - lo) mr)) a₀.size=pw
     refine wpS_bind (wpS_mono (wpS_forRange (I:=fun _ c st'=>c=(none,())/\SB a₀ st'/\Ch ↥25 0 (pendingOf st').toList lo/\SOn ↥25 lo (min (a₀.size - lo) mr))
      (Q:=fun c st'=>c=(none,())/\SB a₀ st'/\Ch ↥25 0 (pendingOf st').toList lo/\SOn ↥25 lo (min (a₀.size - lo) mr)) (fun y c st4 _ _ hI => ?_) (fun _ _ hh=>hh) ⟨rfl,cB,cC,cS⟩) fun c st4 hI => ?_)
     ·obtain ⟨rfl,b1,b2,b3⟩:=hI
      refine wpS_bind (wpS_get ?_)
      by_cases g:(pendingOf st4).size>1
      ·rw [if_pos g]
       obtain ⟨⟨u1,u2,older⟩,eo⟩:∃ z,(pendingOf st4)[(pendingOf st4).size - 2]? = some z:=⟨(pendingOf st4)[(pendingOf st4).size - 2],getElem?_pos _ _ ⋯⟩
       rw [eo]
       dsimp only
       by_cases g2:older<=pw
       ·rw [if_pos g2]
        exact wpS_pure ⟨rfl,b1,b2,b3⟩
       ·rw [if_neg g2]
        refine wpS_bind (gO h0 b1 b2 ⋯ ⋯ fun st5 e1 e2 _ e4 => ?_)
        rw [if_neg ↥1]
        refine wpS_pure ⟨rfl,e1,e2,fun i j f1 f2 f3 => ?_⟩
        rw [e4 i ⋯,e4 j ⋯]
        exact b3 i j f1 f2 f3
      ·rw [if_neg g]
       exact wpS_pure ⟨rfl,b1,b2,b3⟩
     ·obtain ⟨rfl,b1,b2,b3⟩:=hI
      dsimp only
      refine wpS_bind (wpS_modify ?_)
      refine wpS_mono (nF (a₀:=a₀) (n:=(min (a₀.size - lo) mr)) (x:=x) ⟨b1.perm,b1.kind,b1.failed⟩ ?_ b3 ⋯ ⋯ a1) fun r s4 hp => ?_
      ·show Ch (arrOf st4) 0 ((pendingOf st4).modify ((pendingOf st4).size - 1) fun x=>(x.fst,x.2.fst,pw)).toList lo
       rw [Êd]
       exact Ch.mod (f:=fun x=>(x.fst,x.2.fst,pw)) (fun x=>⟨rfl,rfl⟩) b2
      ·obtain ⟨lo',rfl,f⟩:=hp
       exact ⟨lo',rfl,f⟩
   ·rw [if_neg gm]
    have cB:=hE.sb
    have cC:Ch (arrOf st2) 0 (pendingOf st2).toList lo:=c2
    have cS:=hs2
    refine wpS_bind (wpS_get ?_)
    cases hb:(pendingOf st2).back? with
    | none =>
     refine wpS_mono (nF (a₀:=a₀) (n:=m) (x:=x) cB cC cS hm1 ⋯ a1) fun r s4 hp => ?_
     obtain ⟨lo',rfl,f⟩:=hp
     exact ⟨lo',rfl,f⟩
    | some z =>
     obtain ⟨s1,m1,q1⟩:=z
     dsimp only
     generalize power' a₀.size (2*s1+m1) (2*s1+m1+m1+m) a₀.size=pw
     refine wpS_bind (wpS_mono (wpS_forRange (I:=fun _ c st'=>c=(none,())/\SB a₀ st'/\Ch ↥25 0 (pendingOf st').toList lo/\SOn ↥25 lo m)
      (Q:=fun c st'=>c=(none,())/\SB a₀ st'/\Ch ↥25 0 (pendingOf st').toList lo/\SOn ↥25 lo m) (fun y c st4 _ _ hI => ?_) (fun _ _ hh=>hh) ⟨rfl,cB,cC,cS⟩) fun c st4 hI => ?_)
     ·obtain ⟨rfl,b1,b2,b3⟩:=hI
      refine wpS_bind (wpS_get ?_)
      by_cases g:(pendingOf st4).size>1
      ·rw [if_pos g]
       obtain ⟨⟨u1,u2,older⟩,eo⟩:∃ z,(pendingOf st4)[(pendingOf st4).size - 2]? = some z:=⟨(pendingOf st4)[(pendingOf st4).size - 2],getElem?_pos _ _ ⋯⟩
       rw [eo]
       dsimp only
       by_cases g2:older<=pw
       ·rw [if_pos g2]
        exact wpS_pure ⟨rfl,b1,b2,b3⟩
       ·rw [if_neg g2]
        refine wpS_bind (gO h0 b1 b2 ⋯ ⋯ fun st5 e1 e2 _ e4 => ?_)
        rw [if_neg ↥1]
        refine wpS_pure ⟨rfl,e1,e2,fun i j f1 f2 f3 => ?_⟩
        rw [e4 i ⋯,e4 j ⋯]
        exact b3 i j f1 f2 f3
      ·rw [if_neg g]
       exact wpS_pure ⟨rfl,b1,b2,b3⟩
     ·obtain ⟨rfl,b1,b2,b3⟩:=hI
      dsimp only
      refine wpS_bind (wpS_modify ?_)
      refine wpS_mono (nF (a₀:=a₀) (n:=m) (x:=x) ⟨b1.perm,b1.kind,b1.failed⟩ ?_ b3 hm1 ⋯ a1) fun r s4 hp => ?_
      ·show Ch (arrOf st4) 0 ((pendingOf st4).modify ((pendingOf st4).size - 1) fun x=>(x.fst,x.2.fst,pw)).toList lo
       rw [Êd]
       exact Ch.mod (f:=fun x=>(x.fst,x.2.fst,pw)) (fun x=>⟨rfl,rfl⟩) b2
      ·obtain ⟨lo',rfl,f⟩:=hp
       exact ⟨lo',rfl,f⟩
 case post =>
  rintro c st' ⟨rfl,b1,b2⟩
  dsimp only
  refine wpS_bind (wpS_mono (wpS_forRange (I:=fun x c st2=>c=(none,())/\SB a₀ st2/\Ch (arrOf st2) 0 (pendingOf st2).toList a₀.size/\((pendingOf st2).size<=1\/(pendingOf st2).size+x<=a₀.size))
   (Q:=fun c st2=>c=(none,())/\SB a₀ st2/\Ch (arrOf st2) 0 (pendingOf st2).toList a₀.size/\(pendingOf st2).size<=1) ?step2 ?fin2 ⟨rfl,b1,b2,.inr (by have:=b2.len;rw [Ã] at this;omega)⟩) ?post2)
  case fin2 =>
   rintro c st2 ⟨rfl,d1,d2,d3⟩
   exact ⟨rfl,d1,d2,⋯⟩
  case step2 =>
   rintro x c st2 _ hx ⟨rfl,d1,d2,d3⟩
   refine wpS_bind (wpS_get ?_)
   by_cases g:(pendingOf st2).size<=1
   ·rw [if_pos g]
    exact wpS_pure ⟨rfl,d1,d2,g⟩
   ·rw [if_neg g]
    have go:∀ i,i+1<(pendingOf st2).size->wpS ↥3 A E s (mergeAt' i) (fun r st'=>wpS ↥3 A E s (if (!r)=true then pure (Ő (some (),())) else pure (þ (none,())):SM (ForInStep (Option Unit×Unit))) (fun r st'=>match r with
      | Ő c'=>c'=(none,())/\SB a₀ st'/\Ch ↥25 0 (pendingOf st').toList a₀.size/\(pendingOf st').size<=1
      | þ c'=>c'=(none,())/\SB a₀ st'/\Ch ↥25 0 (pendingOf st').toList a₀.size/\((pendingOf st').size<=1\/(pendingOf st').size+(x+1)<=a₀.size)) st') st2:=fun i hi=>by
     refine gO h0 d1 d2 ↥15 hi fun st3 f1 f2 f3 _ => ?_
     rw [if_neg ↥1]
     exact wpS_pure ⟨rfl,f1,f2,⋯⟩
    have hidx:∀ (P:Prop) [Decidable P],(if P then (pendingOf st2).size - 2 - 1 else (pendingOf st2).size - 2)+1<(pendingOf st2).size:=fun P _=>by split<;>omega
    exact wpS_bind (wpS_mono (go _ (hidx _)) fun r s4 hp=>wpS_mono hp fun r' s5 hp'=>by cases r'<;>exact hp')
  case post2 =>
   rintro c st2 ⟨rfl,d1,d2,d3⟩
   refine wpS_pure (h st2 d1 ?_)
   cases hp2:(pendingOf st2).toList with
   | nil =>
    rw [hp2] at d2
    have:0=a₀.size:=d2
    omega
   | cons z r =>
    have hr:r=[]:=by
     have:=congrArg Äe hp2
     rw [Ã,Ò] at this
     exact List.length_eq_zero_iff.mp ⋯
    subst hr
    rw [hp2] at d2
    obtain ⟨f1,f2,f3,f4⟩:=d2
    have f4':0+z.2.1=a₀.size:=f4
    rw [Âa] at f4'
    rw [f4'] at f3
    exact f3
end
end TS
namespace ES
open PySem PySem.Spec PyProof.Rows L2 EV
theorem iG (a v:Value):argsOk "list.sort" ⟨[a],[(Ø "key",v)]⟩:=by unfold argsOk;kernel_rfl
theorem lO (a v:Value):argsOk "sorted" ⟨[a],[(Ø "key",v)]⟩:=by unfold argsOk;kernel_rfl
theorem ox (a F:Addr):Builtin.«list.sort» ⟨[.ref a],[(Ø "key",.ref F)]⟩=(do
  let items<-ĳ ↥114
  ó ↥114 fun _ => #[]
  let before<-seqEpoch a
  let held<-newTuple items.toList
  let keyStore<-newList []
  holding [held,keyStore] do
   rule "list.sort.key"
   for x in items do
    match<-(ż (.ref F) [x]).attempt with
    | .ok k=>ó keyStore (·.push k)
    | .error e =>
     rule "list.sort.key-raised"
     let made<-ĳ keyStore
     ó keyStore fun _ => #[]
     letGo made.toList.reverse [e]
     ó ↥114 fun _=>items;throw e
   let keys<-ĳ keyStore
   let kind<-if items.size<2 then pure general' else keyKind' keys
   let ((),s)<-(if items.size<2 then pure () else sortRuns').run (Ëa kind (keys.zip items) #[] 7 none)
   ó keyStore fun _ => #[]
   letGo ((arrOf s).map (·.1)).toList (failedOf s).toList
   let touched:=(<- seqEpoch a) != before
   ó ↥114 fun _=>(arrOf s).map (·.2)
   if let some e:=failedOf s then rule "list.sort.comparison-raised";throw e
   if touched then rule "list.sort.modified";raiseError "ValueError" "list modified during sort"
   ret .none):=by
 rfl
structure Mine (X:Cx) (pins:List ↥6) (a:Addr):Prop where
 loc:a≠X.env.locals
 new:X.s₀.heap.objs.size<=a
 pin:∀ p∈X.pn++pins,p.1≠a
section
variable {X:Cx} {pins:List ↥6} {σ:L2.St} {H:Hp} {s:Shared} {h':Heap} {a b:Addr} {o o':Obj}
theorem Mine.nofs (m:Mine X pins a) (I:Inv X pins σ H s):a∉X.fs:=fun hb=>by
 obtain ⟨_,o,ho,_⟩:=I.ok.funs.mem hb
 exact absurd (è (à ho) m.new) (ĉ _)
theorem xJ (I:Inv X pins σ H s) (e:s.heap.get? b=some o) (nc:∀ v,o.data ≠ .cell v):∀ x c,X.env.cells.lookup x=some c->c≠b:=fun x c q z=>by
 obtain ⟨v,u,hu,hd⟩:=I.cell x c q
 rw [z,e] at hu
 cases hu
 exact nc v hd
theorem kQ (I:Inv X pins σ H s) (m:Mine X pins a) (hn:H a=none) (e:s.heap.get? a=some o) (nc:∀ v,o.data ≠ .cell v):Inv X ((a,o)::pins) σ H s :=
 I.pins_of fun p hp=>by
  rcases Ö.mp hp with rfl | hp
  ·exact ⟨e,hn,m.loc,m.nofs I,nc⟩
  ·exact I.pin p (Ç _ hp)
theorem il {p:Addr×Obj} (I:Inv X (p::pins) σ H s):Inv X pins σ H s:=I.pins_of fun q hq=>I.pin q (Ç _ (ÿ _ hq))
theorem f9 {p:Addr×Obj} (I:Inv X (p::pins) σ H s):s.heap.get? p.1=some p.2/\H p.1=none/\p.1≠X.env.locals/\p.1∉X.fs/\∀ v,p.2.data ≠ .cell v:=I.pin p (Ç _ (.head _))
theorem jZ {t':Nat} (I:Inv X ((b,o)::pins) σ H s) (m:Mine X pins b) (k:∀ c u,c≠b->s.heap.get? c=some u->h'.get? c=some u) (hb:h'.get? b=some o') (nc:∀ v,o'.data ≠ .cell v) :
  Inv X ((b,o')::pins) σ H { s with heap:=h',toks:=t' }:=by
 obtain ⟨e,hn,hl,hf,hc⟩:=f9 I
 have I1:=il I
 exact kQ (I1.turned (t':=t') k hn hl (.inr m.new) (xJ I1 e hc) m.pin) m hn hb nc
theorem adopt {xs:List V} (I:Inv X pins σ H s) (m:Mine X pins a) (hn:H a=none) {its:List Value} {n:Nat} (e:s.heap.get? a=some (seqObj "list" its.toArray n)) (r:Vals xs its) (hz:xs.length<=sizeLine):Inv X pins σ (upd H a ↥131) s:=by
 have ne:∀ b u,H b=some u->b≠a:=fun b u q z=>by rw [z,hn] at q;cases q
 have K:=I.step (g':=s.gens) (d':=s.drawn) (t':=s.toks) (h':=s.heap) (H':=upd H a ↥131) (ch:=[a])
  (fun b hb=>by
   obtain rfl:b=a:=by simpa using hb
   exact ⟨.inr m.new,m.loc,xJ I e ↥134,m.pin⟩)
  (fun b o _ _ _ q _=>q) (fun b o _ _ _ q _=>⟨o.slots,q⟩) (fun b o hc q z=>by rw [ar (fun w=>hc (by simp [w]))];exact z) (fun b o _ q=>⟨o,q⟩)
  (fun b ys q=>by rw [ar (ne b _ q)];exact q) (fun b o u q=>by rw [ar (ne b _ q)];exact q) (fun b ps q=>⟨#[],by rw [ar (ne b _ q),q];simp⟩) (fun m hm=>hm)
  (fun b u q=>by
   by_cases hb:b=a
   ·subst hb
    rw [au] at q
    cases q
    exact ⟨hz,its,n,r,e⟩
   ·rw [ar hb] at q
    exact (I.hok b u q).stay (fun c v _ w=>w) (fun c w=>by rw [ar (ne c _ w)];exact w) fun c ys w=>by rw [ar (ne c _ w)];exact w) I.bare
 exact K
theorem JC {M:Model} {A:Around} {E:Value->Shared->Prop} {α:Type} {f:α->PUnit->Sem (ForInStep PUnit)} {Q:PUnit->Shared->Prop} (J:Nat->Shared->Prop):∀ (l:List α) (i0:Nat) (s:Shared),
  (∀ i x s,l[i]? = some x->J (i0+i) s->wpAny M A (f x ⟨⟩) (fun r s'=>r=.yield ⟨⟩/\J (i0+i+1) s') E s)->J i0 s->(∀ s,J (i0+l.length) s->Q ⟨⟩ s)->wpAny M A (forIn l ⟨⟩ f) Q E s
 | [],i0,s,_,h,fin=>by rw [Éa];exact wpAny_pure (fin s h)
 | x::l,i0,s,step,h,fin=>by
  rw [Àg]
  refine wpAny_bind (thn (step 0 x s rfl h) fun r s' ⟨e,h'⟩ => ?_)
  subst e
  exact JC J l (i0+1) s' (fun i y s2 hy h2=>thn (step (i+1) y s2 hy (by rw [show i0+(i+1)=i0+1+i by omega];exact h2)) fun r s3 ⟨e,h3⟩=>⟨e,by rw [show i0+1+i+1=i0+(i+1)+1 by omega];exact h3⟩) h' fun s2 h2=>fin s2 (by rw [Ò,show i0+(l.length+1)=i0+1+l.length by omega];exact h2)
end
theorem Je {kvs vs:List Value} {ns:List Int} {f:Int->Int} {xs:Array Keyed} (hK:IntsAre kvs (ns.map f)) (hV:IntsAre vs ns) (hp:xs.toList.Perm (kvs.zip vs)) (hs:TS.SOn xs 0 xs.size) :
  ∃ ns':List Int,IntsAre (xs.map (·.2)).toList ns'/\ns'.Perm ns/\ns'.Pairwise fun x y=>f x<=f y:=by
 have hz:∀ {kvs vs:List Value} {ns:List Int},IntsAre kvs (ns.map f)->IntsAre vs ns->∀ p∈kvs.zip vs,(∃ n t,p.2=.int n t)/\numOf p.1=f (numOf p.2):=by
  intro kvs vs ns hK hV
  induction hV generalizing kvs with
  | nil=>intro p hp;simp at hp
  | cons n t h ih =>
   cases hK with
   | cons m u hK =>
    intro p hp
    rcases Ö.mp hp with rfl | hp
    ·exact ⟨⟨n,t,rfl⟩,rfl⟩
    ·exact ih hK p hp
 have hx:∀ p∈xs.toList,(∃ n t,p.2=.int n t)/\numOf p.1=f (numOf p.2):=fun p h=>hz hK hV p (hp.mem_iff.mp h)
 refine ⟨xs.toList.map fun p=>numOf p.2,?_,?_,?_⟩
 ·rw [Array.toList_map]
  have h1:=intsAre_map (xs.toList.map (·.2)) (by
   intro v hv
   obtain ⟨p,hp',rfl⟩:=å.mp hv
   exact (hx p hp').1)
  rwa [ô] at h1
 ·have h1:=hp.map fun p=>numOf p.2
  have hl:vs.length<=kvs.length:=by rw [hK.length,hV.length,Á];exact ñ _
  have e2:(kvs.zip vs).map (fun p=>numOf p.2)=ns:=by
   have:(kvs.zip vs).map (fun p=>numOf p.2)=((kvs.zip vs).map Prod.snd).map numOf:=by rw [ô];rfl
   rw [this,List.map_snd_zip hl,hV.nums]
  rwa [e2] at h1
 ·rw [Ľ]
  intro i j hi hj hij
  have hi':i<xs.size:=by simpa using hi
  have hj':j<xs.size:=by simpa using hj
  have h1:=hs i j (Ā _) (ı hij) ⋯
  rw [K_eq hi',K_eq hj'] at h1
  have a1:=(hx xs[i] ↥80).2
  have a2:=(hx xs[j] ↥80).2
  rw [a1,a2] at h1
  simpa using h1
end ES
namespace ES
open PySem PySem.Spec PyProof.Rows L2 EV
section
variable {X:Cx} {pins:List ↥6} {σ:L2.St} {H:Hp} {s:Shared} {a F:Addr}
theorem IntsAre.snoc:∀ {vs:List Value} {ns:List Int} {n:Int} {t:Tok},IntsAre vs ns->IntsAre (vs++[.int n t]) (ns++[n])
 | _,_,n,t,.nil=>.cons n t .nil
 | _,_,n,t,.cons m u h=>.cons m u (IntsAre.snoc h)
theorem gD (I:Inv X pins σ H s) {b:Addr} (h:s.heap.objs.size<=b):Mine X pins b:=⟨fun z=>absurd (z▸I.lt) (Nat.not_lt.mpr h),Ð I.sz h,fun p hp z=>absurd (à (I.pin p hp).1) (Nat.not_lt.mpr (z▸h))⟩
def GJ (X:Cx) (pins:List ↥6) (σ:L2.St) (H:Hp) (A:Around) (F:Addr) (f:Int->Int) (ns:List Int):Prop :=
 ∀ (pins':List ↥6) (s':Shared) (H':Hp) (x:Int) (t:Tok),(∀ p∈pins,p∈pins')->aq H H'->Inv X pins' σ H' s'->x∈ns ->
  wpAny ↥4 A (ż (.ref F) [.int x t]) (fun u s''=>∃ t' H'',u=.int (f x) t'/\Inv X pins' σ H'' s''/\aq H' H'') (fun _ _=>False) s'
theorem wR {A:Around} {E:Value->Shared->Prop} {P:Fin->Shared->Prop} {vs:List Value} {ns:List Int} {n:Nat} {f:Int->Int} (I:Inv X pins σ H s) (m:Mine X pins a) (hHa:H a=none)
  (ho:s.heap.get? a=some (seqObj "list" vs.toArray n)) (hI:IntsAre vs ns) (hz:vs.length<=sizeLine) (call:GJ X pins σ H A F f ns)
  (fin:∀ s' H' vs' n' ns',Inv X pins σ H' s'->s'.heap.get? a=some (seqObj "list" vs' n')->H' a=none->aq H H'->IntsAre vs'.toList ns'->ns'.Perm ns->ns'.Pairwise (fun x y=>f x<=f y)->P (.done (.ret .none)) s') :
  wpAny ↥4 A (Builtin.«list.sort» ⟨[.ref a],[(Ø "key",.ref F)]⟩) P E s:=by
 rw [ox]
 have ha:a<s.heap.objs.size:=à ho
 refine wpAny_bind (listItems_at ho rfl ?_)
 refine wpAny_bind (listUpdate_at ho rfl ?_)
 obtain ⟨e1,ho1⟩:∃ e1,(s.heap.update a (ę fun _ => #[])).get? a=some (seqObj "list" #[] e1):=⟨_,get?_update_seq ho (fun _ => #[])⟩
 refine wpAny_bind (seqEpoch_at ho1 rfl ?_)
 have I1:Inv X ((a,seqObj "list" #[] e1)::pins) σ H { s with heap:=s.heap.update a (ę fun _ => #[]) } :=
  jZ (t':=s.toks) (kQ I m hHa ho ↥134) m ↥78 ho1 ↥134
 refine wpAny_bind (wpAny_newTuple ?_)
 refine wpAny_bind (wpAny_newList ?_)
 refine wpAny_holding (wpAny_bind (wpAny_rule ?_))
 have I2:=I1.kept (t':=s.toks) (h':=(s.heap.update a (ę fun _ => #[])).push (seqObj "tuple" vs.toArray 0)) fun b u q=>Ä _ q
 have I3:=I2.kept (t':=s.toks) (h':=((s.heap.update a (ę fun _ => #[])).push (seqObj "tuple" vs.toArray 0)).push (seqObj "list" #[] 0)) fun b u q=>Ä _ q
 generalize hD:((s.heap.update a (ę fun _ => #[])).push (seqObj "tuple" vs.toArray 0)).objs.size=D
 have mD:Mine X ((a,seqObj "list" #[] e1)::pins) D:=gD I2 (Ń hD)
 have hnD:H D=none:=I2.hok.fresh (Ń hD)
 have hoD:(((s.heap.update a (ę fun _ => #[])).push (seqObj "tuple" vs.toArray 0)).push (seqObj "list" #[] 0)).get? D=some (seqObj "list" #[] 0):=by
  rw [<- hD];exact Ú _ rfl
 have I4:=kQ I3 mD hnD hoD ↥134
 have hsz:vs.toArray.size=vs.length:=by simp
 have hns:ns.length=vs.length:=hI.length.symm
 refine wpAny_bind ?_
 rw [<- Ãc]
 refine JC (fun i s'=>∃ H' kvs k',Inv X ((D,seqObj "list" kvs k')::(a,seqObj "list" #[] e1)::pins) σ H' s'/\aq H H'/\IntsAre kvs.toList ((ns.take i).map f)) vs.toArray.toList 0 _
  (fun i x s' hx ⟨H',kvs,k',J,sm,hk⟩ => ?_) ⟨H,#[],0,I4,aq.refl _,.nil⟩ (fun s' ⟨H',kvs,k',J,sm,hk⟩ => ?_)
 ·rw [Âa] at hk ⊢
  have hx':vs[i]? = some x:=hx
  obtain ⟨y,t,rfl,hy⟩:=hI.at i x hx'
  refine wpAny_bind (wpAny_attempt (wpAny_mono (call _ s' H' y t (fun p hp=>.tail _ (.tail _ hp)) sm J (ê hy)) (fun u s2 ⟨t',H2,eu,J2,sm2⟩ => ?_) fun _ _ z=>z.elim))
  subst eu
  have hkl:kvs.size=i:=by
   have:=hk.length
   rw [Á,é,Ã] at this
   have hi:i<ns.length:=(É.mp hy).1
   omega
  have hiv:i<vs.length:=by rw [<- hns];exact (É.mp hy).1
  have hget:=(f9 J2).1
  refine wpAny_bind (listUpdate_at hget rfl (wpAny_pure ⟨rfl,H2,kvs.push (.int (f y) t'),_,jZ (t':=s2.toks) J2 mD ↥78 (get?_update_seq hget _) ↥134,sm.trans sm2,?_⟩) ⋯ (by rw [Ď];omega))
  rw [ņ,List.take_succ,hy]
  simp only [Option.toList,ģ]
  exact IntsAre.snoc hk
 ·rw [Âa] at hk
  have hk:IntsAre kvs.toList (ns.map f):=by
   rw [ď (by simp;omega)] at hk
   exact hk
  have hkl:kvs.toList.length=vs.length:=by rw [hk.length,Á,hns]
  have hgD:=(f9 J).1
  refine wpAny_bind (listItems_at hgD rfl ?_)
  have fin2:∀ st':SortSt,(arrOf st').toList.Perm (kvs.toList.zip vs)->failedOf st'=none->TS.SOn ↥25 0 (arrOf st').size ->
    wpAny ↥4 A (do
     ó (.ref D) fun _ => #[]
     letGo ((arrOf st').map (·.1)).toList (failedOf st').toList
     let touched:=(<- seqEpoch a) != e1
     ó ↥114 fun _=>(arrOf st').map (·.2)
     if let some e:=failedOf st' then rule "list.sort.comparison-raised";throw e
     if touched then rule "list.sort.modified";raiseError "ValueError" "list modified during sort"
     ret .none) P E s':=by
   intro st' hp hf hs
   obtain ⟨ns',q1,q2,q3⟩:=Je hk hI hp hs
   refine wpAny_bind (listUpdate_at hgD rfl ?_ (by rw [<- Ã];omega) ↥80)
   have J2:=jZ (t':=s'.toks) J mD ↥78 (get?_update_seq hgD (fun _ => #[])) ↥134
   refine wpAny_bind (wpAny_letGo ?_)
   have J3:=il J2
   have hga:=(f9 J3).1
   refine wpAny_bind (seqEpoch_at hga rfl ?_)
   have hlen:(arrOf st').size<=vs.length:=by
    have:=hp.length_eq
    rw [Ã,Èb] at this
    omega
   refine wpAny_bind (listUpdate_at hga rfl ?_ (Ā _) (by rw [Array.size_map];omega))
   rw [hf]
   simp only [bne_self_eq_false,Ô,if_false]
   have J4:=jZ (t':=s'.toks) J3 m ↥78 (get?_update_seq hga (fun _=>(arrOf st').map (·.2))) ↥134
   exact wpAny_pure (fin _ _ _ _ ns' (il J4) (f9 J4).1 (f9 J4).2.1 sm q1 q2 q3)
  by_cases h2:vs.toArray.size<2
  ·rw [if_pos h2,if_pos h2]
   refine wpAny_bind (wpAny_pure ?_)
   dsimp only
   rw [StateT.run_pure]
   refine wpAny_bind (wpAny_pure ?_)
   refine fin2 (Ëa general' (kvs.zip vs.toArray) #[] 7 none) ?_ rfl ?_
   ·show (kvs.zip vs.toArray).toList.Perm _
    rw [Array.toList_zip]
   ·intro i j _ hij hj
    have hj':j<(kvs.zip vs.toArray).size:=by rw [Âa] at hj;exact hj
    rw [Array.size_zip] at hj'
    have:i=j:=⋯
    subst this
    exact í _
  ·rw [if_neg h2,if_neg h2]
   obtain ⟨v₁,v₂,rest,hv⟩:∃ v₁ v₂ rest,kvs.toList=v₁::v₂::rest:=by
    match hq:kvs.toList,hkl with
    | [],hkl=>simp at hkl h2;omega
    | [_],hkl=>simp at hkl h2;omega
    | v₁::v₂::rest,_=>exact ⟨v₁,v₂,rest,rfl⟩
   have hkk:keyKind' kvs=pure oneType':=by
    have e:kvs=(v₁::v₂::rest).toArray:=by rw [<- hv]
    rw [e]
    exact keyKind_ints (ns:=ns.map f) (by rw [<- hv];exact hk)
   rw [hkk]
   refine wpAny_bind (wpAny_pure ?_)
   have hlz:(kvs.zip vs.toArray).toList=kvs.toList.zip vs:=by rw [Array.toList_zip]
   have hzz:(kvs.zip vs.toArray).size=vs.length:=by rw [Array.size_zip,<-Ã,hkl];simp
   refine wpAny_bind (wpAny_mono (TS.zO (a₀:=kvs.zip vs.toArray) (st:=Ëa oneType' (kvs.zip vs.toArray) #[] 7 none)
    (Q:=fun _ st'=>TS.SB (kvs.zip vs.toArray) st'/\TS.SOn ↥25 0 (kvs.zip vs.toArray).size)
    (fun p hp=>by
     rw [hlz] at hp
     exact hk.all _ (Àf hp).1) ⟨List.Perm.refl _,rfl,rfl⟩ rfl (by rw [hzz];omega) fun st' a1 a2=>⟨a1,a2⟩) ?_ fun _ _ e=>e)
   rintro ⟨⟨⟩,st'⟩ s2 ⟨rfl,hB,hs⟩
   refine fin2 st' (by rw [<- hlz];exact hB.perm) hB.failed (by rw [hB.size];exact hs)
end
end ES
namespace ES
open PySem PySem.Spec PyProof.Rows L2 EV
theorem jl:∀ {ns:List Int} {its:List Value},IntsAre its ns->Vals (ns.map V.int) its
 | _,_,.nil=>.nil
 | _,_,.cons n t h=>.cons ⟨t,rfl⟩ (jl h)
section
variable {X:Cx} {pins:List ↥6} {σ:L2.St} {H:Hp} {s:Shared} {F:Addr}
def zD (X:Cx) (pins:List ↥6) (σ:L2.St) (H:Hp) (A:Around) (u:Value) (ns:List Int):Prop :=
 ∀ (s:Shared) (E:Value->Shared->Prop) (Q:List Value->Shared->Prop),Inv X pins σ H s->(∀ s' vs,Inv X pins σ H s'->IntsAre vs ns->Q vs s')->wpAny ↥4 A (collect u) Q E s
theorem u4 {A:Around} {E:Value->Shared->Prop} {Q:Value->Shared->Prop} {u:Value} {ns:List Int} {f:Int->Int} (I:Inv X pins σ H s) (hz:ns.length<=sizeLine)
  (coll:zD X pins σ H A.in1 u ns) (key:GJ X pins σ H A.in1.in1 F f ns)
  (fin:∀ (L:Addr) (s':Shared) (H':Hp) (ns':List Int),H L=none->H' L=none->aq H H'->Inv X pins σ (upd H' L (.lst (ns'.map V.int))) s'->ns'.Perm ns->ns'.Pairwise (fun x y=>f x<=f y)->Q (.ref L) s') :
  wpAny ↥4 A (ż (.builtin "sorted") [u] [(Ø "key",.ref F)]) Q E s:=by
 refine call_function_entry_kw kind_sorted plain_sorted entry_sorted (lO _ _) ?_
 unfold Builtin.«sorted»
 refine wpAny_bind (m:=checkCount "sorted" 1 1 _) (wpAny_pure ?_)
 refine wpAny_bind (coll s _ _ I fun s1 vs I1 hI => ?_)
 refine wpAny_bind (wpAny_newList ?_)
 have I2:=I1.kept (t':=s1.toks) (h':=s1.heap.push (seqObj "list" vs.toArray 0)) fun b o q=>Ä _ q
 have hL:H s1.heap.objs.size=none:=I1.hok.fresh ↥15
 have m:Mine X pins s1.heap.objs.size:=gD I1 ↥15
 have hoL:(s1.heap.push (seqObj "list" vs.toArray 0)).get? s1.heap.objs.size=some (seqObj "list" vs.toArray 0):=Ú _ rfl
 refine wpAny_bind (wpAny_holding (wpAny_call_entry_kw slot_list_sort ⟨_,hoL,rfl⟩ entry_list_sort (wR I2 m hL hoL hI (by rw [hI.length];exact hz) key fun s' H' vs' n' ns' J hg hn sm hI' hp hs=>⟨_,rfl,?_⟩) (iG _ _)))
 exact wpAny_pure ⟨_,rfl,fin _ _ H' ns' hL hn sm (adopt J m hn (its:=vs'.toList) hg (jl hI') (by rw [Á,hp.length_eq];exact hz)) hp hs⟩
end
end ES
namespace ES
open PySem PySem.Spec PyProof.Rows L2 EV PySem.W
unseal SE ST SW SA
def iH (H H':Hp):Prop:=∀ b o,H b=some o->(∀ ps,o ≠ .tbl ps)->H' b=some o
section
variable {K:Frag} {mg:Str->Option Value} {H H':Hp}
theorem iH.sqL {a:Addr} {xs:List V} (s:iH H H') (h:SqL K H a xs):SqL K H' a xs:=by
 rcases h with (h | ⟨o,h⟩) | h
 ·exact .inl (.inl (s _ _ h fun _ z=>nomatch z))
 ·exact .inl (.inr ⟨o,s _ _ h fun _ z=>nomatch z⟩)
 ·exact .inr h
theorem iH.sqT {a:Addr} {xs:List V} (s:iH H H') (h:SqT K H a xs):SqT K H' a xs:=by
 rcases h with (h | ⟨o,h⟩) | h
 ·exact .inl (.inl (s _ _ h fun _ z=>nomatch z))
 ·exact .inl (.inr ⟨o,s _ _ h fun _ z=>nomatch z⟩)
 ·exact .inr h
mutual
theorem Rep.t (s:iH H H'):∀ {v:V} {d:D},Rep K mg H v d->Rep K mg H' v d
 | _,_,.non=>.non
 | _,_,.bl b=>.bl b
 | _,_,.int i=>.int i
 | _,_,.str x=>.str x
 | _,_,.tup h r=>.tup (s.sqT h) (Reps.t s r)
 | _,_,.lst h r=>.lst (s.sqL h) (Reps.t s r)
 | _,_,.ty n=>.ty n
 | _,_,.cls h=>.cls h
 | _,_,.exc h e=>.exc h (s _ _ e fun _ z=>nomatch z)
 | _,_,.ins h e r=>.ins h (s _ _ e fun _ z=>nomatch z) (Repf.t s r)
theorem Reps.t (s:iH H H'):∀ {vs:List V} {ds:List D},Reps K mg H vs ds->Reps K mg H' vs ds
 | _,_,.nil=>.nil
 | _,_,.cons r t=>.cons (Rep.t s r) (Reps.t s t)
theorem Repf.t (s:iH H H'):∀ {vs:List (Str×V)} {ds:List (String×D)},Repf K mg H vs ds->Repf K mg H' vs ds
 | _,_,.nil=>.nil
 | _,_,.cons r t=>.cons (Rep.t s r) (Repf.t s t)
end
theorem Stt.t {σ:L2.St} {δ:Dt} (h:Stt K mg H σ δ) (s:iH H H'):Stt K mg H' σ δ:=⟨h.1,fun i d e n=>let ⟨v,a,b⟩:=h.2 i d e n;⟨v,a,b.t s⟩⟩
theorem CQ {os:Os} (s:iH H H'):iH ↥26 (hide H' os):=fun b o e n=>by
 unfold hide at e ⊢
 split at e
 ·cases e
 ·rename_i h
  rw [if_neg h]
  exact s b o e n
end
theorem StO.t {X:Cx} {H H':Hp} {σ:L2.St} {δ:Dt} {os:Os} (S:StO X H σ δ os) (s:iH H H'):StO X H' σ δ os :=
 ⟨S.st.t (CQ s),fun p hp=>let ⟨xs,ds,a,b,c,d⟩:=S.lst p hp;⟨xs,ds,s _ _ a ↥141,b,c,d.t (CQ s)⟩,S.own,S.inj⟩
def yo (X:Cx) (sc:Scope) (F:Addr) (cd:Value) (C:Addr):Env:=newEnv sc C mainGlobals (sG X.env sc.names []) ((X.env.qual++"<lambda>")++".<locals>.") (some F) cd none builtinsNs
def cxL (X:Cx) (x:Str) (ksn:List Str) (sc:Scope) (F:Addr) (cd:Value) (C:Addr) (s:Shared) (H:Hp):Cx :=
 { X with N:=x::ksn,s₀:=s,H₀:=H,env:=yo X sc F cd C,A:=X.A.in1.in1.deeper (yo X sc F cd C),outer:=X.stack,stack:=yo X sc F cd C::X.stack,ex:=[],fn:=fun _=>false,calm:=true,pn:=[],xe:=fun _ _=>False }
structure Callee1 (X:Cx) (x:Str) (f:List D->R D):Prop where
 ex:∃ k fa fd ps,FnOk X.prog X.w X.K X.mg X.base (CXF X.prog X.w) k fa fd ps (spP X.K X.mg f)/\Room (k+1) X.A/\X.mg x=some (.ref fa)/\ŏ X.K (.ref fa)=true/\Binds X.K fd ps []
section
variable {X:Cx} {pins:List ↥6} {σ:L2.St} {H:Hp} {s:Shared}
structure LamAt (X:Cx) (pins:List ↥6) (args:Arguments) (body:Expr) (sc:Scope) (F c:Addr):Prop where
 fo:∃ pm ct,(F,kla_obj "<lambda>" (X.env.qual++"<lambda>") args body sc (sG X.env sc.names []) pm c ct)∈pins
 co:∃ oc vs t,(c,oc)∈pins/\oc.data=.fields vs/\vs[1]? = some (.str (X.env.qual++"<lambda>") t)
theorem Fy (hc:X.calm=true) {N:List Str} (S:Sc X N) {x:Str} {ksn G:List Str} {ks:List Nat} {args:Arguments} {body:Expr} {sc:Scope} {ge:E} (SC:ScU [x] ksn G sc) (hco:sc.isCoroutine=false) (hgen:sc.isGenerator=false)
  (hks:ks.map ↥84=ksn) (hlt:∀ k∈ks,k<N.length) (hcell:∀ y∈ksn,X.env.scope.names.lookup y=some .cell)
  (helt:∀ F cd C s H,Sc ↥61 (x::ksn)->(∀ y∈G,Gb ↥61 y)->SE ↥61 body ge)
  (hbind:∀ pm cd ct v,bindArgs ↥62 ⟨[v],[]⟩=pure [(x,v)]) (hroom:X.A.depth<recursionLimit)
  {δ:Dt} (hσ:Stt X.K X.mg H σ δ) {F c:Addr} (LA:LamAt X pins args body sc F c) {ns:List Int} {f:Int->Int} (hf:∀ n∈ns,ge (inC ks δ (.int n))=.ok (.int (f n))) :
  GJ X pins σ H X.A.in1.in1 F f ns:=by
 intro pins' s' H' n t hsub sm I hn
 have lenks:ksn.length=ks.length:=by rw [<- hks,Á]
 have atk:∀ (j:Nat) (y:Str),ksn[j]? = some y->∃ k,ks[j]? = some k/\N[k]? = some y:=fun j y e=>by
  rw [<- hks,Ë] at e
  cases q:ks[j]? with
  | none=>rw [q] at e;cases e
  | some k =>
   rw [q] at e
   have e':N.getD k ""=y:=Ó.inj e
   have hk:=hlt k (ê q)
   exact ⟨k,rfl,by rw [<- e',Î,Â hk];rfl⟩
 have frec:∀ y,(y,ċ)∈sc.names->∃ c,X.env.cells.lookup y=some c:=fun y hy=>I.ok.has y (.inl (hcell y (SC.all _ hy rfl)))
 have sub:∀ y c,(sG X.env sc.names []).lookup y=some c->X.env.cells.lookup y=some c:=yX frec fun y c e=>nomatch e
 obtain ⟨pm,ct,hF⟩:=LA.fo
 obtain ⟨oc,vs,tq,hC,hd,hv⟩:=LA.co
 have gF:=(I.pin _ (Ç _ (hsub _ hF))).1
 have gC:=(I.pin _ (Ç _ (hsub _ hC))).1
 refine wpAny_call (kla_callFunE hroom gF rfl hco hgen rfl ⟨c,oc,vs,tq,rfl,gC,hd,hv⟩ ?_)
 rw [hbind]
 refine wpAny_pure (wpAny_newFunctionEnv SC.noc (fun y hy=>by rw [ï.mp hy];exact SC.loc x (.head _)) (fun h4 ns4 sb4 => ?_) SC.kind)
 have kp4:∀ b o,s'.heap.get? b=some o->h4.get? b=some o:=fun b o q=>by
  rw [sb4.2 b (æ (à q))]
  exact Ä _ q
 refine ⟨(I.ok.mod.nolimit.keeps fun b o e=>(I.bs b o e).1).keeps kp4,kla_codeExpr ?_⟩
 have o:=I.ok
 have ok4:(cxL X x ksn sc F (.ref c) s'.heap.objs.size s' H').Ok:=by
  refine ⟨o.mod,SC.kind,rfl,rfl,ñ _,fun y z c e1 e2=>o.inj y z c (sub y c e1) (sub z c e2),fun y hy => ?_,fun y c z e=>absurd z Í,fun _=>o.hd hc,?_,.inr ⟨rfl,rfl⟩,fun b hb=>(nomatch hb),I.bs,Ð o.bsz I.sz,fun b ob e hb=>(nomatch hb),fun b hb=>(nomatch hb),I.stack,I.stkFree⟩
  ·have hy:sc.names.lookup y=some .cell\/sc.names.lookup y=some .free:=hy
   rcases hy with q | q
   ·exact absurd rfl (SC.noc _ (ü q))
   ·exact qr (.inl (ü q))
  ·show X.A.frames.map _=_
   rw [o.frames]
   rfl
 have S4:Sc (cxL X x ksn sc F (.ref c) s'.heap.objs.size s' H') (x::ksn):=by
  refine ⟨rfl,SC.nd,fun y hy => ?_,SC.dbg⟩
  rcases Ö.mp hy with z | z
  ·exact .inl (by rw [z];exact SC.loc x (.head _))
  ·exact .inr (.inr (SC.fre y z))
 have G4:∀ y∈G,Gb (cxL X x ksn sc F (.ref c) s'.heap.objs.size s' H') y:=fun y hy=>⟨SC.glb y hy,(SC.dbgG y hy).1,(SC.dbgG y hy).2⟩
 have E4:=helt F (.ref c) s'.heap.objs.size s' H' S4 G4
 have hCn:H' s'.heap.objs.size=none:=I.fresh
 have hσ3:Stt X.K X.mg H' σ δ:=hσ.mono sm
 have lenσ:σ.length=N.length:=by rw [I.len,S.n]
 have I4:Inv (cxL X x ksn sc F (.ref c) s'.heap.objs.size s' H') [] (some (.int n)::ks.map fun k=>σ.getD k none) H' { s' with heap:=h4,toks:=s'.toks+[(x,ű n t)].length }:=by
  refine ⟨ok4,rfl,I.bare,Un.kept kp4,⟨_,ns4,fun j y v e1 e2 e3 => ?_⟩,fun y c e => ?_,hCn,fun y c e=>I.freeC y c (sub y c e),fun p hp=>absurd (show p∈([]:List ↥6) from hp) ↥80,I.hok.kept kp4,by show (ks.map _).length+1=(x::ksn).length;rw [Á,Ò,lenks]⟩
  ·cases j with
   | zero =>
    have e1':x=y:=Ó.inj e1
    have e2':V.int n=v:=Ó.inj (Ó.inj e2)
    subst e1' e2'
    exact ⟨_,⟨t,rfl⟩,.inl ⟨SC.loc x (.head _),by simp [Ĵ]⟩⟩
   | succ j =>
    have e1':ksn[j]? = some y:=e1
    have e2:(ks.map fun k=>σ.getD k none)[j]? = some (some v):=e2
    obtain ⟨k,ek,eN⟩:=atk j y e1'
    rw [Ë,ek] at e2
    have e2':σ.getD k none=some v:=Ó.inj e2
    have eσ:σ[k]? = some (some v):=by
     rw [Î] at e2'
     cases q:σ[k]? with
     | none=>rw [q] at e2';cases e2'
     | some o=>rw [q] at e2';have:o=some v:=e2';rw [this]
    have hy:=ê e1'
    have hyc:=hcell y hy
    obtain ⟨m',hn',hl'⟩:=I.loc
    obtain ⟨u,ru,lu⟩:=hl' k y v (by rw [S.n];exact eN) eσ (.inr (.inl hyc))
    refine ⟨u,ru,?_⟩
    rcases lu with ⟨k1,_⟩ | ⟨_,c',hcc,ic⟩
    ·have:(some Ãa)=some .cell:=k1.symm.trans hyc
     cases this
    ·obtain ⟨c'',hc''⟩:=qr (env:=X.env) (cs:=[]) (.inl (ü (SC.fre y hy)))
     have:c''=c':=by have:=sub y c'' hc'';rw [hcc] at this;exact (Ó.inj this).symm
     subst this
     obtain ⟨oc',hoc',hd'⟩:=ic
     exact .inr ⟨.inr (SC.fre y hy),c'',hc'',oc',kp4 _ _ hoc',hd'⟩
  ·obtain ⟨v,oc',hoc',hd'⟩:=I.cell y c (sub y c e)
   exact ⟨v,oc',kp4 _ _ hoc',hd'⟩
 have hσ4:Stt X.K X.mg H' (some (.int n)::ks.map fun k=>σ.getD k none) (inC ks δ (.int n)):=by
  refine ⟨by unfold inC;rw [Ò,Ò,Á,Á],fun j d e nown => ?_⟩
  cases j with
  | zero =>
   have e':EV.D.int n=d:=Ó.inj ↥109
   subst e'
   exact ⟨.int n,rfl,.int n⟩
  | succ j =>
   have e:(ks.map fun k=>δ.getD k none)[j]? = some (some d):=e
   rw [Ë] at e
   cases ek:ks[j]? with
   | none=>rw [ek] at e;cases e
   | some k =>
    rw [ek] at e
    have e':δ.getD k none=some d:=Ó.inj e
    have eδ:δ[k]? = some (some d):=by
     rw [Î] at e'
     cases q:δ[k]? with
     | none=>rw [q] at e';cases e'
     | some o=>rw [q] at e';have:o=some d:=e';rw [this]
    obtain ⟨v,ev,rv⟩:=hσ3.2 k d eδ nown
    refine ⟨v,?_,rv⟩
    show (ks.map fun k=>σ.getD k none)[j]? = _
    rw [Ë,ek]
    show some (σ.getD k none)=_
    rw [Î,ev]
    rfl
 refine wpAny_mono (E4 [] _ _ H' (fun v H2=>v=.int (f n)/\aq H' H2) I4 ⟨_,hσ4,?_⟩) (fun u s2 ⟨v,H2,J,rv,ev,s2m⟩ => ?_) fun _ _ z=>z.elim
 ·rw [hf n hn]
  exact fun v H2 s2 r=>by cases r;exact ⟨rfl,s2⟩
 ·subst ev
  obtain ⟨t',rfl⟩:=rv
  obtain ⟨v',H3,J3,r3,e3,s3⟩:=I.after (Q:=fun v H2=>v=.int (f n)/\aq H' H2) (u:=.int (f n) t') ⟨.int (f n),H2,J.os,J.bare,J.base,J.hok,⟨t',rfl⟩,rfl,s2m⟩
  exact ⟨t',H3,rfl,J3,s3⟩
structure LamB (X:Cx) (Pt:Addr):Prop where
 ex:∃ c,X.env.code=.ref c/\CodeHd X.base c Pt
 blt:X.base.BuiltinsAt X.mg Pt
 gP:mainGlobals≠Pt
theorem JE {Pt:Addr} (LB:LamB X Pt) {x:Str} {ksn G:List Str} {args:Arguments} {body:Expr} {sc:Scope} {pos:Pos} (SC:ScU [x] ksn G sc) (hcell:∀ y∈ksn,X.env.scope.names.lookup y=some .cell)
  (hdef:defaultsOf args X.env=([],[])) (I:Inv X pins σ H s) (hP:H Pt=some (.tbl #[])) {E:Value->Shared->Prop} {Q:Value->Shared->Prop}
  (fin:∀ (F c:Addr) (pins':List ↥6) (ps:Array Value) (s':Shared),(∀ p∈pins,p∈pins')->LamAt X pins' args body sc F c->Inv X pins' σ (upd H Pt (.tbl ps)) s'->(∀ (σ':L2.St) (H':Hp) (s'':Shared),Inv X pins' σ' H' s''->Inv X pins σ' H' s'')->Q (.ref F) s') :
  wpAny ↥4 X.A (eval (.Lambda args body sc pos) X.env) Q E s:=by
 obtain ⟨c,hcode,CH⟩:=LB.ex
 obtain ⟨bm,ob,b1,b2,b3,b4,b5,b6⟩:=LB.blt
 have frec:∀ y,(y,ċ)∈sc.names->∃ c,X.env.cells.lookup y=some c:=fun y hy=>I.ok.has y (.inl (hcell y (SC.all _ hy rfl)))
 have hPo:s.heap.get? Pt=some (tabObj #[]):=I.hok Pt _ hP
 have bs:∀ b o,X.base.get? b=some o->s.heap.get? b=some o:=fun b o e=>(I.bs b o e).1
 refine kla_eval hdef (kla_makeFunction (mg:=X.mg) (m6 frec) I.ok.glob (I.ok.mod.glob.keeps bs) hcode (CH.keeps bs) hPo trivial rfl LB.gP ⟨bm,ob,b1,b2,b3,b4,bs _ _ b5,b6⟩ fun c' ctv h' tk hx hge hlt hrec htb => ?_)
 obtain ⟨c₂,oc,vs,tq,e2,hoc,hd,hv⟩:=hrec
 cases e2
 have nt:∀ b o,H b=some o->(∀ ps,o ≠ .tbl ps)->b≠Pt:=fun b o e n z=>by rw [z,hP] at e;exact n _ (Ó.inj e).symm
 have nn:∀ b,H b=none->b≠Pt:=fun b e z=>by rw [z,hP] at e;cases e
 generalize hfo:kla_obj "<lambda>" (X.env.qual++"<lambda>") args body sc (sG X.env sc.names []) ((X.mg "__name__").getD .none) c' ctv=fo
 have kp:∀ b o,b≠Pt->s.heap.get? b=some o->(h'.push fo).get? b=some o:=fun b o hb e=>Ä _ (hx b o hb e)
 have gP2:(h'.push fo).get? Pt=some (tabObj (#[] ++ #[rawInt pos.line,rawInt pos.col,.ref c'])):=Ä _ htb
 generalize #[rawInt pos.line,rawInt pos.col,â c']=more at *
 have un:Un X.fs [] H (upd H Pt (.tbl (#[]++more))) s.heap (h'.push fo):=by
  refine ⟨fun b o e n _ _=>kp b o (nn b n) e,fun b o e n _ _=>⟨o.slots,kp b o (nn b n) e⟩,fun b o e n _=>by rw [ar (nn b n)];exact n,fun b o e _ => ?_,fun b xs e => ?_,fun b o u e => ?_,fun b ps e => ?_⟩
  ·by_cases hb:b=Pt
   ·rw [hb];exact ⟨_,gP2⟩
   ·exact ⟨o,kp b o hb e⟩
  ·rw [ar (nt b _ e fun _ z=>nomatch z)];exact e
  ·rw [ar (nt b _ e fun _ z=>nomatch z)];exact e
  ·by_cases hb:b=Pt
   ·rw [hb,hP] at e
    cases e
    exact ⟨more,by rw [hb,au]⟩
   ·exact ⟨#[],by rw [ar hb,e];simp⟩
 have hok:HOk X.prog X.w (upd H Pt (.tbl (#[]++more))) (h'.push fo):=fun b o e=>by
  by_cases hb:b=Pt
  ·rw [hb,au] at e
   cases e
   rw [hb]
   exact gP2
  ·rw [ar hb] at e
   refine (I.hok b o e).stay (fun d u hdd q=>kp d u ?_ q) (fun d q=>by rw [ar (nt d _ q fun _ z=>nomatch z)];exact q) fun d xs q=>by rw [ar (nt d _ q fun _ z=>nomatch z)];exact q
   rcases hdd with rfl | hdd
   ·exact hb
   ·exact nt d _ hdd fun _ z=>nomatch z
 have J:=I.un (t':=tk) un hok
 have hs':s.heap.objs.size<=h'.objs.size:=Ð hge (ı hlt)
 have mc:Mine X pins c':=gD I hge
 have mF:Mine X pins h'.objs.size:=gD I hs'
 have nH:∀ b,s.heap.objs.size<=b->upd H Pt (.tbl (#[]++more)) b=none:=fun b hb=>by
  have:=I.hok.fresh hb
  rw [ar (nn b this)];exact this
 have J1:=kQ J mc (nH _ hge) (Ä _ hoc) (fun v z=>by rw [hd] at z;cases z)
 have mF':Mine X ((c',oc)::pins) h'.objs.size:=⟨mF.loc,mF.new,fun p hp=>by
  rcases È.mp hp with z | z
  ·exact mF.pin p (ð _ z)
  ·rcases Ö.mp z with rfl | z
   ·exact æ hlt
   ·exact mF.pin p (Ç _ z)⟩
 have J2:=kQ J1 mF' (nH _ hs') (Ú _ (by rw [<- hfo];rfl)) (fun v z=>by rw [<- hfo] at z;cases z)
 refine fin h'.objs.size c' _ _ _ (fun p hp=>.tail _ (.tail _ hp)) ⟨⟨_,ctv,by rw [hfo];exact .head _⟩,oc,vs,tq,.tail _ (.head _),hd,hv⟩ J2 fun σ' H' s'' K=>il (il K)
end
end ES
namespace EV
def oA:List D->Option (List Int)
 | []=>some []
 | d::r=>match d with
  | .int i=>(oA r).map (i::·)
  | _=>none
theorem iw:∀ ns:List Int,oA (ns.map .int)=some ns
 | []=>rfl
 | n::r=>by simp only [Ê,oA,iw r];rfl
theorem mU:∀ {ds:List D} {ns:List Int},oA ds=some ns->ds=ns.map .int
 | [],_,h=>by cases h;rfl
 | d::r,ns,h=>by
  cases d<;>first | (simp only [oA] at h;cases h;done) | skip
  simp only [oA,Option.map_eq_some_iff] at h
  obtain ⟨a,ha,rfl⟩:=h
  rw [mU ha];rfl
def zy (ks:List Nat) (ge:E) (δ:Dt) (ns:List Int):Prop:=ns.length<=100000/\∀ n∈ns,∃ a,ge (inC ks δ (.int n))=.ok (.int a)
def oZ (ks:List Nat) (ge:E) (δ:Dt) (ns:List Int) (L:List D):Prop:=∃ ns':List Int,L=ns'.map .int/\ns'.Perm ns/\ns'.Pairwise fun x y=>∀ a b,ge (inC ks δ (.int x))=.ok (.int a)->ge (inC ks δ (.int y))=.ok (.int b)->a<=b
open Classical in
def Ej (ks:List Nat) (ge:E) (δ:Dt) (o:Option (List Int)):R (List D->Prop):=match o with
 | some ns=>if zy ks ge δ ns then .ok (oZ ks ge δ ns) else .bad
 | none=>.bad
def pK (it:IT) (ks:List Nat) (ge:E):Dt->R (List D->Prop):=fun δ=>(it δ).bind fun ds=>Ej ks ge δ (oA ds)
def vR (i:Nat) (g:Dt->R (List D->Prop)) (rest:S):S:=fun δ=>MV i rest δ (g ↥66)
theorem Ax {i:Nat} {it:IT} {ks:List Nat} {ge:E} {rest:S} {δ:Dt} {ns:List Int} (f:Int->Int) (hit:it ↥66=.ok (ns.map .int)) (hl:ns.length<=100000) (hf:∀ n∈ns,ge (inC ks ↥66 (.int n))=.ok (.int (f n)))
  (hr:∀ ns':List Int,ns'.Perm ns->(ns'.Pairwise fun x y=>f x<=f y)->rest (δ.set i (some (.lst (ns'.map .int))))=.rt ↥29):vR i (pK it ks ge) rest δ=.rt ↥29:=by
 have hk:zy ks ge ↥66 ns:=⟨hl,fun n hn=>⟨_,hf n hn⟩⟩
 have e:pK it ks ge ↥66=.ok (oZ ks ge ↥66 ns):=by
  unfold pK
  rw [hit]
  simp only [R.bind,iw,Ej]
  exact if_pos hk
 unfold vR MV
 rw [e]
 refine if_pos ?_
 rintro L ⟨ns',rfl,hp,hs⟩
 refine hr ns' hp (hs.imp_of_mem ?_)
 intro x y hx hy h
 exact h _ _ (hf x (hp.mem_iff.1 hx)) (hf y (hp.mem_iff.1 hy))
end EV
namespace ES
open PySem PySem.Spec PyProof.Rows L2 EV PySem.W
unseal SE ST SW SA SS SSs
theorem boot_sorted:bootBuiltins "sorted"=some (.builtin "sorted"):=by kernel_rfl
section
variable {X:Cx} {N:List Str} {e:Expr} {g:E} {it:IT} {Pt:Addr} {rest:List Stmt} {st:Stmt} {gr gs:S} {pos:Pos}
def KO (X:Cx) (v:V) (H:Hp) (ns:List Int):Prop:=∀ (pins:List ↥6) (σ:L2.St) (H':Hp) (A:Around) (u:Value),A.handled=none->iH H H'->RelV v u->zD X pins σ H' A u ns
def tCl (X:Cx) (it:IT):TE:=fun σ H Q=>∃ δ ns,Stt X.K X.mg H σ δ/\it δ=.ok (ns.map .int)/\ns.length<=100000/\∀ v H',aq H H'->KO X v H' ns->Q v H'
@[irreducible] def SCl (X:Cx) (e:Expr) (it:IT):Prop:=PE X e (tCl X it)
unseal SCl
def Lu (X:Cx) (Pt:Addr) (it:IT) (ks:List Nat) (ge:E):TE:=fun σ H Q=>∃ δ os P,StO X H σ δ os/\H Pt=some (.tbl #[])/\pK it ks ge ↥66=.ok P /\
 ∀ (L:Addr) (ns:List Int) (H':Hp),P (ns.map .int)->iH H H'->H L=none->H' L=some (.lst (ns.map V.int))->Q (.ref L) H'
theorem Ei {k:Nat} (LB:LamB X Pt) (hr:Room k X.A) (hc:X.calm=true) (S:Sc X N) (GB:Gb X "sorted") (hm:X.mg "sorted"=none) {x:Str} {ksn G:List Str} {ks:List Nat} {args:Arguments} {a body:Expr} {sc:Scope} {ge:E} {p pl kp:Pos} (SC:ScU [x] ksn G sc)
  (hks:ks.map ↥84=ksn) (hlt:∀ k∈ks,k<N.length) (hcell:∀ y∈ksn,X.env.scope.names.lookup y=some .cell) (ha:SCl X a it)
  (helt:∀ F cd C s H,Sc ↥61 (x::ksn)->(∀ y∈G,Gb ↥61 y)->SE ↥61 body ge)
  (hco:sc.isCoroutine=false) (hgen:sc.isGenerator=false)
  (hbind:∀ pm cd ct v,bindArgs ↥62 ⟨[v],[]⟩=pure [(x,v)]) (hdef:defaultsOf args X.env=([],[]))
  (hs:starEach [a] X.env=↥125::starEach [] X.env) (he:backTo pos (starEach [a] X.env)=↥125::backTo pos (starEach [] X.env)) (hpl:(backTo pos (starEach [a] X.env)).any (·.1)=false) :
  PE X ↥82 (Lu X Pt it ks ge):=by
 intro pins s σ H Q I ⟨δ,os,P,SO,hP,eP,q⟩
 obtain ⟨ns,ei,hk,rfl⟩:∃ ns,it ↥66=.ok (ns.map .int)/\zy ks ge ↥66 ns/\P=oZ ks ge ↥66 ns:=by
  unfold pK at eP
  cases r:it ↥66 with
  | ok ds =>
   rw [r] at eP
   simp only [R.bind] at eP
   cases r2:oA ds with
   | none=>rw [r2] at eP;cases eP
   | some ns =>
    rw [r2] at eP
    simp only [Ej] at eP
    split at eP
    ·rename_i hk
     exact ⟨ns,by rw [mU r2],hk,(R.ok.inj eP).symm⟩
    ·cases eP
  | ex C=>rw [r] at eP;cases eP
  | bad=>rw [r] at eP;cases eP
 have hv:Stt X.K X.mg H σ ↥66:=SO.view
 refine wpAny_Call_Name_kw (fF I GB.g hm boot_sorted ?_ GB.n GB.d)
 refine callWith_kw (thn (fz ha ip hs pos pins s σ H (fun vs H1=>∃ v,vs=[v]/\aq H H1/\KO X v H1 ns) I ⟨view δ,ns,hv,ei,hk.1,fun v H1 sm cx=>⟨v,rfl,sm,cx⟩⟩) fun us s1 ⟨vs,H1,I1,r1,v,ev,sm1,cx⟩ => ?_) he hpl
 subst ev
 obtain ⟨u,rfl,ru⟩:∃ u,us=[u]/\RelV v u:=by
  cases r1 with
  | cons ru r1=>cases r1;exact ⟨_,rfl,ru⟩
 have hP1:=sm1 _ _ hP
 refine kws_cons (JE LB SC hcell hdef I1 hP1 fun F c pins' ps s2 hsub LA J drop=>kws_nil ?_)
 have sT:iH H1 (upd H1 Pt (.tbl ps)):=fun b o e n=>by
  rw [ar fun z => ?_]
  ·exact e
  ·rw [z,hP1] at e
   exact n _ (Ó.inj e).symm
 have hf:∀ n∈ns,ge (inC ks ↥66 (.int n))=.ok (.int ((fun n=>match ge (inC ks ↥66 (.int n)) with | .ok (.int a)=>a | _=>0) n)):=fun n hn=>by
  obtain ⟨a,ea⟩:=hk.2 n hn
  simp only [ea]
 generalize hfd:(fun n=>match ge (inC ks ↥66 (.int n)) with | .ok (.int a)=>a | _=>0)=f at hf
 have hfv:∀ n a,ge (inC ks ↥66 (.int n))=.ok (.int a)->f n=a:=fun n a e=>by
  rw [<- hfd]
  simp only [e]
 refine u4 J (Ð hk.1 (by rw [sizeLine_eq];decide)) (cx pins' σ _ _ u (I.ok.hd hc) sT ru) (Fy hc S SC hco hgen hks hlt hcell helt hbind hr.depth ((hv.mono sm1).t sT) LA hf) fun L s3 H3 ns' hL hL3 sm3 J3 hp hsd => ?_
 have nP:L≠Pt:=fun z=>by rw [z,au] at hL;cases hL
 have hL1:H1 L=none:=by rw [ar nP] at hL;exact hL
 have hL0:H L=none:=by
  cases z:H L with
  | none=>rfl
  | some o=>rw [sm1 _ _ z] at hL1;cases hL1
 refine ⟨.ref L,_,drop _ _ _ J3,rfl,q L ns' _ ⟨ns',rfl,hp,hsd.imp fun {x y} h a b ea eb => ?_⟩ (fun b o e n => ?_) hL0 au⟩
 ·rw [<- hfv x a ea,<-hfv y b eb]
  exact h
 ·have:=sm3 b o (sT b o (sm1 b o e) n)
  rw [ar fun z => ?_]
  ·exact this
  ·rw [z,hL3] at this
   cases this
def tBB (X:Cx) (Pt:Addr) (g:S):TS:=fun D σ H=>∃ δ os,StO X H σ δ os/\H Pt=some (.tbl #[])/\g δ=.rt ↥29/\∀ H2,D.rt ↥29 H2
@[irreducible] def SSB (X:Cx) (Pt:Addr) (sts:List Stmt) (g:S):Prop:=PSs X sts (tBB X Pt g)
unseal SSB
theorem yr {H H':Hp} {os os':Os} (hl:GS H os) (hP:H Pt=some (.tbl #[])) (s:aq ↥26 (hide H' os')):H' Pt=some (.tbl #[]) :=
 bj _ _ _ _ (s _ _ (by
  rw [aU fun z => ?_]
  ·exact hP
  ·obtain ⟨xs,q⟩:=hl _ z
   rw [hP] at q
   cases q))
theorem uB (h1:SS X st gs) (h2:SSB X Pt rest gr):SSB X Pt (st::rest) (EV.seq gs gr) :=
 PSs.weak (oj h1 h2) fun D σ H ⟨δ,os,S,hP,hg,hD⟩=>⟨δ,os,S,by
  unfold EV.seq at hg
  cases r:gs δ with
  | nx δ'=>rw [r] at hg;exact fun σ' H' os' S' s=>⟨δ',os',S',yr S.lsts hP s,hg,hD⟩
  | rt d =>
   rw [r] at hg
   have e:d=.bl true:=by cases hg;rfl
   subst e
   exact fun v H' s rp=>by cases rp;exact hD H'
  | ex C δ'=>rw [r] at hg;cases hg
  | mk C δ'=>rw [r] at hg;cases hg
  | hx C δ'=>rw [r] at hg;cases hg
  | bk δ'=>rw [r] at hg;cases hg
  | ct δ'=>rw [r] at hg;cases hg
  | bad=>rw [r] at hg;cases hg⟩
theorem Kv {k:Nat} (LB:LamB X Pt) (hr:Room k X.A) (hc:X.calm=true) (C:Sx X N) (i:Nat) {y:Str} {py:Pos} (hN:N[i]? = some y) (hy:Sto X y) (GB:Gb X "sorted") (hm:X.mg "sorted"=none) {x:Str} {ksn G:List Str} {ks:List Nat} {args:Arguments} {a body:Expr} {sc:Scope} {ge:E} {p pl kp pos':Pos} (SC:ScU [x] ksn G sc)
  (hks:ks.map ↥84=ksn) (hlt:∀ k∈ks,k<N.length) (hcell:∀ y∈ksn,X.env.scope.names.lookup y=some .cell) (ha:SCl X a it)
  (helt:∀ F cd C s H,Sc ↥61 (x::ksn)->(∀ y∈G,Gb ↥61 y)->SE ↥61 body ge) (hrest:SSs X rest gr)
  (hco:sc.isCoroutine=false:=by rfl) (hgen:sc.isGenerator=false:=by rfl)
  (hbind:∀ pm cd ct v,bindArgs ↥62 ⟨[v],[]⟩=pure [(x,v)]:=by intros;rfl) (hdef:defaultsOf args X.env=([],[]):=by rfl)
  (hs:starEach [a] X.env=↥125::starEach [] X.env:=by rfl) (he:backTo pos (starEach [a] X.env)=↥125::backTo pos (starEach [] X.env):=by rfl) (hpl:(backTo pos (starEach [a] X.env)).any (·.1)=false:=by rfl)
  (hsw:swapsWith ↥82 (some (.Name y py)) pos'.line X.env=pure false:=by rfl) :
  SSB X Pt (.Assign [.Name y py] ↥82 pos'::rest) (vR i (pK it ks ge) gr) :=
 PSs.weak (oj (xk (i:=i) (by rw [C.sc.n];exact C.sc.nd) (by rw [C.sc.n];exact hN) hy.1 (Ei LB hr hc C.sc GB hm SC hks hlt hcell ha helt hco hgen hbind hdef hs he hpl) hsw hy.2) hrest) fun D σ H ⟨δ,os,S,hP,hg,hD⟩=>by
  unfold vR MV at hg
  cases r:pK it ks ge ↥66 with
  | ok P =>
   rw [r] at hg
   simp only at hg
   split at hg
   ·rename_i hall
    refine ⟨δ,os,P,S,hP,r,fun L ns H' hPL sm hL hL' => ?_⟩
    have nL:L∉iZ os:=fun z=>by
     obtain ⟨xs,w⟩:=S.lsts _ z
     rw [hL] at w
     cases w
    obtain ⟨S2,s2⟩:=(S.t sm).set (i:=i) (v:=.ref L) (d:=.lst (ns.map .int)) (.lst (SqL.of (by rw [aU nL];exact hL')) (Reps.ints ns))
    refine ⟨_,_,S2,?_⟩
    rw [hall _ hPL]
    exact fun v' H2 s3 r'=>by cases r';exact hD H2
   ·cases hg
  | ex C=>rw [r] at hg;cases hg
  | bad=>rw [r] at hg;cases hg
end
unseal SSB
def spB (K:Frag) (mg:Str->Option Value) (Pt:Addr) (f:List D->R D):Sp:=fun vs H Q _=>H Pt=some (.tbl #[])/\∃ ds,Reps K mg H vs ds/\f ds=.ok ↥29/\∀ H',Q ↥29 H'
theorem J5 {P:Program} {w:World} {K:Frag} {mg:Str->Option Value} {base:Heap} {x qual:Str} {st:Stmt} {f:Addr} {fd:FuncData} {N G ps:List Str} {k n m:Nat} {g:S} {Pt:Addr}
  (F:Fun K x qual st f fd) (S:ScF N G ps (aa st)) (hn:ps.length=n) (hm:N.length=m)
  (hbody:∀ X:Cx,(at5 X P w K mg base).env.code=fd.code->Room k (at5 X P w K mg base).A->Lp ↥60->Own ↥60->Pl ↥60 N G->(at5 X P w K mg base).env.scope=aa st->SSB ↥60 Pt (ag st) g) :
  FnOk P w K mg base (CXF P w) (k+1) f fd ps (spB K mg Pt (fn n m g)):=by
 obtain ⟨oc,od,kV,doc,pm,an,cdv,ct,osl,rfl,lk,hcd⟩:=F.ex
 have len:∀ {ds:List D},fn n m g ds ≠ .bad->ds.length=n:=fun {ds} h=>by
  unfold fn at h
  split at h
  ·assumption
  ·exact absurd rfl h
 refine FK lk hcd S.fs (fun vs H Q E h => ?_) fun A outer s H vs Q E hr h => ?_
 ·obtain ⟨_,ds,rs,h,_⟩:=h
  rw [rs.length,hn]
  exact len fun z=>by rw [z] at h;cases h
 ·obtain ⟨hP,ds,rs,h,hQ⟩:=h
  have hl:ds.length=n:=len fun z=>by rw [z] at h;cases h
  refine ⟨_,hbody (CU (CXF P w) P w K mg base N qual (aa st) f cdv A outer s H E) rfl hr ⟨PassesOwn.leaving,rfl⟩ lb ⟨⟨⟨rfl,S.fs.nd,fun y hy=>CO (S.loc y hy),S.dbg⟩,rfl⟩,fun y hy=>⟨S.loc y hy,.inl rfl⟩,fun y hy=>⟨S.glb y hy,(S.dbgG y hy).1,(S.dbgG y hy).2⟩⟩ rfl,_,[],StO.nil (pI rs hl hm) (kE rs),hP,?_,hQ⟩
  unfold fn at h
  rw [if_pos hl] at h
  cases e:g (EV.start n m ds) with
  | nx δ=>rw [e] at h;cases h
  | rt d=>rw [e] at h;cases h;rfl
  | ex C δ=>rw [e] at h;cases h
  | mk C δ=>rw [e] at h;cases h
  | hx C δ=>rw [e] at h;cases h
  | bk δ=>rw [e] at h;cases h
  | ct δ=>rw [e] at h;cases h
  | bad=>rw [e] at h;cases h
def tabIn (K:Frag) (cdv:Value):Bool:=match cdv with
 | .ref c=>match K.lookup c with
  | some o=>match o.data with
   | .fields vs=>match (vs[11]? : Option Value) with
    | some (.ref P)=>(K.lookup P).isNone
    | _=>false
   | _=>false
  | none=>false
 | _=>false
theorem Au {K:Frag} {c Pt:Addr} {h:Heap} {ps:Array Value} (t:tabIn K (.ref c)=true) (KX:K.In h) (ht:h.TableAt c Pt ps):K.lookup Pt=none:=by
 obtain ⟨⟨o,vs,e1,_,e3,e4⟩,_⟩:=ht
 unfold tabIn at t
 simp only at t
 cases k:K.lookup c with
 | none=>rw [k] at t;cases t
 | some o' =>
  have:=KX c o' k
  rw [e1] at this
  cases this
  rw [k] at t
  simp only [e3,e4] at t
  exact Option.isNone_iff_eq_none.mp t
theorem yn {P:Program} {w:World} {K:Frag} {mg mb:Str->Option Value} {CX:CXT} {k:Nat} {fa a c Pt:Addr} {fd:FuncData} {x:Str} {sp:Sp} {s₁:Shared} {vs:List Value} {ns:List Int}
  (KX:K.In s₁.heap) (hns:s₁.heap.Ns mainGlobals mg) (hb:s₁.heap.Ns builtinsNs mb) (hbb:∀ x:Str,x≠"__name__"->mb x=bootBuiltins x) (hlim:s₁.heap.NoLimit) (hg:s₁.gens = #[])
  (hbm:∃ bm ob,mg "__builtins__"=some (.ref bm)/\bm≠builtinsNs/\s₁.heap.get? bm=some ob/\ob.cls=.type "module"/\ob.dict=some builtinsNs/\ob.data=.plain)
  (hcode:s₁.heap.IsCode c Pt #[]) (htab:s₁.heap.TableAt c Pt #[]) (hKP:K.lookup Pt=none)
  (ha:s₁.heap.get? a=some { cls:=.type "list",data:=.seq vs.toArray }) (hi:IntsAre vs ns) (hl:ns.length<=sizeLine) (hr:Room k callerA)
  (F:∀ base:Heap,K.In base->base.Ns mainGlobals mg->CodeHd base c Pt->base.BuiltinsAt mg Pt->mainGlobals≠Pt->FnOk P w K mg base CX k fa fd [x] sp) (hbind:∀ (s:Shared) (u:Value),BindsTo s fd ⟨[u],[]⟩ [(x,u)])
  (hsp:∀ H:Hp,H Pt=some (.tbl #[])->SqL K H a (ns.map V.int)->sp [.ref a] H (fun v _=>v=.bl true) fun _ _ _=>False)
  (hCX:∀ H e s',CX [] H s₁ (fun _ _ _=>False) e s'->False) :
  codeAny (model P w) callerA (.call (.ref fa) ⟨[.ref a],[]⟩) (fun r s'=>r=.ok (.ret ↥75)/\OldK s₁.heap s'.heap/\s'.os=s₁.os/\AllBare s'.gens) s₁:=by
 have rv:=pE hi
 have lenV:=hi.length
 have hPo:s₁.heap.get? Pt=some (tabObj #[]):=htab.2
 have aP:a≠Pt:=fun z=>by rw [z,hPo] at ha;cases ha
 obtain ⟨H0,hO,hS,hok0,hA,hK⟩:∃ H:Hp,RB H/\SqL K H a (ns.map V.int)/\HOk P w H s₁.heap/\(∀ b,H b≠none->b=a)/\(H a≠none->K.lookup a=none):=by
  cases hk:K.lookup a with
  | some o =>
   have e:=KX a o hk
   rw [ha] at e
   cases e
   exact ⟨fun _=>none,fun _=>.inl rfl,.inr ⟨_,vs.toArray,_,hk,rfl,rfl,rfl,by rw [Ì,lenV];exact hl,by simpa using rv⟩,fun b u z=>(nomatch z),fun b z=>absurd rfl z,fun z=>absurd rfl z⟩
  | none =>
   refine ⟨fun b=>if b=a then some (.frz { cls:=.type "list",data:=.seq vs.toArray } (.lst (ns.map V.int))) else none,fun b => ?_,.inl (.inr ⟨_,if_pos rfl⟩),fun b u z => ?_,fun b z => ?_,fun _=>rfl⟩
   ·by_cases q:b=a
    ·exact .inr ⟨_,_,if_pos q⟩
    ·exact .inl (if_neg q)
   ·by_cases q:b=a
    ·have z':=(if_pos q).symm.trans z
     cases z'
     rw [q]
     exact ⟨ha,by rw [Á];exact hl,vs,_,rv,ha⟩
    ·have z':=(if_neg q).symm.trans z
     cases z'
   ·by_cases q:b=a
    ·exact q
    ·exact absurd (if_neg q) z
 have h0P:H0 Pt=none:=by
  cases q:H0 Pt with
  | none=>rfl
  | some u=>exact absurd (hA Pt (by rw [q];simp)).symm aP
 generalize hH:upd H0 Pt (.tbl #[])=H
 have HP:H Pt=some (.tbl #[]):=by rw [<- hH];exact au
 have sm:aq H0 H:=by rw [<- hH];exact aL h0P _
 have ne:∀ {b:Addr},b≠Pt->H b=H0 b:=fun {b} q=>by rw [<- hH];exact ar q
 have hS':SqL K H a (ns.map V.int):=sm.seq hS
 have hok:HOk P w H s₁.heap:=fun b u e=>by
  by_cases q:b=Pt
  ·rw [q,HP] at e
   cases e
   rw [q]
   exact hPo
  ·rw [ne q] at e
   exact (hok0 b u e).stay (fun _ _ _ z=>z) (fun d z=>sm _ _ z) fun d xs z=>sm _ _ z
 have free:∀ {b:Addr} {o:Obj},s₁.heap.get? b=some o->b≠Pt->(o.cls ≠ .type "list"\/∃ es ep,o.data=.dict es ep)->H b=none:=fun {b o} e z n=>by
  rw [ne z]
  cases q:H0 b with
  | none=>rfl
  | some u =>
   have e':b=a:=hA b (by rw [q];simp)
   rw [e',ha] at e
   cases e
   rcases n with n | ⟨es,ep,n⟩
   ·exact absurd rfl n
   ·cases n
 have nsP:∀ {b:Addr} {m:Str->Option Value},s₁.heap.Ns b m->b≠Pt:=fun {b m} ⟨o,es,ep,e,d,_⟩ z=>by
  rw [z,hPo] at e
  cases e
  cases d
 have nsK:∀ {b:Addr} {m:Str->Option Value},s₁.heap.Ns b m->(BC s₁.heap H).Ns b m:=fun {b m} hb=>by
  have z:=nsP hb
  obtain ⟨o,es,ep,e,d,r⟩:=hb
  exact ⟨o,es,ep,j8 e (free e z (.inr ⟨es,ep,d⟩)),d,r⟩
 have hKb:K.In (BC s₁.heap H):=fun b o e=>j8 (KX b o e) (by
  rw [ne fun z=>by rw [z,hKP] at e;cases e]
  cases q:H0 b with
  | none=>rfl
  | some u =>
   have e':b=a:=hA b (by rw [q];simp)
   rw [e'] at e q
   rw [hK (by rw [q];simp)] at e
   cases e)
 have CH:CodeHd (BC s₁.heap H) c Pt:=by
  obtain ⟨o,vs',file,tf,flags,tg,inF,text,tt,e,e2,e3,e4,e5,e6,e7,e8,e9,e10⟩:=CodeHd.of hcode htab
  exact ⟨o,vs',file,tf,flags,tg,inF,text,tt,j8 e (free e e10 (.inl (by rw [e2];simp))),e2,e3,e4,e5,e6,e7,e8,e9,e10⟩
 have BA:(BC s₁.heap H).BuiltinsAt mg Pt:=by
  obtain ⟨bm,ob,b1,b2,b3,b4,b5,b6⟩:=hbm
  have bP:bm≠Pt:=fun q=>by rw [q,hPo] at b3;cases b3;cases b4
  have bG:bm≠mainGlobals:=fun q=>by
   obtain ⟨o,es,ep,e,hd,_⟩:=hns
   rw [q,e] at b3;cases b3;rw [hd] at b6;cases b6
  exact ⟨bm,ob,b1,b2,bG,bP,j8 b3 (free b3 bP (.inl (by rw [b4];simp))),b4,b5,b6⟩
 have e0:Env0 P w K mg (BC s₁.heap H) callerA [] s₁ H:=⟨rfl,⟨hKb,nsK hns,⟨mb,nsK hb,hbb⟩,let ⟨mc,h1,h2⟩:=hlim;⟨mc,nsK h1,h2⟩⟩,fun b o e=>E3 e,Ń (yy _ _),trivial,fun b hb=>absurd (show b∈([]:List Addr) from hb) ↥80,hok,.of_eq hg⟩
 refine codeAny_mono ((F _ hKb (nsK hns) CH BA (nsP hns)).run callerA [] s₁ H ⟨[.ref a],[]⟩ [.ref a] [.ref a] _ _ hr e0 (hbind s₁ ↥114) (.cons rfl .nil) (hsp H HP hS')) fun r s' h => ?_
 cases r with
 | error e=>exact (hCX H e s' h).elim
 | ok fl =>
  cases fl with
  | next=>exact Å h
  | brk=>exact Å h
  | cont=>exact Å h
  | ret u =>
   obtain ⟨v,H',os,bare,un,hok',r',q⟩:=h
   have q':v=.bl true:=q
   subst q'
   obtain rfl:u=Ŭ true:=r'
   have keep:∀ b o,b≠Pt->s₁.heap.get? b=some o->s'.heap.get? b=some o:=fun b o z e=>by
    cases q:H b with
    | none=>exact un.keep b o e q (by intro z;exact absurd (show b∈([]:List Addr) from z) ↥80) ↥80
    | some u =>
     rw [ne z] at q
     rcases hO b with y | ⟨ob,xs,y⟩
     ·rw [q] at y;cases y
     ·obtain ⟨e1,_⟩:=hok b _ (sm _ _ y)
      obtain ⟨e2,_⟩:=hok' b _ (un.frzs b ob _ (sm _ _ y))
      rw [e] at e1
      cases e1
      exact e2
   obtain ⟨more,hm⟩:=un.tbls Pt _ HP
   have hP':s'.heap.get? Pt=some (tabObj (#[]++more)):=hok' Pt _ hm
   refine ⟨rfl,⟨fun b o e => ?_,fun b o e => ?_⟩,os,bare⟩
   ·by_cases z:b=Pt
    ·rw [z,hPo] at e
     cases e
     rw [z]
     exact .inr (.inl ⟨htab.isCodeTable,rfl,#[],more,rfl,hP'⟩)
    ·exact .inl (keep b o z e)
   ·by_cases z:b=Pt
    ·rw [z];exact ⟨_,hP'⟩
    ·exact ⟨o,keep b o z e⟩
theorem wu {l:PySem.W.OpenLaw} {k:Nat} {q:Program} {loose:List Str} {XP:(Str->Option Value)->Heap->Prop} {YP:World->Heap->Prop} {d:DefRec} {K:Params->PySem.W.Frag} {x:Str} {f:List D->R D}
  (hf:Good f) (hn:l.most=some 63) (hdf:d.params.defaults=[]) (hr:Room k callerA) (hq:d∈recsOf q)
  (hY:∀ (w:World) (h:Heap),YP w h->(K w.params).In h)
  (F:∀ (w:World) (mg:Str->Option Value) (fa:Addr) (h:Heap),(K w.params).In h->h.Ns mainGlobals mg->mg d.name=some (.ref fa) ->
   ∃ fd:FuncData,(∀ (s:Shared) (u:Value),BindsTo s fd ⟨[u],[]⟩ [(x,u)])/\(∃ o,h.get? fa=some o/\o.data=.func fd)/\tabIn (K w.params) fd.code=true /\
    ∀ (base:Heap) (c Pt:Addr),fd.code=.ref c->CodeHd base c Pt->base.BuiltinsAt mg Pt->mainGlobals≠Pt->(K w.params).In base->base.Ns mainGlobals mg->FnOk l.prog w (K w.params) mg base (CXF l.prog w) k fa fd [x] (spB (K w.params) mg Pt f)) :
  PySem.W.WalkO q loose XP YP l.row.toRowW d [] (fun f vs=>ż f vs):=by
 refine sQ hn hdf fun w s₀ s₁ mg mb fa a vs ns G Y hmg hobj hints hlen hbits hg => ?_
 have KX:=hY w _ Y
 obtain ⟨fd,hb,⟨o,ho,hod⟩,ht,hF⟩:=F w mg fa _ KX G.T.g hmg
 obtain ⟨a',o',fd',c,Pt,h1,h2,h3,h4,h5,h6⟩:=G.T.tab d hq
 rw [hmg] at h1
 cases h1
 rw [ho] at h2
 cases h2
 rw [hod] at h3
 cases h3
 rw [h4] at ht
 refine yn KX G.T.g G.T.b G.T.builtins G.T.nolimit hg G.T.bmain h5 h6 (Au ht KX h6) hobj hints (Ð hlen ↥1) hr (fun base kb nb ch ba gp=>hF base c Pt h4 ch ba gp kb nb) hb (fun H hP hS=>⟨hP,[.lst (ns.map .int)],.cons (.lst hS (Reps.ints ns)) .nil,hf ns hlen hbits,fun _=>rfl⟩) fun H e s' ⟨_,_,_,_,_,z⟩=>z
end ES
namespace ES
open PySem PySem.Spec PyProof.Rows L2 EV PySem.W
unseal SE ST SW SA SS SSs SCl
section
variable {prog:Program} {w:World} {A:Around} {E:Value->Shared->Prop} {s:Shared}
theorem oN {r:Addr} {a b c:Int} {t u v:Tok} {n:Nat} {Q:List Value->Shared->Prop} (hh:A.handled=none) (hr:IsRange s.heap r a b c t u v) (hsmall:Builtin.Range.small a b c=true)
  (hn:Builtin.Range.rangeSize a b c=n) (hlen:n<=2^24) (hQ:∀ h' tk acc,↥45->ItemsOf (fun i v=>∃ t,v=.int (a+i*c) t) acc n->Q acc.toList { s with heap:=h',toks:=tk }) :
  wpAny ↥3 A (collect (.ref r)) Q E s:=by
 unfold collect
 refine wpAny_bind (wpAny_runValue (codeAny_builtin F.entry_proto_collect ?_))
 rw [Ė F.plain_proto_collect _]
 show wpAny _ A.in1 (newList [] >>= fun l=>again (.builtin "list.__iadd__" ⟨[l,.ref r],[]⟩)) _ _ s
 refine wpAny_bind (wpAny_newObj_type ?_)
 refine wpAny_pure ⟨plainId_quiet F.plain_list_iadd _,codeAny_builtin F.entry_list_iadd ?_⟩
 rw [Ė F.plain_list_iadd _]
 show wpAny _ A.in1 (ă ↥57 (.ref r) ↥57) _ _ _
 have hS:(s.heap.push { cls:=.type "list",data:=.seq ([]:List Value).toArray }).get? s.heap.objs.size=some { cls:=.type "list",data:=.seq #[] 0 }:=Ú _ rfl
 have fin':∀ (r':Result) (s':Shared),(∃ h' tk acc' c',r'=Except.ok (Flow.ret (â s.heap.objs.size))/\s'={ s with heap:=h',toks:=tk }/\↥45/\h'.get? s.heap.objs.size=some { cls:=.type "list",dict:=none,data:=.seq acc' c',slots := #[] }/\ItemsOf (fun i v=>∃ t,v=.int (a+i*c) t) acc' n) ->
   wpAny ↥3 A (match â s.heap.objs.size with
   | â a=>do
    match (<- load a).data with
     | Data.seq xs _=>pure xs.toList
     | _=>unsupported "internal:collect"
   | _=>unsupported "internal:collect") Q E s':=by
  rintro r' s' ⟨h',tk,acc',c',_,rfl,hk,hS',hacc⟩
  show wpAny _ A (load s.heap.objs.size >>= _) _ _ _
  refine wpAny_bind (wpAny_load hS' ?_)
  exact wpAny_pure (hQ h' tk acc' hk hacc)
 refine wpAny_mono (wpAny_extend_range (A:=A) (R:=fun r' s'=>∃ h' tk acc' c',r'=Except.ok (Flow.ret (â s.heap.objs.size))/\s'={ s with heap:=h',toks:=tk }/\↥45/\h'.get? s.heap.objs.size=some { cls:=.type "list",dict:=none,data:=.seq acc' c',slots := #[] }/\ItemsOf (fun i v=>∃ t,v=.int (a+i*c) t) acc' n)
  (s:={ s with heap:=s.heap.push { cls:=.type "list",data:=.seq ([]:List Value).toArray } }) hh (Ä _ hr) hsmall hn hlen s.heap.objs.size _ 0 hS fun h' tk acc' c' hk hS' hacc=>⟨h',tk,acc',c',rfl,rfl,fun b o e=>hk b o (æ ↥42) (Ä _ e),hS',hacc⟩) (fun fin s' h => ?_) (fun e s' h => ?_)
 ·cases fin with
  | done f =>
   have h':=h
   obtain ⟨_,_,_,_,e,_⟩:=h'
   cases e
   exact fin' _ _ h
  | again c'=>exact ⟨h.1,codeAny_mono h.2 fun r s'' hr=>by
    have hr':=hr
    obtain ⟨_,_,_,_,rfl,_⟩:=hr'
    exact fin' _ _ hr⟩
 ·obtain ⟨_,_,_,_,e,_⟩:=h
  cases e
end
section
variable {X:Cx} {N:List Str} {e:Expr} {g:E}
theorem vz {acc:Array Value} {n:Nat} (h:ItemsOf (fun i v=>∃ t,v=.int (0+i*1) t) acc n):IntsAre acc.toList ((č n).map fun (k:Nat)=>(0:Int)+k):=by
 have h1:=intsAre_map acc.toList (fun v hv=>by
  obtain ⟨i,hi⟩:=List.getElem?_of_mem hv
  obtain ⟨t,e⟩:=h.2 i v (by rw [<- ì];exact hi)
  exact ⟨_,t,e⟩)
 have e:acc.toList.map numOf=(č n).map fun (k:Nat)=>(0:Int)+k:=by
  refine List.ext_getElem? fun j => ?_
  rw [Ë,Ë]
  by_cases hj:j<n
  ·have hj':j<acc.toList.length:=by rw [Ã,h.1];exact hj
   rw [Â hj',Â (by simpa using hj)]
   obtain ⟨t,e⟩:=h.2 j acc.toList[j] (by rw [<- ì,Â hj'])
   simp only [Option.map_some,e,List.getElem_range]
   show some ((0:Int)+j*1)=_
   simp
  ·rw [Ą (by rw [Ã,h.1];omega),Ą (by simpa using hj)]
   rfl
 rw [e] at h1
 exact h1
theorem vM {pins:List ↥6} {σ:L2.St} {H:Hp} {A:Around} {a:Addr} {hi:Int} (hh:A.handled=none) (h:H a=some (.rng 0 hi)) (h1 : -(2^62)<=hi) (h2:hi<2^62) (hl:hi.toNat<=100000) :
  zD X pins σ H A ↥114 ((č hi.toNat).map fun (k:Nat)=>(0:Int)+k):=by
 intro s E Q I q
 obtain ⟨t,u,v,e⟩:=I.hok a _ h
 refine oN (a:=0) (b:=hi) (c:=1) (t:=t) (u:=u) (v:=v) (n:=hi.toNat) hh e (small_one ↥1 ↥1 h1 h2) (by rw [rangeSize_one];split<;>omega) ⋯ fun h' tk acc k hi => ?_
 exact q _ _ (I.kept (t':=tk) k) (vz hi)
theorem AF {p pos:Pos} (G:Gb X "range") (hm:X.mg "range"=none) (h:SE X e g) (hs:starEach [e] X.env=[↥27]:=by rfl):SCl X (.Call (.Name "range" p) [e] [] pos) (Bv g):=by
 intro pins s σ H Q I ⟨δ,ns,hσ,ei,hl,q⟩
 obtain ⟨hi,eg,h1,h2,en⟩:∃ hi,g δ=.ok (.int hi) /\ -(2^62)<=hi/\hi<2^62/\ns=(č hi.toNat).map fun (k:Nat)=>(0:Int)+k:=by
  unfold Bv at ei
  cases r:g δ with
  | ok d =>
   rw [r] at ei
   cases d with
   | int hi =>
    have ei:CZ (.int hi)=.ok (ns.map .int):=ei
    unfold CZ at ei
    simp only at ei
    split at ei
    ·rename_i hb
     refine ⟨hi,rfl,hb.1,hb.2,?_⟩
     have e2:iY 0 hi=ns.map .int:=R.ok.inj ei
     have e3:oA (iY 0 hi)=some ns:=by rw [e2,iw]
     unfold iY at e3
     rw [show ((č (hi - 0).toNat).map fun (k:Nat)=>EV.D.int (0+k))=(((č hi.toNat).map fun (k:Nat)=>(0:Int)+k).map .int) by rw [ô,Ëe];rfl,iw] at e3
     exact (Ó.inj e3).symm
    ·cases ei
   | _=>cases ei
  | ex C=>rw [r] at ei;cases ei
  | bad=>rw [r] at ei;cases ei
 refine Call_ (fF I G.g hm boot_range (Ă (thn (fz h ip hs pos pins s σ H (fun vs H1=>vs=[.int hi]/\aq H H1) I ⟨δ,hσ,?_⟩) fun us s1 ⟨vs,H1,I1,r1,ev,sm⟩ => ?_) hs rfl))
 ·rw [eg]
  exact fun v H' s' r=>by cases r;exact ⟨rfl,s'⟩
 subst ev
 obtain ⟨t,rfl⟩:∃ t,us=[ű hi t]:=by
  cases r1 with
  | cons r rr=>cases rr;obtain ⟨t,rfl⟩:=r;exact ⟨t,rfl⟩
 refine call_range_1 ⟨.ref s1.heap.objs.size,upd H1 s1.heap.objs.size (.rng 0 hi),I1.laid (t':=s1.toks+1+1) (fun b o q=>Ä _ q) ↥15 ⟨_,_,_,Ú _ rfl⟩,rfl,q _ _ (sm.trans (aL I1.fresh _)) ?_⟩
 intro pins' σ' H2 A u hh st ru
 cases ru
 rw [en] at hl ⊢
 exact vM hh (st _ _ au fun _ z=>nomatch z) h1 h2 (by simpa using hl)
end
end ES
namespace T
open EV
def cJ:S :=
 seq (assign 1 (bin oMod (var 0) ⇑8))
 (seq (assign 2 (bin oDiv (var 0) ⇑8))
 (seq (ifs (bin oLt (var 1) ⇑4) (ret (bin oIx (Fu [fk [⇑5,⇑10],fk [⇑8,⇑23],fk [⇑11,⇑52],fk [⇑15,⇑112]]) (var 1))) ↥144)
 (seq (ifs (bin oLt (var 1) ⇑6) (ret (fk [bin bH ⇑2 (bin oMod ↥124 ⇑14),bin bH ⇑1 (bin oMod (bin oDiv ↥124 ⇑14) ⇑112)])) ↥144)
 (ret (fk [bin bH ⇑2 ↥145,bin bH ⇑1 (bin oMod (bin oDiv ↥124 ⇑4) ⇑5)])))))
def bV:List D->R D:=fn 1 3 cJ
def dq:S :=
 ret (bin oIx (Fu [con (.str "even"),con (.str "away"),con (.str "nought"),con (.str "up"),con (.str "down")]) (bin oMod (var 0) ⇑5))
def cm:List D->R D:=fn 1 1 dq
def bZ:S :=
 seq (assign 2 ↥48)
 (seq (assign 3 (bin dY ↥124 ↥106))
 (seq (assign 4 (bin oMod (var 1) ⇑6))
 (seq (assign 5 (bin oDiv (var 1) ⇑6))
 (seq (ifs (bin oLt (var 4) ⇑2) (seq (assign 10 (bin oMod (bin eY (var 5) ⇑73846150927364518273645509182736455091829) (bin eY ⇑2 ↥140)))
 (ret (bin bH (bin eY (bin oDiv (var 10) ↥140) ↥124) (bin oMod (var 10) ↥140)))) ↥144)
 (seq (assign 6 (bin eY (bin oMod (var 5) ⇑2) ↥124))
 (seq (assign 5 (bin oDiv (var 5) ⇑2))
 (seq (ifs (bin oEq (var 4) ⇑2) (ret (bin bH (var 6) (bin oMod (var 5) ⇑6))) ↥144)
 (seq (ifs (bin oEq (var 4) ⇑3) (ret (bin dY (bin dY (bin bH (var 6) ↥140) ⇑1) (bin oMod (var 5) ⇑4))) ↥144)
 (seq (assign 7 (bin dY (bin gf ⇑1 (bin dY ↥22 ⇑1)) ⇑1))
 (seq (ifs (bin oEq (var 4) ⇑4) (ret (bin bH (bin dY (bin bH (var 6) (bin gf (var 7) ↥11)) ⇑2) (bin oMod (var 5) ⇑5))) ↥144)
 (seq (assign 8 (call CW [⇑0,call Gm [bin dY (bin gf ⇑1 ↥22) ⇑2,bin bH (bin dY (var 7) ⇑3) (bin oMod (var 5) ⇑8)]]))
 (seq (assign 9 (bin oMod (bin eY (bin oDiv (var 5) ⇑8) ⇑73846150927364518273645509182736455091829) ↥106))
 (ret (bin bH (bin bH (var 6) (bin gf (var 8) ↥11)) (var 9)))))))))))))))
def aA:List D->R D:=fn 2 11 bZ
def cK:S :=
 seq (assign 3 ↥48)
 (seq (assign 4 (bin oDiv (call gG [var 1]) ⇑2))
 (seq (dC 5 (dU (Bv (var 4)) [0,1] ↥133 (call aA [var 1,bin oIx ↥124 (bin eY ⇑2 (var 0))])))
 (seq (dC 6 (dU (Bv (var 4)) [0,1] ↥133 (call aA [var 1,bin oIx ↥124 (bin bH (bin eY ⇑2 (var 0)) ⇑1)])))
 (seq (assign 7 (bin bH ⇑1 (bin oMod (bin oDiv ↥124 ⇑3) ⇑5)))
 (seq (CS 8 (Bv (var 4)) (ifs (sS (bin oGt (bin oMod ↥124 ⇑3) ⇑0) (or_ (bin oEq (var 7) ⇑1) (bin oNe (bin oMod (var 8) (var 7)) ⇑0))) (seq (dj 5 (bin oIx (var 6) (var 8)))
 (dj 6 (bin oMod (bin bH (bin oIx (var 5) (var 8)) ↥140) (bin eY ⇑2 ↥140)))) ↥144))
 (seq (zE 6 (zE 5 (ifs (bin oEq (bin oMod (bin oDiv ↥124 ⇑15) ⇑2) ⇑1) (seq (assign 5 (call Gk [var 5]))
 (assign 6 (call Gk [var 6]))) ↥144)))
 (seq (assign 4 (bin bH ⇑1 (bin oMod (bin oDiv ↥124 ⇑30) ⇑3)))
 (ret (fk [slc (bin A3 (var 5) (var 4)) none (some ⇑200),slc (bin A3 (var 6) (var 4)) none (some ⇑200)])))))))))
def bW:List D->R D:=fn 3 9 cK
def cM:S :=
 seq (assign 2 ↥48)
 (seq (assign 3 (bin gf (bin dY (bin gf ⇑1 ↥22) ⇑1) ↥11))
 (seq (assign 4 (bin oMod (var 1) ⇑9))
 (seq (assign 5 (bin oDiv (var 1) ⇑9))
 (seq (ifs (bin oLt (var 4) ⇑3) (ret (bin oMod (bin eY (var 5) ⇑73846150927364518273645509182736455091829) (bin eY ⇑2 ↥124))) ↥144)
 (seq (assign 6 (bin eY (bin oMod (var 5) ⇑2) ↥124))
 (seq (assign 5 (bin oDiv (var 5) ⇑2))
 (seq (ifs (bin oEq (var 4) ⇑3) (ret (bin bH (var 6) (bin oMod (var 5) ⇑6))) ↥144)
 (seq (ifs (bin oEq (var 4) ⇑4) (ret (bin bH (bin dY (bin bH (var 6) ↥140) ⇑3) (bin oMod (var 5) ⇑5))) ↥144)
 (seq (ifs (bin oEq (var 4) ⇑5) (ret (bin bH (bin dY (bin bH (var 6) ↥106) ⇑2) (bin oMod (var 5) ⇑4))) ↥144)
 (seq (ifs (bin oEq (var 4) ⇑6) (ret (bin bH (bin dY (bin bH (var 6) (bin gf (bin dY (bin gf ⇑1 (bin dY ↥22 ⇑1)) ⇑1) ↥11)) ⇑2) (bin oMod (var 5) ⇑5))) ↥144)
 (seq (ifs (bin oEq (var 4) ⇑7) (ret (bin bH (bin bH (bin bH (var 6) ↥140) ⇑1) (bin oMod (var 5) (bin dY ↥106 ⇑1)))) ↥144)
 (seq (assign 7 (bin oIx (Fu [⇑0,⇑1,bin dY ↥106 ⇑1,bin gf ⇑1 (bin dY ↥11 ⇑1)]) (bin oMod (var 5) ⇑4)))
 (ret (bin bH (bin bH (var 6) (bin gf (bin oMod (bin oDiv (var 5) ⇑4) (bin gf ⇑1 ↥22)) ↥11)) (var 7)))))))))))))))
def aS:List D->R D:=fn 2 8 cM
def eO:S :=
 seq (assign 3 ↥48)
 (seq (assign 4 (bin dY ↥140 ↥106))
 (seq (ifs (sS (bin oGt ↥124 ⇑0) (bin oGt (bin oMod (var 1) ↥140) (var 4))) (ret (bin bH (bin eY (bin oDiv (var 1) ↥140) ↥140) (var 4))) ↥144)
 (seq (ifs (sS (bin oGt ↥124 ⇑1) (bin oEq (bin oMod (var 1) ↥140) ⇑0)) (ret (bin bH (var 1) ⇑1)) ↥144)
 (ret (var 1)))))
def aO:List D->R D:=fn 3 5 eO
def eR:S :=
 seq (assign 3 ↥48)
 (seq (ifs (bin oEq ↥145 ⇑2) (ret (call bW [var 0,var 1,bin oDiv ↥124 ⇑4])) ↥144)
 (seq (mO 4)
 (seq (mO 5)
 (seq (CS 6 (Bv (bin oDiv (call gG [var 1]) ⇑2)) (seq (assign 7 (call aS [var 0,bin oIx (var 1) (bin eY ⇑2 (var 6))]))
 (seq (assign 8 (call aS [var 0,bin oIx (var 1) (bin bH (bin eY ⇑2 (var 6)) ⇑1)]))
 (seq (ifs (bin oEq ↥145 ⇑3) (seq (assign 7 (bin eY (bin oDiv (var 7) ↥140) ↥140))
 (assign 8 (bin eY (bin oDiv (var 8) ↥140) ↥140))) ↥144)
 (seq (dj 4 (call aO [var 0,var 7,bin oMod ↥145 ⇑3]))
 (dj 5 (call aO [var 0,var 8,bin oMod ↥145 ⇑3])))))))
 (zE 5 (zE 4 (ret (fk [var 4,var 5]))))))))
def cT:List D->R D:=fn 3 9 eR
def j9:S :=
 seq (ifs (bin gJ (var 0) (con ↥98)) (raise "NoWay") ↥144)
 (ret (call (mk1 "Way" "name") [var 0]))
def bq:List D->R D:=fn 1 1 j9
def gx:S :=
 ret ↥48
def bI:List D->R D:=fn 1 1 gx
def oG:S :=
 ret (bin bH (bin bH ↥22 ↥11) ⇑1)
def kX:List D->R D:=fn 1 1 oG
def kh:S :=
 seq (ifs (or_ (bin oLt (var 1) ⇑0) (bin oGe (var 1) (bin gf ⇑1 (call kX [var 0])))) (raise "NoBits") ↥144)
 (seq (assign 2 (bin oMod (var 1) (call bI [var 0])))
 (seq (assign 3 ↥106)
 (ret (fk [bin oDiv (var 1) (call bI [var 0]),bin oDiv ↥124 ↥140,bin oMod ↥124 ↥140]))))
def cf:List D->R D:=fn 2 4 kh
def du:S :=
 ret (bin dY (bin gf ⇑1 ↥22) ⇑1)
def aH:List D->R D:=fn 1 1 du
def uf:S :=
 seq (assign 2 (call cf [var 0,var 1]))
 (seq (assign 3 (bin oIx ↥124 ⇑1))
 (seq (assign 4 (bin oIx ↥124 ⇑2))
 (seq (ifs (bin oEq ↥140 ⇑0) (ret (ife (bin oEq (var 4) ⇑0) (con (.str "nought")) (con (.str "faint")))) ↥144)
 (seq (ifs (bin oEq ↥140 (call aH [var 0])) (ret (ife (bin oEq (var 4) ⇑0) (con (.str "endless")) (con (.str "none")))) ↥144)
 (ret (con (.str "plain")))))))
def cU:List D->R D:=fn 2 5 uf
def gB:S :=
 seq (dC 2 (dU (itA (var 1)) [0] ↥133 (call cU [var 1,var 0])))
 (zE 2 (ret (bin oIn (con (.str "none")) ↥124)))
def dJ:List D->R D:=fn 2 3 gB
def bC:S :=
 seq (assign 1 ↥11)
 (seq (assign 2 (bin oIx (var 0) ⇑2))
 (seq (ifs (bin oGe ↥124 ⇑0) (ret (fk [bin oIx (var 0) ⇑0,bin gf (var 1) ↥124,⇑1])) ↥144)
 (ret (fk [bin oIx (var 0) ⇑0,var 1,bin gf ⇑1 (un Jn ↥124)]))))
def aV:List D->R D:=fn 1 3 bC
def bE:S :=
 ifs (or_ (bin oLt (var 0) ⇑0) (bin oLt (var 1) ⇑1)) (raise "NoFraction") ↥144
def aX:List D->R D:=fn 2 2 bE
def kg:S :=
 seq (ifs (bin oGe ↥124 ⇑0) (ret (fk [var 0,bin gf (var 1) ↥124])) ↥144)
 (ret (fk [bin gf (var 0) (un Jn ↥124),var 1]))
def eC:List D->R D:=fn 3 3 kg
def ug:S :=
 ret (bin dY (bin gf ⇑1 (bin dY ↥22 ⇑1)) ⇑1)
def pY:List D->R D:=fn 1 1 ug
def BF:S :=
 ret (bin dY (bin dY ⇑1 (call pY [var 0])) ↥11)
def kZ:List D->R D:=fn 1 1 BF
def bD:S :=
 seq (ifs (bin oEq (var 0) ⇑0) (ret ⇑0) ↥144)
 (seq (ifs (bin oLt (var 1) ↥124) (ret ⇑1) ↥144)
 (ret (ife (bin oEq (var 1) ↥124) ⇑2 ⇑3)))
def aW:List D->R D:=fn 3 3 bD
def iA:S :=
 ret (call aW [var 0,bin eY ⇑2 (var 0),var 1])
def fB:List D->R D:=fn 2 2 iA
def ki:S :=
 seq (assign 2 (bin dY (call jj [var 0]) (call jj [var 1])))
 (seq (assign 3 (call eC [var 0,var 1,var 2]))
 (ret (ife (bin oLt (bin oIx ↥140 ⇑0) (bin oIx ↥140 ⇑1)) ↥124 (bin bH ↥124 ⇑1))))
def iq:List D->R D:=fn 2 4 ki
def yD:S :=
 seq (expr (call aX [var 1,var 2]))
 (seq (ifs (bin oEq (var 1) ⇑0) (ret (fk [⇑0,call kZ [var 0],⇑0])) ↥144)
 (seq (assign 3 (call CW [call kZ [var 0],bin dY (bin dY (call iq [var 1,var 2]) ↥11) ⇑1]))
 (seq (assign 4 (call eC [var 1,var 2,var 3]))
 (ret (fk [bin oDiv (bin oIx (var 4) ⇑0) (bin oIx (var 4) ⇑1),var 3,call fB [bin oMod (bin oIx (var 4) ⇑0) (bin oIx (var 4) ⇑1),bin oIx (var 4) ⇑1]])))))
def rE:List D->R D:=fn 3 5 yD
def iB:S :=
 ret (bin gf (call aH [var 0]) ↥11)
def bg:List D->R D:=fn 1 1 iB
def kd:S :=
 ret (bin bH (bin eY (var 1) (call bI [var 0])) ↥124)
def bS:List D->R D:=fn 3 3 kd
def dm:S :=
 seq (ifs (bin oEq ↥124 (call bg [var 0])) (ret (bin bH ⇑1 ⇑4)) ↥144)
 (seq (assign 3 (bin oLt (var 1) ↥106))
 (ret (ife ↥140 (bin bH ⇑1 ⇑2) ⇑1)))
def ck:List D->R D:=fn 3 4 dm
def aJ:S :=
 seq (ifs (bin oEq ↥135 (con (.str "up"))) (ret (bin oEq (var 1) ⇑0)) ↥144)
 (ret (sS (bin oEq ↥135 (con (.str "down"))) (bin oEq (var 1) ⇑1)))
def aD:List D->R D:=fn 2 2 aJ
def cV:S :=
 seq (ifs (bin oEq ↥140 ⇑0) (ret (con ↥56)) ↥144)
 (seq (ifs (bin oEq ↥135 (con (.str "even"))) (ret (or_ (bin oEq ↥140 ⇑3) (sS (bin oEq ↥140 ⇑2) ↥124))) ↥144)
 (seq (ifs (bin oEq ↥135 (con (.str "away"))) (ret (bin oGe ↥140 ⇑2)) ↥144)
 (ret (GN "Way" "flees_nought" aD (var 0) [var 1]))))
def eD:List D->R D:=fn 4 4 cV
def cq:S :=
 seq (ifs (bin oIn ↥135 (fk [con (.str "even"),con (.str "away")])) (ret ↥133) ↥144)
 (ret (GN "Way" "flees_nought" aD (var 0) [var 1]))
def di:List D->R D:=fn 2 2 cq
def iz:S :=
 seq (assign 6 (call bq [var 1]))
 (seq (assign 7 (bin bH (bin gf (bin dY (var 4) (call kZ [var 0])) ↥11) ↥140))
 (seq (assign 8 (call bg [var 0]))
 (seq (ifs (bin oGe (var 7) (var 8)) (seq (assign 9 (ife (GN "Way" "bursts" di (var 6) [var 2]) (var 8) (bin dY (var 8) ⇑1)))
 (ret (fk [call bS [var 0,var 2,var 9],bin bH ⇑1 ⇑4]))) ↥144)
 (seq (ifs (bin oEq (var 5) ⇑0) (ret (fk [call bS [var 0,var 2,var 7],⇑0])) ↥144)
 (seq (assign 9 (ife (GN "Way" "grows" eD (var 6) [var 2,bin oEq (bin p9 (var 7) ⇑1) ⇑1,var 5]) (bin bH (var 7) ⇑1) (var 7)))
 (ret (fk [call bS [var 0,var 2,var 9],call ck [var 0,var 7,var 9]])))))))
def fA:List D->R D:=fn 6 10 iz
def fH:S :=
 seq (expr (call bq [var 1]))
 (seq (assign 5 (call rE [var 0,var 3,var 4]))
 (ret (call fA [var 0,var 1,var 2,bin oIx (var 5) ⇑0,bin oIx (var 5) ⇑1,bin oIx (var 5) ⇑2])))
def bT:List D->R D:=fn 5 6 fH
def oH:S :=
 seq (assign 1 (call (oX 0) [comp (itA (var 0)) [] (bin oIx (var 0) ⇑2)]))
 (seq (assign 2 ⇑0)
 (seq (CS 3 (itA (var 0)) (seq (assign 4 (bin gf (bin oIx ↥140 ⇑1) (bin dY (bin oIx ↥140 ⇑2) (var 1))))
 (assign 2 (ife (bin oEq (bin oIx ↥140 ⇑0) ⇑1) (bin dY ↥124 (var 4)) (bin bH ↥124 (var 4))))))
 (ret (fk [ife (bin oLt ↥124 ⇑0) ⇑1 ⇑0,call GR [var 2],var 1]))))
def kY:List D->R D:=fn 1 5 oH
def cI:S :=
 seq (expr (call bq [var 0]))
 (seq (ifs (sS (bin oIn ⇑0 (var 1)) (bin oIn ⇑1 (var 1))) (ret (ife (bin oEq (var 0) (con (.str "down"))) ⇑1 ⇑0)) ↥144)
 (ret (ife (bin oIn ⇑1 (var 1)) ⇑1 ⇑0)))
def bU:List D->R D:=fn 2 2 cI
def bo:S :=
 seq (assign 3 (call aV [call kY [var 2]]))
 (seq (ifs (bin oEq (bin oIx ↥140 ⇑1) ⇑0) (seq (assign 4 (call bU [var 1,comp (itA ↥124) [] ↥22]))
 (ret (fk [call bS [var 0,var 4,⇑0],⇑0]))) ↥144)
 (ret (call bT [var 0,var 1,bin oIx ↥140 ⇑0,bin oIx ↥140 ⇑1,bin oIx ↥140 ⇑2])))
def av:List D->R D:=fn 3 5 bo
def eJ:S :=
 ret (bin bH (call bg [var 0]) (bin gf ⇑1 (bin dY ↥11 ⇑1)))
def bf:List D->R D:=fn 1 1 eJ
def bp:S :=
 seq (dC 3 (dU (itA ↥124) [] (un rJ ↥11) ↥22))
 (seq (zE 3 (ifs (sS (bin oIn ⇑0 ↥140) (bin oIn ⇑1 ↥140)) (ret (fk [call bf [var 0],⇑16])) ↥144))
 (seq (ifs (bin oGt (call gG [var 3]) ⇑0) (ret (fk [call bS [var 0,bin oIx ↥140 ⇑0,call bg [var 0]],⇑0])) ↥144)
 (ret (call av [var 0,var 1,var 2]))))
def aB:List D->R D:=fn 3 4 bp
def oF:S :=
 seq (assign 2 (call cf [var 0,var 1]))
 (seq (assign 3 (bin oIx ↥124 ⇑0))
 (seq (assign 4 (bin oIx ↥124 ⇑1))
 (seq (assign 5 (bin oIx ↥124 ⇑2))
 (seq (ifs (bin oEq (var 4) (call aH [var 0])) (raise "NotFinite") ↥144)
 (seq (ifs (bin oEq (var 4) ⇑0) (ret (fk [var 3,var 5,call kZ [var 0]])) ↥144)
 (ret (fk [var 3,bin bH ↥106 (var 5),bin dY (bin bH (call kZ [var 0]) (var 4)) ⇑1])))))))
def kW:List D->R D:=fn 2 6 oF
def bY:S :=
 seq (ifs (bin oEq (call cU [var 0,var 1]) (con (.str "endless"))) (ret (fk [bin oIx (call cf [var 0,var 1]) ⇑0,con .non,⇑0])) ↥144)
 (ret (call kW [var 0,var 1]))
def ax:List D->R D:=fn 2 2 bY
def cg:S :=
 seq (assign 3 (call ax [var 0,var 1]))
 (seq (assign 4 (call ax [var 0,var 2]))
 (seq (assign 5 (bin rK (bin oIx ↥140 ⇑0) (bin oIx (var 4) ⇑0)))
 (seq (ifs (or_ (un rJ (bin oIx ↥140 ⇑1)) (un rJ (bin oIx (var 4) ⇑1))) (ret (fk [var 5,con .non,⇑0])) ↥144)
 (ret (fk [var 5,bin eY (bin oIx ↥140 ⇑1) (bin oIx (var 4) ⇑1),bin bH (bin oIx ↥140 ⇑2) (bin oIx (var 4) ⇑2)])))))
def aY:List D->R D:=fn 3 6 cg
def bX:S :=
 seq (assign 3 (fk [call cU [var 0,var 1],call cU [var 0,var 2]]))
 (ret (sS (bin oIn (con (.str "nought")) ↥140) (bin oIn (con (.str "endless")) ↥140)))
def bb:List D->R D:=fn 3 4 bX
def br:S :=
 seq (expr (call bq [var 1]))
 (seq (om 4 (call qF [var 3]))
 (seq (CS 5 (itA ↥124) (jn 4 (var 5)))
 (seq (KZ (call dJ [var 0,var 4]) (ret (fk [call bf [var 0],⇑0])) ↥144)
 (seq (ifs (call Gp [comp (itA ↥124) [0] ↥95]) (ret (fk [call bf [var 0],⇑16])) ↥144)
 (seq (dC 6 (dU (itA ↥124) [0] ↥133 (call aY [var 1,bin oIx (var 0) ⇑0,bin oIx (var 0) ⇑1])))
 (zE 6 (ret (call aB [var 0,var 1,bin bH (var 6) (comp (itA ↥140) [0] (call ax [var 1,var 0]))]))))))))
def ai:List D->R D:=fn 4 7 br
def gA:S :=
 seq (expr (call bq [var 1]))
 (seq (ifs (bin oNe (call gG [var 2]) (call gG [var 3])) (raise "Unlike") ↥144)
 (ret (call ai [var 0,var 1,call Ky [var 2,var 3],Fu []])))
def bK:List D->R D:=fn 4 4 gA
def ka:S :=
 ret (call ai [var 0,var 1,Fu [],var 2])
def eB:List D->R D:=fn 3 3 ka
def cL:S :=
 seq (ifs (bin oLt (var 1) (call gG [var 0])) (ret (bin oIx (var 0) (var 1))) ↥144)
 (ret ⇑0)
def aQ:List D->R D:=fn 2 2 cL
def dt:S :=
 seq (assign 4 ↥48)
 (seq (ifs (bin oGt ↥140 ⇑1) (seq (assign 1 (bin oMod (bin bH (var 1) (var 4)) (bin eY ⇑2 (var 4))))
 (assign 2 (bin oMod (bin bH ↥124 (var 4)) (bin eY ⇑2 (var 4))))) ↥144)
 (seq (ifs (bin oEq (bin oMod ↥140 ⇑2) ⇑1) (ret (fk [var 2,var 1])) ↥144)
 (ret (fk [var 1,var 2]))))
def bJ:List D->R D:=fn 4 5 dt
def eK:S :=
 ret (sS (call mH [var 0,con (.ty "int")]) (CM (call mH [var 0,con (.ty "bool")])))
def b8:List D->R D:=fn 1 1 eK
def gy:S :=
 seq (ifs (or_ (CM (call mH [var 1,con (.ty "tuple")])) (or_ (bin oNe (call gG [var 1]) ⇑2) (or_ (CM (call b8 [bin oIx (var 1) ⇑0])) (CM (call b8 [bin oIx (var 1) ⇑1]))))) (ret (con ↥56)) ↥144)
 (ret (sS (chain oLe oLt ⇑0 (bin oIx (var 1) ⇑0) (bin gf ⇑2 (bin bH ↥22 ↥11))) (chain oLe oLt ⇑0 (bin oIx (var 1) ⇑1) ⇑32)))
def cP:List D->R D:=fn 2 2 gy
def BG:S :=
 seq (assign 1 (call bV [call aQ [var 0,⇑0]]))
 (seq (assign 2 (call cm [call aQ [var 0,⇑1]]))
 (seq (assign 3 (slc (var 0) (some ⇑3) (some ⇑203)))
 (seq (jk 10 11 (call cT [var 1,var 3,call aQ [var 0,⇑2]]))
 (vR 4 (pK (Bv (call gG [var 10])) [3] (bin oMod (bin eY (bin oIx (var 1) (bin oMod (var 0) (call gG [var 1]))) (bin bH ⇑48271 (bin eY (bin eY ⇑2 (var 0)) (var 0)))) ⇑2147483647))
 (seq (mO 5)
 (seq (mO 6)
 (seq (CS 7 (itA (var 4)) (seq (jk 12 13 (call bJ [var 1,bin oIx (var 10) (var 7),bin oIx (var 11) (var 7),bin oMod (bin oDiv (bin oIx ↥140 (bin oMod (var 7) (call gG [var 3]))) ⇑7) ⇑4]))
 (seq (dj 5 (var 12))
 (dj 6 (var 13)))))
 (seq (assign 8 (call bK [var 1,var 2,call oY [var 10],call oY [var 11]]))
 (seq (KZ (or_ (CM (call cP [var 1,var 8])) (bin oNe (call bK [var 1,var 2,var 5,var 6]) (var 8))) (ret (con ↥56)) ↥144)
 (seq (assign 9 (call eB [var 1,var 2,call oY [var 10]]))
 (ret (sS (call cP [var 1,var 9]) (bin oEq (call eB [var 1,var 2,comp (itA (var 4)) [10] (bin oIx (var 1) (var 0))]) (var 9))))))))))))))
def AV:List D->R D:=fn 1 14 BG
end T
namespace T
open PySem PySem.Spec PyProof.Rows L2 EV ES
def top (i:Nat):Stmt:=À.main.body.getD i ↥36
set_option maxHeartbeats 4000000
def fZ:Stmt:=(cv (top 34)).getD 0 ↥36
def cE:Stmt:=top 57
abbrev iM:List Str:=["_law_cell","_law_way","_law_rest"]
abbrev iT:List Str:=[]
theorem ma:ScF iM iT ["_law_cell"] (aa cE):=by walk_at "S"
def de:Stmt:=top 58
abbrev jv:List Str:=["_law_cell"]
abbrev jC:List Str:=[]
theorem nQ:ScF jv jC ["_law_cell"] (aa de):=by walk_at "S"
def bQ:Stmt:=top 60
abbrev fN:List Str:=["_law_size","_law_cell","_law_half","_law_last","_law_way","_law_rest","_law_side","_law_middle","_law_field","_law_figures","_law_mixed"]
abbrev fR:List Str:=["max","min"]
theorem jL:ScF fN fR ["_law_size","_law_cell"] (aa bQ):=by walk_at "S"
def cF:Stmt:=top 61
abbrev iN:List Str:=["_law_size","_law_cells","_law_plan","_law_half","_law_many","_law_xs","_law_ys","_law_spared","_law_k"]
abbrev iU:List Str:=["len","range","list","reversed"]
theorem md:ScF iN iU ["_law_size","_law_cells","_law_plan"] (aa cF):=by walk_at "S"
def cH:Stmt:=top 59
abbrev iP:List Str:=["_law_size","_law_cell","_law_half","_law_last","_law_way","_law_rest","_law_side","_law_figures"]
abbrev iW:List Str:=[]
theorem mf:ScF iP iW ["_law_size","_law_cell"] (aa cH):=by walk_at "S"
def et:Stmt:=top 62
abbrev lS:List Str:=["_law_size","_law_bits","_law_plan","_law_half","_law_last"]
abbrev lY:List Str:=[]
theorem pP:ScF lS lY ["_law_size","_law_bits","_law_plan"] (aa et):=by walk_at "S"
def eA:Stmt:=top 63
abbrev lT:List Str:=["_law_size","_law_cells","_law_plan","_law_half","_law_xs","_law_ys","_law_k","_law_x","_law_y"]
abbrev lZ:List Str:=["_law_rows_by","range","len","_law_bits_by","_law_clean"]
theorem pQ:ScF lT lZ ["_law_size","_law_cells","_law_plan"] (aa eA):=by walk_at "S"
def jQ:Stmt:=top 35
abbrev uD:List Str:=["name"]
abbrev uJ:List Str:=["NAMES","NoWay","Way"]
theorem wW:ScF uD uJ ["name"] (aa jQ):=by walk_at "S"
def fU:Stmt:=top 11
abbrev ng:List Str:=["size"]
abbrev nu:List Str:=[]
theorem rg:ScF ng nu ["size"] (aa fU):=by walk_at "S"
def nY:Stmt:=top 8
abbrev zw:List Str:=["size"]
abbrev zB:List Str:=[]
theorem AD:ScF zw zB ["size"] (aa nY):=by walk_at "S"
def jU:Stmt:=top 27
abbrev uH:List Str:=["size","bits","code","step"]
abbrev uN:List Str:=["width","NoBits","sign_bit"]
theorem xa:ScF uH uN ["size","bits"] (aa jU):=by walk_at "S"
def dg:Stmt:=top 12
abbrev jz:List Str:=["size"]
abbrev jE:List Str:=[]
theorem nU:ScF jz jE ["size"] (aa dg):=by walk_at "S"
def tm:Stmt:=top 28
abbrev C1:List Str:=["size","bits","parts","field","figures"]
abbrev C3:List Str:=["parted","last_field"]
theorem Er:ScF C1 C3 ["size","bits"] (aa tm):=by walk_at "S"
def fY:Stmt:=top 45
abbrev nq:List Str:=["size","numbers","kinds"]
abbrev nC:List Str:=[]
theorem rj:ScF nq nC ["size","numbers"] (aa fY):=by walk_at "S"
def bz:Stmt:=top 30
abbrev fc:List Str:=["value","whole","power"]
abbrev fh:List Str:=[]
theorem i9:ScF fc fh ["value"] (aa bz):=by walk_at "S"
def bB:Stmt:=top 16
abbrev fg:List Str:=["top","bottom"]
abbrev fj:List Str:=["NoFraction"]
theorem jb:ScF fg fj ["top","bottom"] (aa bB):=by walk_at "S"
def jT:Stmt:=top 17
abbrev uG:List Str:=["top","bottom","power"]
abbrev uM:List Str:=[]
theorem wZ:ScF uG uM ["top","bottom","power"] (aa jT):=by walk_at "S"
def tu:Stmt:=top 9
abbrev C2:List Str:=["size"]
abbrev C4:List Str:=[]
theorem Es:ScF C2 C4 ["size"] (aa tu):=by walk_at "S"
def AH:Stmt:=top 10
abbrev KG:List Str:=["size"]
abbrev KJ:List Str:=["bias"]
theorem HY:ScF KG KJ ["size"] (aa AH):=by walk_at "S"
def bA:Stmt:=top 19
abbrev fe:List Str:=["over","number","middle"]
abbrev fi:List Str:=[]
theorem ja:ScF fe fi ["over","number","middle"] (aa bA):=by walk_at "S"
def ig:Stmt:=top 20
abbrev qI:List Str:=["over","step"]
abbrev qM:List Str:=["rest_by_middle"]
theorem va:ScF qI qM ["over","step"] (aa ig):=by walk_at "S"
def jW:Stmt:=top 18
abbrev uI:List Str:=["top","bottom","guess","parts"]
abbrev uO:List Str:=["scaled"]
theorem xc:ScF uI uO ["top","bottom"] (aa jW):=by walk_at "S"
def AI:Stmt:=top 21
abbrev KI:List Str:=["size","top","bottom","power","parts"]
abbrev KN:List Str:=["check_fraction","low","max","height","scaled","rest_of"]
theorem Ia:ScF KI KN ["size","top","bottom"] (aa AI):=by walk_at "S"
def ij:Stmt:=top 13
abbrev qJ:List Str:=["size"]
abbrev qN:List Str:=["last_field"]
theorem vc:ScF qJ qN ["size"] (aa ij):=by walk_at "S"
def jS:Stmt:=top 31
abbrev uF:List Str:=["size","sign","code"]
abbrev uL:List Str:=["sign_bit"]
theorem wY:ScF uF uL ["size","sign","code"] (aa jS):=by walk_at "S"
def cZ:Stmt:=top 38
abbrev ju:List Str:=["size","code","taken","faint"]
abbrev jB:List Str:=["endless","INEXACT","GREAT","SMALL"]
theorem nO:ScF ju jB ["size","code","taken"] (aa cZ):=by walk_at "S"
def az:Stmt:=(cv (top 34)).getD 3 ↥36
abbrev dz:List Str:=["self","sign"]
abbrev dA:List Str:=[]
theorem gR:ScF dz dA ["self","sign"] (aa az):=by walk_at "S"
def bF:Stmt:=(cv (top 34)).getD 1 ↥36
abbrev lU:List Str:=["self","sign","odd","rest"]
abbrev l4:List Str:=[]
theorem pR:ScF lU l4 ["self","sign","odd","rest"] (aa bF):=by walk_at "S"
def a8:Stmt:=(cv (top 34)).getD 2 ↥36
abbrev jA:List Str:=["self","sign"]
abbrev jF:List Str:=[]
theorem nW:ScF jA jF ["self","sign"] (aa a8):=by walk_at "S"
def hZ:Stmt:=top 37
abbrev qG:List Str:=["size","way","sign","whole","power","rest","chosen","code","end","taken"]
abbrev qK:List Str:=["way_of","low","endless","signed","INEXACT","GREAT","lost_flags"]
theorem u7:ScF qG qK ["size","way","sign","whole","power","rest"] (aa hZ):=by walk_at "S"
def ie:Stmt:=top 39
abbrev qH:List Str:=["size","way","sign","top","bottom","parts"]
abbrev qL:List Str:=["way_of","cut","settled"]
theorem u9:ScF qH qL ["size","way","sign","top","bottom"] (aa ie):=by walk_at "S"
def nZ:Stmt:=top 41
abbrev zx:List Str:=["terms","power","whole","term","part"]
abbrev zC:List Str:=["min","abs"]
theorem AE:ScF zx zC ["terms"] (aa nZ):=by walk_at "S"
def cD:Stmt:=top 42
abbrev iL:List Str:=["way","signs"]
abbrev iS:List Str:=["way_of"]
theorem l9:ScF iL iS ["way","signs"] (aa cD):=by walk_at "S"
def bM:Stmt:=top 43
abbrev fK:List Str:=["size","way","terms","value","sign"]
abbrev fO:List Str:=["worth_fraction","total","nought_sign","signed","rounded"]
theorem jI:ScF fK fO ["size","way","terms"] (aa bM):=by walk_at "S"
def d8:Stmt:=top 14
abbrev lQ:List Str:=["size"]
abbrev lW:List Str:=["endless"]
theorem pN:ScF lQ lW ["size"] (aa d8):=by walk_at "S"
def bN:Stmt:=top 49
abbrev fL:List Str:=["size","way","terms","signs"]
abbrev fP:List Str:=["no_number","WRONG","len","signed","endless","settled_total"]
theorem jJ:ScF fL fP ["size","way","terms"] (aa bN):=by walk_at "S"
def nX:Stmt:=top 29
abbrev zv:List Str:=["size","bits","parts","sign","field","figures"]
abbrev zA:List Str:=["parted","last_field","NotFinite","low"]
theorem AB:ScF zv zA ["size","bits"] (aa nX):=by walk_at "S"
def cA:Stmt:=top 46
abbrev iK:List Str:=["size","bits"]
abbrev iR:List Str:=["kind","parted","worth"]
theorem l8:ScF iK iR ["size","bits"] (aa cA):=by walk_at "S"
def cb:Stmt:=top 48
abbrev gM:List Str:=["size","a","b","left","right","sign"]
abbrev gN:List Str:=["number_term"]
theorem kK:ScF gM gN ["size","a","b"] (aa cb):=by walk_at "S"
def bO:Stmt:=top 47
abbrev fM:List Str:=["size","a","b","kinds"]
abbrev fQ:List Str:=["kind"]
theorem jK:ScF fM fQ ["size","a","b"] (aa bO):=by walk_at "S"
def cz:Stmt:=top 50
abbrev iJ:List Str:=["size","way","pairs","singles","numbers","pair","products"]
abbrev iQ:List Str:=["way_of","list","any_none","no_number","any","WRONG","settled_terms"]
theorem l6:ScF iJ iQ ["size","way","pairs","singles"] (aa cz):=by walk_at "S"
def fX:Stmt:=top 52
abbrev nj:List Str:=["size","way","xs","ys"]
abbrev nz:List Str:=["way_of","len","Unlike","settled_sum","list","zip"]
theorem ri:ScF nj nz ["size","way","xs","ys"] (aa fX):=by walk_at "S"
def jR:Stmt:=top 53
abbrev uE:List Str:=["size","way","xs"]
abbrev uK:List Str:=["settled_sum"]
theorem wX:ScF uE uK ["size","way","xs"] (aa jR):=by walk_at "S"
def cG:Stmt:=top 55
abbrev iO:List Str:=["_law_script","_law_k"]
abbrev iV:List Str:=["len"]
theorem me:ScF iO iV ["_law_script","_law_k"] (aa cG):=by walk_at "S"
def df:Stmt:=top 64
abbrev jw:List Str:=["_law_size","_law_x","_law_y","_law_way","_law_half"]
abbrev jD:List Str:=[]
theorem nR:ScF jw jD ["_law_size","_law_x","_law_y","_law_way"] (aa df):=by walk_at "S"
def d9:Stmt:=top 56
abbrev lR:List Str:=["_law_found"]
abbrev lX:List Str:=["isinstance","int","bool"]
theorem pO:ScF lR lX ["_law_found"] (aa d9):=by walk_at "S"
def fW:Stmt:=top 65
abbrev nh:List Str:=["_law_size","_law_found"]
abbrev nv:List Str:=["isinstance","tuple","len","_law_whole"]
theorem rh:ScF nh nv ["_law_size","_law_found"] (aa fW):=by walk_at "S"
def mh:Stmt:=top 66
abbrev KH:List Str:=["_law_script","_law_size","_law_way","_law_cells","_law_order","_law_ones","_law_others","_law_k","_law_found","_law_told","_law_xs","_law_ys","_law_one","_law_other"]
abbrev KL:List Str:=["_law_size_by","_law_cell_at","_law_way_by","_law_built","sorted","range","len","_law_placed","gathered","list","_law_good","summed"]
theorem HZ:ScF KH KL ["_law_script"] (aa mh):=by walk_at "S"
section
variable {X:Cx} {k:Nat} (hr:Room k X.A) (L:Lp X) (O:Own X)
include hr L O
theorem oS (P:Pl X iM iT) (hS:X.env.scope=aa cE)
     : SSs X (ag cE) cJ:=by
 unfold cJ
 exact (ae (P.set 1 (aZ ↥146 af))
 (ae (P.set 2 (dS ↥146 af))
 (ae (P.if_ (wF ↥79 af) (ah (P.ret (pd (yL (ak (bu (a2 af af) ↥1) (ak (bu (a2 af af) ↥1) (ak (bu (a2 af af) ↥1) (ak (bu (a2 af af) ↥1) gH)))) ↥1) ↥79))) aC)
 (ae (P.if_ (wF ↥79 af) (ah (P.ret (bu (a2 (aF af (aZ ↥96 af)) ↥111) ↥1))) aC)
 (ah (P.ret (bu (a2 (aF af (aZ ↥96 af)) ↥111) ↥1)))))))
theorem qB (P:Pl X jv jC) (hS:X.env.scope=aa de)
     : SSs X (ag de) dq:=by
 unfold dq
 exact (ah (P.ret (pd (yL (ak dE (ak dE (ak dE (ak dE (ak dE gH))))) ↥1) (aZ ↥146 af))))
theorem lN (P:Pl X fN fR) (hS:X.env.scope=aa bQ)
  (m_min:X.mg "min"=none) (m_max:X.mg "max"=none):SSs X (ag bQ) bZ:=by
 unfold bZ
 exact (ae (P.set 2 ↥37)
 (ae (P.set 3 (b7 ↥96 ↥50))
 (ae (P.set 4 (aZ ↥79 af))
 (ae (P.set 5 (dS ↥79 af))
 (ae (P.if_ (wF (P.v 4) af) (ae (P.set 10 (aZ (cN (P.v 5) af) (cN af (P.v 3))))
 (ah (P.ret (aF (cN (dS (P.v 10) (P.v 3)) ↥96) (aZ (P.v 10) (P.v 3)))))) aC)
 (ae (P.set 6 (cN ↥77 ↥96))
 (ae (P.set 5 (dS (P.v 5) af))
 (ae (P.if_ ↥59 (ah (P.ret (aF (P.v 6) ↥77))) aC)
 (ae (P.if_ ↥59 (ah (P.ret (b7 (b7 (aF (P.v 6) (P.v 3)) af) ↥77))) aC)
 (ae (P.set 7 (b7 ↥116 af))
 (ae (P.if_ ↥59 (ah (P.ret (aF (b7 (aF (P.v 6) (gE (P.v 7) (P.y 0))) af) ↥77))) aC)
 (ae (P.set 8 (cW (Kr L.calm) Jr (P.w 0) m_max boot_max (a2 af (cW (MJ L.calm) Mn (P.w 1) m_min boot_min (a2 (b7 ↥50 af) (aF (b7 (P.v 7) af) ↥77))))))
 (ae (P.set 9 (aZ (cN (dS (P.v 5) af) af) ↥50))
 (ah (P.ret (aF (aF (P.v 6) (gE (P.v 8) (P.y 0))) (P.v 9)))))))))))))))))
theorem oU (P:Pl X iN iU) (hS:X.env.scope=aa cF)
  (m_len:X.mg "len"=none) (m_range:X.mg "range"=none) (c_law_finite_by:Callee X "_law_finite_by" aA) (m_list:X.mg "list"=none) (m_reversed:X.mg "reversed"=none):SSs X (ag cF) cK:=by
 unfold cK
 exact (ae (P.set 3 ↥37)
 (ae (P.set 4 (dS (cW mC mv (P.w 0) m_len ě (a1 ↥79)) af))
 (ae (fq P.toSx L.calm 5 rfl (P.sto _ (mG 5)) (x:="_law_k") (ksn:=["_law_size","_law_cells"]) (G:=["_law_finite_by"]) (ks:=[0,1]) ↥130 rfl ↥1 (by rw [hS];decide +kernel) (ua (P.w 1) m_range (P.v 4)) (fun C fp s H W S' G'=>.nil) (fun C fp s H W S' G'=>(lH ⟨c_law_finite_by.ex⟩ (G' _ (mG 0)) (a2 (cY S' 1 rfl) (pd (cY S' 2 rfl) (cN af (cY S' 0 rfl)))))) (fm hS ↥41))
 (ae (fq P.toSx L.calm 6 rfl (P.sto _ (mG 6)) (x:="_law_k") (ksn:=["_law_size","_law_cells"]) (G:=["_law_finite_by"]) (ks:=[0,1]) ↥130 rfl ↥1 (by rw [hS];decide +kernel) (ua (P.w 1) m_range (P.v 4)) (fun C fp s H W S' G'=>.nil) (fun C fp s H W S' G'=>(lH ⟨c_law_finite_by.ex⟩ (G' _ (mG 0)) (a2 (cY S' 1 rfl) (pd (cY S' 2 rfl) (aF (cN af (cY S' 0 rfl)) af))))) (fm hS ↥41))
 (ae (P.set 7 ↥111)
 (ae (pS P.toSx L 8 rfl (P.sto _ (mG 8)) (ua (P.w 1) m_range (P.v 4)) (ah (P.if_ (t_w (w_and (GL (aZ ↥96 af) af) (pB (t_w (w_or (kD hr (P.v 7) af) (uX (KP hr (aZ (P.v 8) (P.v 7)) af))))))) (ae (fV P.toSx 5 rfl (pd (P.v 6) (P.v 8)))
 (ah (fV P.toSx 6 rfl (aZ (aF (pd (P.v 5) (P.v 8)) (P.v 3)) (cN af (P.v 3)))))) aC)))
 (ae (rm 6 (rm 5 (P.if_ (kD hr (aZ (dS ↥96 af) af) af) (ae (P.set 5 (ql L.calm (P.w 2) m_list (P.w 3) m_reversed (a1 (P.v 5))))
 (ah (P.set 6 (ql L.calm (P.w 2) m_list (P.w 3) m_reversed (a1 (P.v 6)))))) aC)))
 (ae (P.set 4 ↥111)
 (ah (P.ret (bu (a2 (FY (Kg (P.v 5) (P.v 4)) tO (jY af)) (FY (Kg (P.v 6) (P.v 4)) tO (jY af))) ↥1)))))))))))
theorem oW (P:Pl X iP iW) (hS:X.env.scope=aa cH)
     : SSs X (ag cH) cM:=by
 unfold cM
 exact (ae (P.set 2 ↥37)
 (ae (P.set 3 (gE (b7 ↥50 af) (P.y 0)))
 (ae (P.set 4 (aZ ↥79 af))
 (ae (P.set 5 (dS ↥79 af))
 (ae (P.if_ (wF (P.v 4) af) (ah (P.ret (aZ (cN (P.v 5) af) (cN af ↥96)))) aC)
 (ae (P.set 6 (cN ↥77 ↥96))
 (ae (P.set 5 (dS (P.v 5) af))
 (ae (P.if_ ↥59 (ah (P.ret (aF (P.v 6) ↥77))) aC)
 (ae (P.if_ ↥59 (ah (P.ret (aF (b7 (aF (P.v 6) (P.v 3)) af) ↥77))) aC)
 (ae (P.if_ ↥59 (ah (P.ret (aF (b7 (aF (P.v 6) ↥50) af) ↥77))) aC)
 (ae (P.if_ ↥59 (ah (P.ret (aF (b7 (aF (P.v 6) (gE (b7 ↥116 af) (P.y 0))) af) ↥77))) aC)
 (ae (P.if_ ↥59 (ah (P.ret (aF (aF (aF (P.v 6) (P.v 3)) af) (aZ (P.v 5) (b7 ↥50 af))))) aC)
 (ae (P.set 7 (pd (yL (ak af (ak af (ak (b7 ↥50 af) (ak ↥116 gH)))) ↥1) ↥77))
 (ah (P.ret (aF (aF (P.v 6) (gE (aZ (dS (P.v 5) af) ↥50) (P.y 0))) (P.v 7)))))))))))))))))
theorem sM (P:Pl X lS lY) (hS:X.env.scope=aa et)
     : SSs X (ag et) eO:=by
 unfold eO
 exact (ae (P.set 3 ↥37)
 (ae (P.set 4 (b7 (P.v 3) ↥50))
 (ae (P.if_ (t_w (w_and (GL ↥96 af) (pB (GL (aZ ↥79 (P.v 3)) (P.v 4))))) (ah (P.ret (aF (cN (dS ↥79 (P.v 3)) (P.v 3)) (P.v 4)))) aC)
 (ae (P.if_ (t_w (w_and (GL ↥96 af) (pB (kD hr (aZ ↥79 (P.v 3)) af)))) (ah (P.ret (aF ↥79 af))) aC)
 (ah (P.ret ↥79))))))
theorem sN (P:Pl X lT lZ) (hS:X.env.scope=aa eA)
  (c_law_rows_by:Callee X "_law_rows_by" bW) (m_len:X.mg "len"=none) (m_range:X.mg "range"=none) (c_law_bits_by:Callee X "_law_bits_by" aS) (c_law_clean:Callee X "_law_clean" aO):SSs X (ag eA) eR:=by
 unfold eR
 exact (ae (P.set 3 ↥37)
 (ae (P.if_ (kD hr (aZ ↥96 af) af) (ah (P.ret (P.call 0 c_law_rows_by (a3 ↥146 ↥79 (dS ↥96 af))))) aC)
 (ae (jV P.toSx 4 rfl (P.sto _ (mG 4)))
 (ae (jV P.toSx 5 rfl (P.sto _ (mG 5)))
 (ae (pS P.toSx L 6 rfl (P.sto _ (mG 6)) (ua (P.w 1) m_range (dS (cW mC mv (P.w 2) m_len ě (a1 ↥79)) af)) (ae (P.set 7 (P.call 3 c_law_bits_by (a2 ↥146 (pd ↥79 (cN af (P.v 6))))))
 (ae (P.set 8 (P.call 3 c_law_bits_by (a2 ↥146 (pd ↥79 (aF (cN af (P.v 6)) af)))))
 (ae (P.if_ (kD hr (aZ ↥96 af) af) (ae (P.set 7 (cN (dS (P.v 7) (P.v 3)) (P.v 3)))
 (ah (P.set 8 (cN (dS (P.v 8) (P.v 3)) (P.v 3))))) aC)
 (ae (fV P.toSx 4 rfl (P.call 4 c_law_clean (a3 ↥146 (P.v 7) (aZ (aZ ↥96 af) af))))
 (ah (fV P.toSx 5 rfl (P.call 4 c_law_clean (a3 ↥146 (P.v 8) (aZ (aZ ↥96 af) af))))))))))
 (ah (rm 5 (rm 4 (P.ret (bu (a2 (P.v 4) (P.v 5)) ↥1))))))))))
theorem BZ (P:Pl X uD uJ) (hS:X.env.scope=aa jQ) {C_NoWay:Addr}
  (g_NAMES:GC X "NAMES" ↥98) (q_NoWay:X.mg "NoWay"=some (.ref  C_NoWay)) (xi_NoWay:PySem.W.excIn X.K C_NoWay bmV "ValueError.__new__"=true) (mk_Way:MakeOk X "Way" "name"):SSs X (ag jQ) j9:=by
 unfold j9
 exact (ae (P.if_ (DZ ↥146 (Ry (P.w 0) g_NAMES)) (ah (kL (x:="NoWay") L.calm (P.w 1) q_NoWay xi_NoWay)) aC)
 (ah (P.ret (F0 (cn:="Way") (f:="name") mk_Way (P.w 2) ↥83))))
theorem vN (P:Pl X ng nu) (hS:X.env.scope=aa fU)
     : SSs X (ag fU) gx:=by
 unfold gx
 exact (ah (P.ret ↥37))
theorem Gh (P:Pl X zw zB) (hS:X.env.scope=aa nY)
     : SSs X (ag nY) oG:=by
 unfold oG
 exact (ah (P.ret (aF (aF (P.y 0) (P.y 0)) af)))
theorem B5 (P:Pl X uH uN) (hS:X.env.scope=aa jU) {C_NoBits:Addr}
  (c_width:Callee X "width" kX) (q_NoBits:X.mg "NoBits"=some (.ref  C_NoBits)) (xi_NoBits:PySem.W.excIn X.K C_NoBits bmV "ValueError.__new__"=true) (c_sign_bit:Callee X "sign_bit" bI):SSs X (ag jU) kh:=by
 unfold kh
 exact (ae (P.if_ (t_w (w_or (wF ↥79 af) (uX (KQ ↥79 (gE af (P.call 0 c_width ↥83)))))) (ah (kL (x:="NoBits") L.calm (P.w 1) q_NoBits xi_NoBits)) aC)
 (ae (P.set 2 (aZ ↥79 (P.call 2 c_sign_bit ↥83)))
 (ae (P.set 3 ↥50)
 (ah (P.ret (bu (a3 (dS ↥79 (P.call 2 c_sign_bit ↥83)) (dS ↥96 (P.v 3)) (aZ ↥96 (P.v 3))) ↥1))))))
theorem qD (P:Pl X jz jE) (hS:X.env.scope=aa dg)
     : SSs X (ag dg) du:=by
 unfold du
 exact (ah (P.ret (b7 ↥50 af)))
theorem Kw (P:Pl X C1 C3) (hS:X.env.scope=aa tm)
  (c_parted:Callee X "parted" cf) (c_last_field:Callee X "last_field" aH):SSs X (ag tm) uf:=by
 unfold uf
 exact (ae (P.set 2 (P.call 0 c_parted (a2 ↥146 ↥79)))
 (ae (P.set 3 (P.y 2))
 (ae (P.set 4 (P.y 2))
 (ae (P.if_ (kD hr (P.v 3) af) (ah (P.ret (yN ↥59 dE dE))) aC)
 (ae (P.if_ (kD hr (P.v 3) (P.call 1 c_last_field ↥83)) (ah (P.ret (yN ↥59 dE dE))) aC)
 (ah (P.ret dE)))))))
theorem vQ (P:Pl X nq nC) (hS:X.env.scope=aa fY)
  (c_kind:Callee X "kind" cU):SSs X (ag fY) gB:=by
 unfold gB
 exact (ae (fq P.toSx L.calm 2 rfl (P.sto _ (mG 2)) (x:="bits") (ksn:=["size"]) (G:=["kind"]) (ks:=[0]) ↥130 rfl ↥1 (by rw [hS];decide +kernel) (lD ↥79) (fun C fp s H W S' G'=>.nil) (fun C fp s H W S' G'=>(lH ⟨c_kind.ex⟩ (G' _ (mG 0)) (a2 (cY S' 1 rfl) (cY S' 0 rfl)))) (fm hS ↥41))
 (ah (rm 2 (P.ret (ME dE ↥96)))))
theorem jM (P:Pl X fc fh) (hS:X.env.scope=aa bz)
     : SSs X (ag bz) bC:=by
 unfold bC
 exact (ae (P.set 1 (P.y 0))
 (ae (P.set 2 (P.y 0))
 (ae (P.if_ (KQ ↥96 af) (ah (P.ret (bu (a3 (P.y 0) (gE ↥79 ↥96) af) ↥1))) aC)
 (ah (P.ret (bu (a3 (P.y 0) ↥79 (gE af (Kh ↥96))) ↥1))))))
theorem jO (P:Pl X fg fj) (hS:X.env.scope=aa bB) {C_NoFraction:Addr}
  (q_NoFraction:X.mg "NoFraction"=some (.ref  C_NoFraction)) (xi_NoFraction:PySem.W.excIn X.K C_NoFraction bmV "ValueError.__new__"=true):SSs X (ag bB) bE:=by
 unfold bE
 exact (ah (P.if_ (t_w (w_or (wF ↥146 af) (uX (wF ↥79 af)))) (ah (kL (x:="NoFraction") L.calm (P.w 0) q_NoFraction xi_NoFraction)) aC))
theorem B4 (P:Pl X uG uM) (hS:X.env.scope=aa jT)
     : SSs X (ag jT) kg:=by
 unfold kg
 exact (ae (P.if_ (KQ ↥96 af) (ah (P.ret (bu (a2 ↥146 (gE ↥79 ↥96)) ↥1))) aC)
 (ah (P.ret (bu (a2 (gE ↥146 (Kh ↥96)) ↥79) ↥1))))
theorem Kx (P:Pl X C2 C4) (hS:X.env.scope=aa tu)
     : SSs X (ag tu) ug:=by
 unfold ug
 exact (ah (P.ret (b7 ↥116 af)))
theorem MP (P:Pl X KG KJ) (hS:X.env.scope=aa AH)
  (c_bias:Callee X "bias" pY):SSs X (ag AH) BF:=by
 unfold BF
 exact (ah (P.ret (b7 (b7 af (P.call 0 c_bias ↥83)) (P.y 0))))
theorem jN (P:Pl X fe fi) (hS:X.env.scope=aa bA)
     : SSs X (ag bA) bD:=by
 unfold bD
 exact (ae (P.if_ (kD hr ↥146 af) (ah (P.ret af)) aC)
 (ae (P.if_ (wF ↥79 ↥96) (ah (P.ret af)) aC)
 (ah (P.ret (yN (kD hr ↥79 ↥96) af af)))))
theorem zj (P:Pl X qI qM) (hS:X.env.scope=aa ig)
  (c_rest_by_middle:Callee X "rest_by_middle" aW):SSs X (ag ig) iA:=by
 unfold iA
 exact (ah (P.ret (P.call 0 c_rest_by_middle (a3 ↥146 (cN af ↥146) ↥79))))
theorem B6 (P:Pl X uI uO) (hS:X.env.scope=aa jW)
  (c_scaled:Callee X "scaled" eC):SSs X (ag jW) ki:=by
 unfold ki
 exact (ae (P.set 2 (b7 (uu ↥146) (uu ↥79)))
 (ae (P.set 3 (P.call 0 c_scaled (a3 ↥146 ↥79 ↥96)))
 (ah (P.ret (yN (wF (P.y 3) (P.y 3)) ↥96 (aF ↥96 af))))))
theorem MR (P:Pl X KI KN) (hS:X.env.scope=aa AI)
  (c_check_fraction:Callee X "check_fraction" aX) (c_low:Callee X "low" kZ) (c_height:Callee X "height" iq) (m_max:X.mg "max"=none) (c_scaled:Callee X "scaled" eC) (c_rest_of:Callee X "rest_of" fB):SSs X (ag AI) yD:=by
 unfold yD
 exact (ae (P.xp (P.call 0 c_check_fraction (a2 ↥79 ↥96)))
 (ae (P.if_ (kD hr ↥79 af) (ah (P.ret (bu (a3 af (P.call 1 c_low ↥83) af) ↥1))) aC)
 (ae (P.set 3 (cW (Kr L.calm) Jr (P.w 2) m_max boot_max (a2 (P.call 1 c_low ↥83) (b7 (b7 (P.call 3 c_height (a2 ↥79 ↥96)) (P.y 0)) af))))
 (ae (P.set 4 (P.call 4 c_scaled (a3 ↥79 ↥96 (P.v 3))))
 (ah (P.ret (bu (a3 (dS (P.y 4) (P.y 4)) (P.v 3) (P.call 5 c_rest_of (a2 (aZ (P.y 4) (P.y 4)) (P.y 4)))) ↥1)))))))
theorem zk (P:Pl X qJ qN) (hS:X.env.scope=aa ij)
  (c_last_field:Callee X "last_field" aH):SSs X (ag ij) iB:=by
 unfold iB
 exact (ah (P.ret (gE (P.call 0 c_last_field ↥83) (P.y 0))))
theorem B3 (P:Pl X uF uL) (hS:X.env.scope=aa jS)
  (c_sign_bit:Callee X "sign_bit" bI):SSs X (ag jS) kd:=by
 unfold kd
 exact (ah (P.ret (aF (cN ↥79 (P.call 0 c_sign_bit ↥83)) ↥96)))
theorem qA (P:Pl X ju jB) (hS:X.env.scope=aa cZ)
  (c_endless:Callee X "endless" bg) (g_INEXACT:∃ t,X.mg "INEXACT"=some (.int 1 t)) (g_GREAT:∃ t,X.mg "GREAT"=some (.int 4 t)) (g_SMALL:∃ t,X.mg "SMALL"=some (.int 2 t)):SSs X (ag cZ) dm:=by
 unfold dm
 exact (ae (P.if_ (kD hr ↥96 (P.call 0 c_endless ↥83)) (ah (P.ret (aF (iD (P.w 1) g_INEXACT) (iD (P.w 2) g_GREAT)))) aC)
 (ae (P.set 3 (Rw ↥79 ↥50))
 (ah (P.ret (yN (nG (P.v 3)) (aF (iD (P.w 1) g_INEXACT) (iD (P.w 3) g_SMALL)) (iD (P.w 1) g_INEXACT))))))
theorem iF (P:Pl X dz dA) (hS:X.env.scope=aa az)
  (fl_Way_name:FldOk X "Way" "name"):SSs X (ag az) aJ:=by
 unfold aJ
 exact (ae (P.if_ (kD hr ↥47 dE) (ah (P.ret (F4 hr ↥79 af))) aC)
 (ah (P.ret (vL (F4 hr ↥47 dE) (sr (F4 hr ↥79 af))))))
theorem sO (P:Pl X lU l4) (hS:X.env.scope=aa bF)
  (fl_Way_name:FldOk X "Way" "name") (mt_Way_flees_nought:MethOk X "Way" "flees_nought" aD):SSs X (ag bF) cV:=by
 unfold cV
 exact (ae (P.if_ (kD hr (P.v 3) af) (ah (P.ret K2)) aC)
 (ae (P.if_ (kD hr ↥47 dE) (ah (P.ret (Rv (F4 hr (P.v 3) af) (sr (vL (F4 hr (P.v 3) af) (sr ↥96)))))) aC)
 (ae (P.if_ (kD hr ↥47 dE) (ah (P.ret (Rx (P.v 3) af))) aC)
 (ah (P.ret (ur (cn:="Way") (m:="flees_nought") mt_Way_flees_nought ↥146 (a1 ↥79)))))))
theorem qE (P:Pl X jA jF) (hS:X.env.scope=aa a8)
  (fl_Way_name:FldOk X "Way" "name") (mt_Way_flees_nought:MethOk X "Way" "flees_nought" aD):SSs X (ag a8) cq:=by
 unfold cq
 exact (ae (P.if_ (GK ↥47 (bu (a2 dE dE) ↥1)) (ah (P.ret K2)) aC)
 (ah (P.ret (ur (cn:="Way") (m:="flees_nought") mt_Way_flees_nought ↥146 (a1 ↥79)))))
theorem zh (P:Pl X qG qK) (hS:X.env.scope=aa hZ)
  (c_way_of:Callee X "way_of" bq) (c_low:Callee X "low" kZ) (c_endless:Callee X "endless" bg) (mt_Way_bursts:MethOk X "Way" "bursts" di) (c_signed:Callee X "signed" bS) (g_INEXACT:∃ t,X.mg "INEXACT"=some (.int 1 t)) (g_GREAT:∃ t,X.mg "GREAT"=some (.int 4 t)) (mt_Way_grows:MethOk X "Way" "grows" eD) (c_lost_flags:Callee X "lost_flags" ck):SSs X (ag hZ) iz:=by
 unfold iz
 exact (ae (P.set 6 (P.call 0 c_way_of (a1 ↥79)))
 (ae (P.set 7 (aF (gE (b7 (P.v 4) (P.call 1 c_low ↥83)) (P.y 0)) (P.v 3)))
 (ae (P.set 8 (P.call 2 c_endless ↥83))
 (ae (P.if_ (KQ (P.v 7) (P.v 8)) (ae (P.set 9 (yN (nG (ur (cn:="Way") (m:="bursts") mt_Way_bursts (P.v 6) (a1 ↥96))) (P.v 8) (b7 (P.v 8) af)))
 (ah (P.ret (bu (a2 (P.call 3 c_signed (a3 ↥146 ↥96 (P.v 9))) (aF (iD (P.w 4) g_INEXACT) (iD (P.w 5) g_GREAT))) ↥1)))) aC)
 (ae (P.if_ (kD hr (P.v 5) af) (ah (P.ret (bu (a2 (P.call 3 c_signed (a3 ↥146 ↥96 (P.v 7))) af) ↥1))) aC)
 (ae (P.set 9 (yN (nG (ur (cn:="Way") (m:="grows") mt_Way_grows (P.v 6) (a3 ↥96 (F4 hr (Kk (P.v 7) af) af) (P.v 5)))) (aF (P.v 7) af) (P.v 7)))
 (ah (P.ret (bu (a2 (P.call 3 c_signed (a3 ↥146 ↥96 (P.v 9))) (P.call 6 c_lost_flags (a3 ↥146 (P.v 7) (P.v 9)))) ↥1)))))))))
theorem zi (P:Pl X qH qL) (hS:X.env.scope=aa ie)
  (c_way_of:Callee X "way_of" bq) (c_cut:Callee X "cut" rE) (c_settled:Callee X "settled" fA):SSs X (ag ie) fH:=by
 unfold fH
 exact (ae (P.xp (P.call 0 c_way_of (a1 ↥79)))
 (ae (P.set 5 (P.call 1 c_cut (a3 ↥146 (P.v 3) (P.v 4))))
 (ah (P.ret (P.call 2 c_settled (ak ↥146 (ak ↥79 (ak ↥96 (ak (P.y 5) (ak (P.y 5) (ak (P.y 5) gH)))))))))))
theorem Gi (P:Pl X zx zC) (hS:X.env.scope=aa nZ)
  (m_min:X.mg "min"=none) (m_abs:X.mg "abs"=none):SSs X (ag nZ) oH:=by
 unfold oH
 exact (ae (P.set 1 (Ki L.calm (P.w 0) m_min (a1 (qm L.calm P.sc (x:="term") (ksn:=[]) (G:=[]) (ks:=[]) ↥130 rfl ↥1 (by rw [hS];decide +kernel) (lD ↥146) (fun C fp s H W S' G'=>↥69)))))
 (ae (P.set 2 af)
 (ae (pS P.toSx L 3 rfl (P.sto _ (mG 3)) (lD ↥146) (ae (P.set 4 (gE (P.y 3) (b7 (P.y 3) ↥79)))
 (ah (P.set 2 (yN (kD hr (P.y 3) af) (b7 ↥96 (P.v 4)) (aF ↥96 (P.v 4)))))))
 (ah (P.ret (bu (a3 (yN (wF ↥96 af) af af) (cW MM Mr (P.w 1) m_abs boot_abs (a1 ↥96)) ↥79) ↥1))))))
theorem oR (P:Pl X iL iS) (hS:X.env.scope=aa cD)
  (c_way_of:Callee X "way_of" bq):SSs X (ag cD) cI:=by
 unfold cI
 exact (ae (P.xp (P.call 0 c_way_of ↥83))
 (ae (P.if_ (t_w (w_and (GK af ↥79) (pB (GK af ↥79)))) (ah (P.ret (yN (kD hr ↥146 dE) af af))) aC)
 (ah (P.ret (yN (GK af ↥79) af af)))))
theorem lK (P:Pl X fK fO) (hS:X.env.scope=aa bM)
  (c_worth_fraction:Callee X "worth_fraction" aV) (c_total:Callee X "total" kY) (c_nought_sign:Callee X "nought_sign" bU) (c_signed:Callee X "signed" bS) (c_rounded:Callee X "rounded" bT):SSs X (ag bM) bo:=by
 unfold bo
 exact (ae (P.set 3 (P.call 0 c_worth_fraction (a1 (P.call 1 c_total (a1 ↥96)))))
 (ae (P.if_ (kD hr (P.y 3) af) (ae (P.set 4 (P.call 2 c_nought_sign (a2 ↥79 (qm L.calm P.sc (x:="term") (ksn:=[]) (G:=[]) (ks:=[]) ↥130 rfl ↥1 (by rw [hS];decide +kernel) (lD ↥96) (fun C fp s H W S' G'=>↥69)))))
 (ah (P.ret (bu (a2 (P.call 3 c_signed (a3 ↥146 (P.v 4) af)) af) ↥1)))) aC)
 (ah (P.ret (P.call 4 c_rounded (ak ↥146 (ak ↥79 (ak (P.y 3) (ak (P.y 3) (ak (P.y 3) gH))))))))))
theorem sJ (P:Pl X lQ lW) (hS:X.env.scope=aa d8)
  (c_endless:Callee X "endless" bg):SSs X (ag d8) eJ:=by
 unfold eJ
 exact (ah (P.ret (aF (P.call 0 c_endless ↥83) ↥116)))
theorem lL (P:Pl X fL fP) (hS:X.env.scope=aa bN)
  (c_no_number:Callee X "no_number" bf) (g_WRONG:∃ t,X.mg "WRONG"=some (.int 16 t)) (m_len:X.mg "len"=none) (c_signed:Callee X "signed" bS) (c_endless:Callee X "endless" bg) (c_settled_total:Callee X "settled_total" av):SSs X (ag bN) bp:=by
 unfold bp
 exact (ae (fq P.toSx L.calm 3 rfl (P.sto _ (mG 3)) (x:="term") (ksn:=[]) (G:=[]) (ks:=[]) ↥130 rfl ↥1 (by rw [hS];decide +kernel) (lD ↥96) (fun C fp s H W S' G'=>.one (D0 ↥69)) (fun C fp s H W S' G'=>↥69) (fm hS ↥41))
 (ae (rm 3 (P.if_ (t_w (w_and (GK af (P.v 3)) (pB (GK af (P.v 3))))) (ah (P.ret (bu (a2 (P.call 0 c_no_number ↥83) (iD (P.w 1) g_WRONG)) ↥1))) aC))
 (ae (P.if_ (GL (cW mC mv (P.w 2) m_len ě (a1 (P.v 3))) af) (ah (P.ret (bu (a2 (P.call 3 c_signed (a3 ↥146 (P.y 3) (P.call 4 c_endless ↥83))) af) ↥1))) aC)
 (ah (P.ret (P.call 5 c_settled_total (a3 ↥146 ↥79 ↥96)))))))
theorem Gg (P:Pl X zv zA) (hS:X.env.scope=aa nX) {C_NotFinite:Addr}
  (c_parted:Callee X "parted" cf) (c_last_field:Callee X "last_field" aH) (q_NotFinite:X.mg "NotFinite"=some (.ref  C_NotFinite)) (xi_NotFinite:PySem.W.excIn X.K C_NotFinite bmV "ValueError.__new__"=true) (c_low:Callee X "low" kZ):SSs X (ag nX) oF:=by
 unfold oF
 exact (ae (P.set 2 (P.call 0 c_parted (a2 ↥146 ↥79)))
 (ae (P.set 3 (P.y 2))
 (ae (P.set 4 (P.y 2))
 (ae (P.set 5 (P.y 2))
 (ae (P.if_ (kD hr (P.v 4) (P.call 1 c_last_field ↥83)) (ah (kL (x:="NotFinite") L.calm (P.w 2) q_NotFinite xi_NotFinite)) aC)
 (ae (P.if_ ↥59 (ah (P.ret (bu (a3 (P.v 3) (P.v 5) (P.call 3 c_low ↥83)) ↥1))) aC)
 (ah (P.ret (bu (a3 (P.v 3) (aF ↥50 (P.v 5)) (b7 (aF (P.call 3 c_low ↥83) (P.v 4)) af)) ↥1)))))))))
theorem oQ (P:Pl X iK iR) (hS:X.env.scope=aa cA)
  (c_kind:Callee X "kind" cU) (c_parted:Callee X "parted" cf) (c_worth:Callee X "worth" kW):SSs X (ag cA) bY:=by
 unfold bY
 exact (ae (P.if_ (kD hr (P.call 0 c_kind (a2 ↥146 ↥79)) dE) (ah (P.ret (bu (a3 (pd (P.call 1 c_parted (a2 ↥146 ↥79)) af) FZ af) ↥1))) aC)
 (ah (P.ret (P.call 2 c_worth (a2 ↥146 ↥79)))))
theorem mE (P:Pl X gM gN) (hS:X.env.scope=aa cb)
  (c_number_term:Callee X "number_term" ax):SSs X (ag cb) cg:=by
 unfold cg
 exact (ae (P.set 3 (P.call 0 c_number_term (a2 ↥146 ↥79)))
 (ae (P.set 4 (P.call 0 c_number_term (a2 ↥146 ↥96)))
 (ae (P.set 5 (Kj (P.y 3) (P.y 4)))
 (ae (P.if_ (t_w (w_or (D0 (P.y 3)) (uX (D0 (P.y 4))))) (ah (P.ret (bu (a3 (P.v 5) FZ af) ↥1))) aC)
 (ah (P.ret (bu (a3 (P.v 5) (cN (P.y 3) (P.y 4)) (aF (P.y 3) (P.y 4))) ↥1)))))))
theorem lM (P:Pl X fM fQ) (hS:X.env.scope=aa bO)
  (c_kind:Callee X "kind" cU):SSs X (ag bO) bX:=by
 unfold bX
 exact (ae (P.set 3 (bu (a2 (P.call 0 c_kind (a2 ↥146 ↥79)) (P.call 0 c_kind (a2 ↥146 ↥96))) ↥1))
 (ah (P.ret (vL (ME dE (P.v 3)) (sr (ME dE (P.v 3)))))))
theorem oP (P:Pl X iJ iQ) (hS:X.env.scope=aa cz)
  (c_way_of:Callee X "way_of" bq) (m_list:X.mg "list"=none) (c_any_none:Callee X "any_none" dJ) (c_no_number:Callee X "no_number" bf) (c_product_wrong:Callee X "product_wrong" bb) (m_any:X.mg "any"=none) (g_WRONG:∃ t,X.mg "WRONG"=some (.int 16 t)) (c_product_term:Callee X "product_term" aY) (c_settled_terms:Callee X "settled_terms" aB) (c_number_term:Callee X "number_term" ax):SSs X (ag cz) br:=by
 unfold br
 exact (ae (P.xp (P.call 0 c_way_of (a1 ↥79)))
 (ae (xf P.toSx 4 rfl (P.sto _ (mG 4)) (FN (P.w 1) m_list (P.v 3)))
 (ae (pS P.toSx L 5 rfl (P.sto _ (mG 5)) (lD ↥96) (ah (AG P.toSx 4 rfl (P.v 5))))
 (ae (Ib (nG (P.call 2 c_any_none (a2 ↥146 (P.v 4)))) (ah (P.ret (bu (a2 (P.call 3 c_no_number ↥83) af) ↥1))) aC)
 (ae (P.if_ (nG (cW (ML L.calm) Mp (P.w 4) m_any boot_any (a1 (qm L.calm P.sc (x:="pair") (ksn:=["size"]) (G:=["product_wrong"]) (ks:=[0]) ↥130 rfl ↥1 (by rw [hS];decide +kernel) (lD ↥96) (fun C fp s H W S' G'=>(lH ⟨c_product_wrong.ex⟩ (G' _ (mG 0)) (a3 (cY S' 1 rfl) ↥69 ↥69))))))) (ah (P.ret (bu (a2 (P.call 3 c_no_number ↥83) (iD (P.w 5) g_WRONG)) ↥1))) aC)
 (ae (fq P.toSx L.calm 6 rfl (P.sto _ (mG 6)) (x:="pair") (ksn:=["size"]) (G:=["product_term"]) (ks:=[0]) ↥130 rfl ↥1 (by rw [hS];decide +kernel) (lD ↥96) (fun C fp s H W S' G'=>.nil) (fun C fp s H W S' G'=>(lH ⟨c_product_term.ex⟩ (G' _ (mG 0)) (a3 (cY S' 1 rfl) ↥69 ↥69))) (fm hS ↥41))
 (ah (rm 6 (P.ret (P.call 6 c_settled_terms (a3 ↥146 ↥79 (aF (P.v 6) (qm L.calm P.sc (x:="bits") (ksn:=["size"]) (G:=["number_term"]) (ks:=[0]) ↥130 rfl ↥1 (by rw [hS];decide +kernel) (lD (P.v 3)) (fun C fp s H W S' G'=>(lH ⟨c_number_term.ex⟩ (G' _ (mG 0)) (a2 (cY S' 1 rfl) (cY S' 0 rfl)))))))))))))))))
theorem vP (P:Pl X nj nz) (hS:X.env.scope=aa fX) {C_Unlike:Addr}
  (c_way_of:Callee X "way_of" bq) (m_len:X.mg "len"=none) (q_Unlike:X.mg "Unlike"=some (.ref  C_Unlike)) (xi_Unlike:PySem.W.excIn X.K C_Unlike bmV "ValueError.__new__"=true) (c_settled_sum:Callee X "settled_sum" ai) (m_list:X.mg "list"=none) (m_zip:X.mg "zip"=none):SSs X (ag fX) gA:=by
 unfold gA
 exact (ae (P.xp (P.call 0 c_way_of (a1 ↥79)))
 (ae (P.if_ (KP hr (cW mC mv (P.w 1) m_len ě (a1 ↥96)) (cW mC mv (P.w 1) m_len ě (a1 (P.v 3)))) (ah (kL (x:="Unlike") L.calm (P.w 2) q_Unlike xi_Unlike)) aC)
 (ah (P.ret (P.call 3 c_settled_sum (ak ↥146 (ak ↥79 (ak (yM L.calm (P.w 4) m_list (P.w 5) m_zip (a2 ↥96 (P.v 3))) (ak (yL gH ↥1) gH)))))))))
theorem B0 (P:Pl X uE uK) (hS:X.env.scope=aa jR)
  (c_settled_sum:Callee X "settled_sum" ai):SSs X (ag jR) ka:=by
 unfold ka
 exact (ah (P.ret (P.call 0 c_settled_sum (ak ↥146 (ak ↥79 (ak (yL gH ↥1) (ak ↥96 gH)))))))
theorem oV (P:Pl X iO iV) (hS:X.env.scope=aa cG)
  (m_len:X.mg "len"=none):SSs X (ag cG) cL:=by
 unfold cL
 exact (ae (P.if_ (wF ↥79 (cW mC mv (P.w 0) m_len ě ↥83)) (ah (P.ret (pd ↥146 ↥79))) aC)
 (ah (P.ret af)))
theorem qC (P:Pl X jw jD) (hS:X.env.scope=aa df)
     : SSs X (ag df) dt:=by
 unfold dt
 exact (ae (P.set 4 ↥37)
 (ae (P.if_ (GL (P.v 3) af) (ae (P.set 1 (aZ (aF ↥79 (P.v 4)) (cN af (P.v 4))))
 (ah (P.set 2 (aZ (aF ↥96 (P.v 4)) (cN af (P.v 4)))))) aC)
 (ae (P.if_ (kD hr (aZ (P.v 3) af) af) (ah (P.ret (bu (a2 ↥96 ↥79) ↥1))) aC)
 (ah (P.ret (bu (a2 ↥79 ↥96) ↥1))))))
theorem sL (P:Pl X lR lX) (hS:X.env.scope=aa d9)
  (m_int:X.mg "int"=none) (isi_int:Isi X (.ty "int")) (hE:qO X) (m_isinstance:X.mg "isinstance"=none) (m_bool:X.mg "bool"=none) (isi_bool:Isi X (.ty "bool")):SSs X (ag d9) eK:=by
 unfold eK
 exact (ah (P.ret (vL (F3 isi_int hE (P.w 0) m_isinstance ↥146 (MC (n:="int") (P.w 1) m_int boot_int)) (sr (MD (F3 isi_bool hE (P.w 0) m_isinstance ↥146 (MC (n:="bool") (P.w 2) m_bool boot_bool)))))))
theorem vO (P:Pl X nh nv) (hS:X.env.scope=aa fW)
  (m_tuple:X.mg "tuple"=none) (isi_tuple:Isi X (.ty "tuple")) (hE:qO X) (m_isinstance:X.mg "isinstance"=none) (m_len:X.mg "len"=none) (c_law_whole:Callee X "_law_whole" b8):SSs X (ag fW) gy:=by
 unfold gy
 exact (ae (P.if_ (t_w (w_or (Av (nG (F3 isi_tuple hE (P.w 0) m_isinstance ↥79 (MC (n:="tuple") (P.w 1) m_tuple boot_tuple)))) (w_or (KP hr (cW mC mv (P.w 2) m_len ě (a1 ↥79)) af) (w_or (Av (nG (P.call 3 c_law_whole (a1 (P.y 1))))) (uX (Av (nG (P.call 3 c_law_whole (a1 (P.y 1)))))))))) (ah (P.ret K2)) aC)
 (ah (P.ret (vL (yO O9 KY CD tV af (P.y 1) ↥37) (sr (yO O9 KY CD tV af (P.y 1) af))))))
theorem MQ (P:Pl X KH KL) (hS:X.env.scope=aa mh) {Pt:Addr}
  (c_law_size_by:Callee X "_law_size_by" bV) (c_law_cell_at:Callee X "_law_cell_at" aQ) (c_law_way_by:Callee X "_law_way_by" cm) (c_law_built:Callee X "_law_built" cT) (m_len:X.mg "len"=none) (m_range:X.mg "range"=none) (LB:LamB X Pt) (m_sorted:X.mg "sorted"=none) (c_law_placed:Callee X "_law_placed" bJ) (c_gathered:Callee X "gathered" bK) (m_list:X.mg "list"=none) (c_law_good:Callee X "_law_good" cP) (c_summed:Callee X "summed" eB):SSB X Pt (ag mh) BG:=by
 unfold BG
 exact (uB (P.set 1 (P.call 0 c_law_size_by (a1 (P.call 1 c_law_cell_at (a2 ↥146 af)))))
 (uB (P.set 2 (P.call 2 c_law_way_by (a1 (P.call 1 c_law_cell_at (a2 ↥146 af)))))
 (uB (P.set 3 (FY ↥146 (jY af) (jY af)))
 (uB (Cv P.toSx L.calm 10 11 rfl rfl (P.sto _ (mG 10)) (P.sto _ (mG 11)) (P.call 3 c_law_built (a3 ↥79 (P.v 3) (P.call 1 c_law_cell_at (a2 ↥146 af)))))
 (Kv LB hr L.calm P.toSx 4 rfl (P.sto _ (mG 4)) (P.w 4) m_sorted (x:="_law_k") (ksn:=["_law_cells"]) (G:=["len"]) (ks:=[3]) ↥130 rfl ↥1 (by rw [hS];decide +kernel) (AF (P.w 5) m_range (cW mC mv (P.w 6) m_len ě (a1 (P.v 10)))) (fun F cd C s H S' G'=>(aZ (cN (pd (cY S' 1 rfl) (aZ (cY S' 0 rfl) (cW mC mv (G' _ (mG 0)) m_len ě (a1 (cY S' 1 rfl))))) (aF af (cN (cN af (cY S' 0 rfl)) (cY S' 0 rfl)))) af))
 (ae (jV P.toSx 5 rfl (P.sto _ (mG 5)))
 (ae (jV P.toSx 6 rfl (P.sto _ (mG 6)))
 (ae (pS P.toSx L 7 rfl (P.sto _ (mG 7)) (lD (P.v 4)) (ae (Cv P.toSx L.calm 12 13 rfl rfl (P.sto _ (mG 12)) (P.sto _ (mG 13)) (P.call 7 c_law_placed (ak ↥79 (ak (pd (P.v 10) (P.v 7)) (ak (pd (P.v 11) (P.v 7)) (ak (aZ (dS (pd (P.v 3) (aZ (P.v 7) (cW mC mv (P.w 6) m_len ě (a1 (P.v 3))))) af) af) gH))))))
 (ae (fV P.toSx 5 rfl (P.v 12))
 (ah (fV P.toSx 6 rfl (P.v 13))))))
 (ae (P.set 8 (P.call 8 c_gathered (ak ↥79 (ak ↥96 (ak (yP za xG (P.w 9) m_list boot_list (a1 (P.v 10))) (ak (yP za xG (P.w 9) m_list boot_list (a1 (P.v 11))) gH))))))
 (ae (Ib (t_w (w_or (Av (nG (P.call 10 c_law_good (a2 ↥79 (P.v 8))))) (uX (KP hr (P.call 8 c_gathered (ak ↥79 (ak ↥96 (ak (P.v 5) (ak (P.v 6) gH))))) (P.v 8))))) (ah (P.ret K2)) aC)
 (ae (P.set 9 (P.call 11 c_summed (a3 ↥79 ↥96 (yP za xG (P.w 9) m_list boot_list (a1 (P.v 10))))))
 (ah (P.ret (vL (P.call 10 c_law_good (a2 ↥79 (P.v 9))) (sr (F4 hr (P.call 11 c_summed (a3 ↥79 ↥96 (qm L.calm P.sc (x:="_law_k") (ksn:=["_law_xs"]) (G:=[]) (ks:=[10]) ↥130 rfl ↥1 (by rw [hS];decide +kernel) (lD (P.v 4)) (fun C fp s H W S' G'=>(pd (cY S' 1 rfl) (cY S' 0 rfl)))))) (P.v 9)))))))))))))))))
end
theorem all_mk {P:Program} {w:World} {K:PySem.W.Frag} {h:Heap} {mg:Str->Option Value} {fa:Addr} (KX:K.In h) (GG:h.Ns mainGlobals mg) (hfa:mg "law"=some (.ref fa))
  {C_Way:Addr} (n_Way:PySem.W.nsIn K mainGlobals "Way"=some (some (.ref C_Way)))
  (pg_Way:PySem.W.plainGet K C_Way Str.empty=true) (hd_Way:PySem.W.hasDictIn K C_Way=true) (po_Way:PySem.W.plainOver K C_Way=true) (sa_Way:PySem.W.findIn K (.ref C_Way) "__setattr__"=some (some (.builtin "object.__setattr__")))
  (na_Way:PySem.W.findIn K (.ref C_Way) "name"=some none)
  {fIWay:Addr} {odIWay anIWay:Option Addr} {slIWay:Array ↥107} {ocIWay kVIWay dcIWay pmIWay cdIWay ctIWay:Value}
  (aIWay:PySem.W.findIn K (.ref C_Way) "__init__"=some (some (.ref fIWay))) (uIWay:PySem.W.isFn K (.ref fIWay)=true) (mm_Way:PySem.W.makesIn K C_Way=true) (kc_Way:PySem.W.keepIn K (.ref C_Way)=true)
  (lIWay:K.lookup fIWay=some ⟨ocIWay,odIWay,.func (Ĳ "__init__" "Way.__init__" (dF fZ) (ag fZ) (aa fZ) .none kVIWay dcIWay pmIWay anIWay cdIWay ctIWay),slIWay⟩)
  (eIWay:PySem.W.codeIn K cdIWay "Way.__init__"=true) (kIWay:PySem.W.keepIn K (.ref fIWay)=true)
  (q1:DA K "_law_size_by" cE)
  (q2:DA K "_law_way_by" de)
  (q3:DA K "_law_finite_by" bQ)
  (q4:DA K "_law_rows_by" cF)
  (q5:DA K "_law_bits_by" cH)
  (q6:DA K "_law_clean" et)
  (q7:DA K "_law_built" eA)
  (q8:DA K "way_of" jQ)
  (q9:DA K "sign_bit" fU)
  (q10:DA K "width" nY)
  (q11:DA K "parted" jU)
  (q12:DA K "last_field" dg)
  (q13:DA K "kind" tm)
  (q14:DA K "any_none" fY)
  (q15:DA K "worth_fraction" bz)
  (q16:DA K "check_fraction" bB)
  (q17:DA K "scaled" jT)
  (q18:DA K "bias" tu)
  (q19:DA K "low" AH)
  (q20:DA K "rest_by_middle" bA)
  (q21:DA K "rest_of" ig)
  (q22:DA K "height" jW)
  (q23:DA K "cut" AI)
  (q24:DA K "endless" ij)
  (q25:DA K "signed" jS)
  (q26:DA K "lost_flags" cZ)
  {f27:Addr} {od27 an27:Option Addr} {sl27:Array ↥107} {oc27 kV27 dc27 pm27 cd27 ct27:Value}
  (a27:PySem.W.findIn K (.ref C_Way) "flees_nought"=some (some (.ref f27))) (u27:PySem.W.isFn K (.ref f27)=true)
  (l27:K.lookup f27=some ⟨oc27,od27,.func (Ĳ "flees_nought" "Way.flees_nought" (dF az) (ag az) (aa az) .none kV27 dc27 pm27 an27 cd27 ct27),sl27⟩)
  (e27:PySem.W.codeIn K cd27 "Way.flees_nought"=true) (k27:PySem.W.keepIn K (.ref f27)=true)
  {f28:Addr} {od28 an28:Option Addr} {sl28:Array ↥107} {oc28 kV28 dc28 pm28 cd28 ct28:Value}
  (a28:PySem.W.findIn K (.ref C_Way) "grows"=some (some (.ref f28))) (u28:PySem.W.isFn K (.ref f28)=true)
  (l28:K.lookup f28=some ⟨oc28,od28,.func (Ĳ "grows" "Way.grows" (dF bF) (ag bF) (aa bF) .none kV28 dc28 pm28 an28 cd28 ct28),sl28⟩)
  (e28:PySem.W.codeIn K cd28 "Way.grows"=true) (k28:PySem.W.keepIn K (.ref f28)=true)
  {f29:Addr} {od29 an29:Option Addr} {sl29:Array ↥107} {oc29 kV29 dc29 pm29 cd29 ct29:Value}
  (a29:PySem.W.findIn K (.ref C_Way) "bursts"=some (some (.ref f29))) (u29:PySem.W.isFn K (.ref f29)=true)
  (l29:K.lookup f29=some ⟨oc29,od29,.func (Ĳ "bursts" "Way.bursts" (dF a8) (ag a8) (aa a8) .none kV29 dc29 pm29 an29 cd29 ct29),sl29⟩)
  (e29:PySem.W.codeIn K cd29 "Way.bursts"=true) (k29:PySem.W.keepIn K (.ref f29)=true)
  (q30:DA K "settled" hZ)
  (q31:DA K "rounded" ie)
  (q32:DA K "total" nZ)
  (q33:DA K "nought_sign" cD)
  (q34:DA K "settled_total" bM)
  (q35:DA K "no_number" d8)
  (q36:DA K "settled_terms" bN)
  (q37:DA K "worth" nX)
  (q38:DA K "number_term" cA)
  (q39:DA K "product_term" cb)
  (q40:DA K "product_wrong" bO)
  (q41:DA K "settled_sum" cz)
  (q42:DA K "gathered" fX)
  (q43:DA K "summed" jR)
  (q44:DA K "_law_cell_at" cG)
  (q45:DA K "_law_placed" df)
  (q46:DA K "_law_whole" d9)
  (q47:DA K "_law_good" fW)
  {f48:Addr} {od48 an48:Option Addr} {sl48:Array ↥107} {oc48 kV48 dc48 pm48 cd48 ct48:Value}
  (a48:PySem.W.nsIn K mainGlobals "law"=some (some (.ref f48)))
  (l48:K.lookup f48=some ⟨oc48,od48,.func (Ĳ "law" "law" (dF mh) (ag mh) (aa mh) .none kV48 dc48 pm48 an48 cd48 ct48),sl48⟩)
  (e48:PySem.W.codeIn K cd48 "law"=true) (k48:PySem.W.keepIn K (.ref f48)=true)
  (z_min:PySem.W.nsIn K mainGlobals "min"=some none)
  (z_max:PySem.W.nsIn K mainGlobals "max"=some none)
  (z_len:PySem.W.nsIn K mainGlobals "len"=some none)
  (z_range:PySem.W.nsIn K mainGlobals "range"=some none)
  (z_list:PySem.W.nsIn K mainGlobals "list"=some none)
  (z_reversed:PySem.W.nsIn K mainGlobals "reversed"=some none)
  (z_abs:PySem.W.nsIn K mainGlobals "abs"=some none)
  (z_any:PySem.W.nsIn K mainGlobals "any"=some none)
  (z_zip:PySem.W.nsIn K mainGlobals "zip"=some none)
  (z_int:PySem.W.nsIn K mainGlobals "int"=some none)
  (z_isinstance:PySem.W.nsIn K mainGlobals "isinstance"=some none)
  (z_bool:PySem.W.nsIn K mainGlobals "bool"=some none)
  (z_tuple:PySem.W.nsIn K mainGlobals "tuple"=some none)
  (z_sorted:PySem.W.nsIn K mainGlobals "sorted"=some none)
  {A_NAMES:Addr} {dd_NAMES:Option Addr} {nn_NAMES:Nat} {ss_NAMES:Array ↥107} {t0_NAMES t1_NAMES t2_NAMES t3_NAMES t4_NAMES:Tok} (y_NAMES:PySem.W.nsIn K mainGlobals "NAMES"=some (some (.ref A_NAMES)))
  (yl_NAMES:K.lookup A_NAMES=some ⟨.type "tuple",dd_NAMES,.seq #[.str "even" t0_NAMES,.str "away" t1_NAMES,.str "nought" t2_NAMES,.str "up" t3_NAMES,.str "down" t4_NAMES] nn_NAMES,ss_NAMES⟩)
  {t_INEXACT:Tok} (y_INEXACT:PySem.W.nsIn K mainGlobals "INEXACT"=some (some (.int 1 t_INEXACT)))
  {t_GREAT:Tok} (y_GREAT:PySem.W.nsIn K mainGlobals "GREAT"=some (some (.int 4 t_GREAT)))
  {t_SMALL:Tok} (y_SMALL:PySem.W.nsIn K mainGlobals "SMALL"=some (some (.int 2 t_SMALL)))
  {t_WRONG:Tok} (y_WRONG:PySem.W.nsIn K mainGlobals "WRONG"=some (some (.int 16 t_WRONG)))
  {C_MillError:Addr} (n_MillError:PySem.W.nsIn K mainGlobals "MillError"=some (some (.ref C_MillError)))
  {C_NoBits:Addr} (n_NoBits:PySem.W.nsIn K mainGlobals "NoBits"=some (some (.ref C_NoBits)))
  {C_NotFinite:Addr} (n_NotFinite:PySem.W.nsIn K mainGlobals "NotFinite"=some (some (.ref C_NotFinite)))
  {C_NoWay:Addr} (n_NoWay:PySem.W.nsIn K mainGlobals "NoWay"=some (some (.ref C_NoWay)))
  {C_NoFraction:Addr} (n_NoFraction:PySem.W.nsIn K mainGlobals "NoFraction"=some (some (.ref C_NoFraction)))
  {C_Unlike:Addr} (n_Unlike:PySem.W.nsIn K mainGlobals "Unlike"=some (some (.ref C_Unlike)))
  (xi_NoWay:PySem.W.excIn K C_NoWay bmV "ValueError.__new__"=true)
  (xi_NoBits:PySem.W.excIn K C_NoBits bmV "ValueError.__new__"=true)
  (xi_NoFraction:PySem.W.excIn K C_NoFraction bmV "ValueError.__new__"=true)
  (xi_NotFinite:PySem.W.excIn K C_NotFinite bmV "ValueError.__new__"=true)
  (xi_Unlike:PySem.W.excIn K C_Unlike bmV "ValueError.__new__"=true)
  (v_MillError:XCls K C_MillError)
  (w_NoSize:PySem.W.nsIn K mainGlobals "NoSize"=some none)
  (v_NoBits:XCls K C_NoBits)
  (w_NoParts:PySem.W.nsIn K mainGlobals "NoParts"=some none)
  (w_NoRank:PySem.W.nsIn K mainGlobals "NoRank"=some none)
  (v_NotFinite:XCls K C_NotFinite)
  (v_NoWay:XCls K C_NoWay)
  (w_NoFlags:PySem.W.nsIn K mainGlobals "NoFlags"=some none)
  (v_NoFraction:XCls K C_NoFraction)
  (v_Unlike:XCls K C_Unlike)
  (w_Empty:PySem.W.nsIn K mainGlobals "Empty"=some none)
  (w_NoLeft:PySem.W.nsIn K mainGlobals "NoLeft"=some none)
  (w_NoText:PySem.W.nsIn K mainGlobals "NoText"=some none)
  (w_NoRow:PySem.W.nsIn K mainGlobals "NoRow"=some none)
  (w_NoName:PySem.W.nsIn K mainGlobals "NoName"=some none)
  (w_Stopped:PySem.W.nsIn K mainGlobals "Stopped"=some none)
  (i_int_NoneType:PySem.W.kitOne K (.type "NoneType") (.type "int")=some false)
  (i_int_bool:PySem.W.kitOne K (.type "bool") (.type "int")=some true)
  (i_int_int:PySem.W.kitOne K (.type "int") (.type "int")=some true)
  (i_int_str:PySem.W.kitOne K (.type "str") (.type "int")=some false)
  (i_int_tuple:PySem.W.kitOne K ↥10 (.type "int")=some false)
  (i_int_list:PySem.W.kitOne K (.type "list") (.type "int")=some false)
  (i_bool_NoneType:PySem.W.kitOne K (.type "NoneType") (.type "bool")=some false)
  (i_bool_bool:PySem.W.kitOne K (.type "bool") (.type "bool")=some true)
  (i_bool_int:PySem.W.kitOne K (.type "int") (.type "bool")=some false)
  (i_bool_str:PySem.W.kitOne K (.type "str") (.type "bool")=some false)
  (i_bool_tuple:PySem.W.kitOne K ↥10 (.type "bool")=some false)
  (i_bool_list:PySem.W.kitOne K (.type "list") (.type "bool")=some false)
  (i_tuple_NoneType:PySem.W.kitOne K (.type "NoneType") ↥10=some false)
  (i_tuple_bool:PySem.W.kitOne K (.type "bool") ↥10=some false)
  (i_tuple_int:PySem.W.kitOne K (.type "int") ↥10=some false)
  (i_tuple_str:PySem.W.kitOne K (.type "str") ↥10=some false)
  (i_tuple_tuple:PySem.W.kitOne K ↥10 ↥10=some true)
  (i_tuple_list:PySem.W.kitOne K (.type "list") ↥10=some false)
  (tb:tabIn K cd48=true)
  : ∃ fd:FuncData,(∀ (s:Shared) (v:Value),BindsTo s fd ⟨[v],[]⟩ [("_law_script",v)])/\(∃ o,h.get? fa=some o/\o.data=.func fd)/\tabIn K fd.code=true/\∀ (base:Heap) (c Pt:Addr),fd.code=.ref c->PySem.W.CodeHd base c Pt->base.BuiltinsAt mg Pt->mainGlobals≠Pt->K.In base->base.Ns mainGlobals mg->FnOk P w K mg base (CXF P w) 10 fa fd ["_law_script"] (spB K mg Pt AV):=by
 have e:=hfa.symm.trans (ć KX GG a48)
 cases e
 have q_Way:=ć KX GG n_Way
 have cl_Way:Cls K C_Way:=⟨pg_Way,hd_Way,po_Way,sa_Way⟩
 have m_min:=Õ KX GG z_min
 have m_max:=Õ KX GG z_max
 have m_len:=Õ KX GG z_len
 have m_range:=Õ KX GG z_range
 have m_list:=Õ KX GG z_list
 have m_reversed:=Õ KX GG z_reversed
 have m_abs:=Õ KX GG z_abs
 have m_any:=Õ KX GG z_any
 have m_zip:=Õ KX GG z_zip
 have m_int:=Õ KX GG z_int
 have m_isinstance:=Õ KX GG z_isinstance
 have m_bool:=Õ KX GG z_bool
 have m_tuple:=Õ KX GG z_tuple
 have m_sorted:=Õ KX GG z_sorted
 have g_INEXACT:∃ t,mg "INEXACT"=some (.int 1 t):=⟨_,ć KX GG y_INEXACT⟩
 have g_GREAT:∃ t,mg "GREAT"=some (.int 4 t):=⟨_,ć KX GG y_GREAT⟩
 have g_SMALL:∃ t,mg "SMALL"=some (.int 2 t):=⟨_,ć KX GG y_SMALL⟩
 have g_WRONG:∃ t,mg "WRONG"=some (.int 16 t):=⟨_,ć KX GG y_WRONG⟩
 have q_MillError:=ć KX GG n_MillError
 have q_NoBits:=ć KX GG n_NoBits
 have q_NotFinite:=ć KX GG n_NotFinite
 have q_NoWay:=ć KX GG n_NoWay
 have q_NoFraction:=ć KX GG n_NoFraction
 have q_Unlike:=ć KX GG n_Unlike
 have hXF:∀ n∈aj,XF K mg n:=MW
  ⟨.inr ⟨_,q_MillError,v_MillError⟩⟩
  ⟨.inl (Õ KX GG w_NoSize)⟩
  ⟨.inr ⟨_,q_NoBits,v_NoBits⟩⟩
  ⟨.inl (Õ KX GG w_NoParts)⟩
  ⟨.inl (Õ KX GG w_NoRank)⟩
  ⟨.inr ⟨_,q_NotFinite,v_NotFinite⟩⟩
  ⟨.inr ⟨_,q_NoWay,v_NoWay⟩⟩
  ⟨.inl (Õ KX GG w_NoFlags)⟩
  ⟨.inr ⟨_,q_NoFraction,v_NoFraction⟩⟩
  ⟨.inr ⟨_,q_Unlike,v_Unlike⟩⟩
  ⟨.inl (Õ KX GG w_Empty)⟩
  ⟨.inl (Õ KX GG w_NoLeft)⟩
  ⟨.inl (Õ KX GG w_NoText)⟩
  ⟨.inl (Õ KX GG w_NoRow)⟩
  ⟨.inl (Õ KX GG w_NoName)⟩
  ⟨.inl (Õ KX GG w_Stopped)⟩
 refine ⟨Ĳ "law" "law" (dF mh) (ag mh) (aa mh) .none kV48 dc48 pm48 an48 cd48 ct48,fun s v=>.of_eq rfl,⟨_,KX _ _ l48,rfl⟩,tb,fun base c Pt hc ch ba gp _ _ => ?_⟩
 have FIWay:=mW (st:=fZ) lIWay eIWay kIWay
 have BIWay:=cy (ps:=["self","name"]) FIWay rfl fun _ _ _ _ _ _ _ _=>rfl
 have JIWay:FnOk P w K mg base CX0 1 fIWay _ ["self","name"] (spI K "name"):=FC (k:=0) FIWay ⟨rfl,rfl,rfl,by decide +kernel,by decide +kernel,by decide +kernel,by decide +kernel⟩ ↥41 ↥41 ↥41 ↥41 rfl (fun _=>rfl)
 have D1:FnP P w K mg base "_law_size_by" 1 bV:=q1.fn KX GG ma rfl rfl (dX · rfl fun _ _ _ _ _ _ _=>rfl) fun X hr L O Pl hS =>
  oS (X:=at5 X P w K mg base) hr L O Pl hS
 have D2:FnP P w K mg base "_law_way_by" 1 cm:=q2.fn KX GG nQ rfl rfl (dX · rfl fun _ _ _ _ _ _ _=>rfl) fun X hr L O Pl hS =>
  qB (X:=at5 X P w K mg base) hr L O Pl hS
 have D3:FnP P w K mg base "_law_finite_by" 1 aA:=q3.fn KX GG jL rfl rfl (cy · rfl fun _ _ _ _ _ _ _ _=>rfl) fun X hr L O Pl hS =>
  lN (X:=at5 X P w K mg base) hr L O Pl hS m_min m_max
 have D4:FnP P w K mg base "_law_rows_by" 2 bW:=q4.fn KX GG md rfl rfl (dW · rfl fun _ _ _ _ _ _ _ _ _=>rfl) fun X hr L O Pl hS =>
  oU (X:=at5 X P w K mg base) hr L O Pl hS m_len m_range (D3.c hr) m_list m_reversed
 have D5:FnP P w K mg base "_law_bits_by" 1 aS:=q5.fn KX GG mf rfl rfl (cy · rfl fun _ _ _ _ _ _ _ _=>rfl) fun X hr L O Pl hS =>
  oW (X:=at5 X P w K mg base) hr L O Pl hS
 have D6:FnP P w K mg base "_law_clean" 1 aO:=q6.fn KX GG pP rfl rfl (dW · rfl fun _ _ _ _ _ _ _ _ _=>rfl) fun X hr L O Pl hS =>
  sM (X:=at5 X P w K mg base) hr L O Pl hS
 have D7:FnP P w K mg base "_law_built" 3 cT:=q7.fn KX GG pQ rfl rfl (dW · rfl fun _ _ _ _ _ _ _ _ _=>rfl) fun X hr L O Pl hS =>
  sN (X:=at5 X P w K mg base) hr L O Pl hS (D4.c hr) m_len m_range (D5.c hr) (D6.c hr)
 have D8:FnP P w K mg base "way_of" 3 bq:=q8.fn KX GG wW rfl rfl (dX · rfl fun _ _ _ _ _ _ _=>rfl) fun X hr L O Pl hS =>
  BZ (X:=at5 X P w K mg base) hr L O Pl hS (FH (ss:=["even","away","nought","up","down"]) (ć KX GG y_NAMES) yl_NAMES (pC (ts:=[t0_NAMES,t1_NAMES,t2_NAMES,t3_NAMES,t4_NAMES]) rfl rfl) (Nat.le_of_ble_eq_true rfl)) q_NoWay xi_NoWay ⟨⟨C_Way,_,1,_,_,q_Way,cl_Way,na_Way,⟨mm_Way,aIWay,uIWay,kc_Way⟩,JIWay,hr.mono ↥1,BIWay⟩⟩
 have D9:FnP P w K mg base "sign_bit" 1 bI:=q9.fn KX GG rg rfl rfl (dX · rfl fun _ _ _ _ _ _ _=>rfl) fun X hr L O Pl hS =>
  vN (X:=at5 X P w K mg base) hr L O Pl hS
 have D10:FnP P w K mg base "width" 1 kX:=q10.fn KX GG AD rfl rfl (dX · rfl fun _ _ _ _ _ _ _=>rfl) fun X hr L O Pl hS =>
  Gh (X:=at5 X P w K mg base) hr L O Pl hS
 have D11:FnP P w K mg base "parted" 2 cf:=q11.fn KX GG xa rfl rfl (cy · rfl fun _ _ _ _ _ _ _ _=>rfl) fun X hr L O Pl hS =>
  B5 (X:=at5 X P w K mg base) hr L O Pl hS (D10.c hr) q_NoBits xi_NoBits (D9.c hr)
 have D12:FnP P w K mg base "last_field" 1 aH:=q12.fn KX GG nU rfl rfl (dX · rfl fun _ _ _ _ _ _ _=>rfl) fun X hr L O Pl hS =>
  qD (X:=at5 X P w K mg base) hr L O Pl hS
 have D13:FnP P w K mg base "kind" 3 cU:=q13.fn KX GG Er rfl rfl (cy · rfl fun _ _ _ _ _ _ _ _=>rfl) fun X hr L O Pl hS =>
  Kw (X:=at5 X P w K mg base) hr L O Pl hS (D11.c hr) (D12.c hr)
 have D14:FnP P w K mg base "any_none" 4 dJ:=q14.fn KX GG rj rfl rfl (cy · rfl fun _ _ _ _ _ _ _ _=>rfl) fun X hr L O Pl hS =>
  vQ (X:=at5 X P w K mg base) hr L O Pl hS (D13.c hr)
 have D15:FnP P w K mg base "worth_fraction" 1 aV:=q15.fn KX GG i9 rfl rfl (dX · rfl fun _ _ _ _ _ _ _=>rfl) fun X hr L O Pl hS =>
  jM (X:=at5 X P w K mg base) hr L O Pl hS
 have D16:FnP P w K mg base "check_fraction" 1 aX:=q16.fn KX GG jb rfl rfl (cy · rfl fun _ _ _ _ _ _ _ _=>rfl) fun X hr L O Pl hS =>
  jO (X:=at5 X P w K mg base) hr L O Pl hS q_NoFraction xi_NoFraction
 have D17:FnP P w K mg base "scaled" 1 eC:=q17.fn KX GG wZ rfl rfl (dW · rfl fun _ _ _ _ _ _ _ _ _=>rfl) fun X hr L O Pl hS =>
  B4 (X:=at5 X P w K mg base) hr L O Pl hS
 have D18:FnP P w K mg base "bias" 1 pY:=q18.fn KX GG Es rfl rfl (dX · rfl fun _ _ _ _ _ _ _=>rfl) fun X hr L O Pl hS =>
  Kx (X:=at5 X P w K mg base) hr L O Pl hS
 have D19:FnP P w K mg base "low" 2 kZ:=q19.fn KX GG HY rfl rfl (dX · rfl fun _ _ _ _ _ _ _=>rfl) fun X hr L O Pl hS =>
  MP (X:=at5 X P w K mg base) hr L O Pl hS (D18.c hr)
 have D20:FnP P w K mg base "rest_by_middle" 1 aW:=q20.fn KX GG ja rfl rfl (dW · rfl fun _ _ _ _ _ _ _ _ _=>rfl) fun X hr L O Pl hS =>
  jN (X:=at5 X P w K mg base) hr L O Pl hS
 have D21:FnP P w K mg base "rest_of" 2 fB:=q21.fn KX GG va rfl rfl (cy · rfl fun _ _ _ _ _ _ _ _=>rfl) fun X hr L O Pl hS =>
  zj (X:=at5 X P w K mg base) hr L O Pl hS (D20.c hr)
 have D22:FnP P w K mg base "height" 2 iq:=q22.fn KX GG xc rfl rfl (cy · rfl fun _ _ _ _ _ _ _ _=>rfl) fun X hr L O Pl hS =>
  B6 (X:=at5 X P w K mg base) hr L O Pl hS (D17.c hr)
 have D23:FnP P w K mg base "cut" 3 rE:=q23.fn KX GG Ia rfl rfl (dW · rfl fun _ _ _ _ _ _ _ _ _=>rfl) fun X hr L O Pl hS =>
  MR (X:=at5 X P w K mg base) hr L O Pl hS (D16.c hr) (D19.c hr) (D22.c hr) m_max (D17.c hr) (D21.c hr)
 have D24:FnP P w K mg base "endless" 2 bg:=q24.fn KX GG vc rfl rfl (dX · rfl fun _ _ _ _ _ _ _=>rfl) fun X hr L O Pl hS =>
  zk (X:=at5 X P w K mg base) hr L O Pl hS (D12.c hr)
 have D25:FnP P w K mg base "signed" 2 bS:=q25.fn KX GG wY rfl rfl (dW · rfl fun _ _ _ _ _ _ _ _ _=>rfl) fun X hr L O Pl hS =>
  B3 (X:=at5 X P w K mg base) hr L O Pl hS (D9.c hr)
 have D26:FnP P w K mg base "lost_flags" 3 ck:=q26.fn KX GG nO rfl rfl (dW · rfl fun _ _ _ _ _ _ _ _ _=>rfl) fun X hr L O Pl hS =>
  qA (X:=at5 X P w K mg base) hr L O Pl hS (D24.c hr) g_INEXACT g_GREAT g_SMALL
 have F27:=mW (st:=az) l27 e27 k27
 have B27:=cy (ps:=["self","sign"]) F27 rfl fun _ _ _ _ _ _ _ _=>rfl
 have D27:=uj (P:=P) (w:=w) (mg:=mg) (base:=base) (n:=2) (m:=2) (g:=aJ) (k:=0) F27 gR rfl rfl fun X hr L O Pl hS=>by
  exact iF (X:=at5 X P w K mg base) hr L O Pl hS ⟨⟨C_Way,q_Way,cl_Way,na_Way⟩⟩
 have F28:=mW (st:=bF) l28 e28 k28
 have B28:=uy (ps:=["self","sign","odd","rest"]) F28 rfl fun _ _ _ _ _ _ _ _ _ _=>rfl
 have D28:=uj (P:=P) (w:=w) (mg:=mg) (base:=base) (n:=4) (m:=4) (g:=cV) (k:=1) F28 pR rfl rfl fun X hr L O Pl hS=>by
  exact sO (X:=at5 X P w K mg base) hr L O Pl hS ⟨⟨C_Way,q_Way,cl_Way,na_Way⟩⟩ ⟨⟨C_Way,f27,1,_,_,q_Way,cl_Way,⟨a27,u27,k27⟩,D27,hr.mono ↥1,B27⟩⟩
 have F29:=mW (st:=a8) l29 e29 k29
 have B29:=cy (ps:=["self","sign"]) F29 rfl fun _ _ _ _ _ _ _ _=>rfl
 have D29:=uj (P:=P) (w:=w) (mg:=mg) (base:=base) (n:=2) (m:=2) (g:=cq) (k:=1) F29 nW rfl rfl fun X hr L O Pl hS=>by
  exact qE (X:=at5 X P w K mg base) hr L O Pl hS ⟨⟨C_Way,q_Way,cl_Way,na_Way⟩⟩ ⟨⟨C_Way,f27,1,_,_,q_Way,cl_Way,⟨a27,u27,k27⟩,D27,hr.mono ↥1,B27⟩⟩
 have D30:FnP P w K mg base "settled" 4 fA:=q30.fn KX GG u7 rfl rfl (Kt · rfl fun _ _ _ _ _ _ _ _ _ _ _ _=>rfl) fun X hr L O Pl hS =>
  zh (X:=at5 X P w K mg base) hr L O Pl hS (D8.c hr) (D19.c hr) (D24.c hr) ⟨⟨C_Way,f29,2,_,_,q_Way,cl_Way,⟨a29,u29,k29⟩,D29,hr.mono ↥1,B29⟩⟩ (D25.c hr) g_INEXACT g_GREAT ⟨⟨C_Way,f28,2,_,_,q_Way,cl_Way,⟨a28,u28,k28⟩,D28,hr.mono ↥1,B28⟩⟩ (D26.c hr)
 have D31:FnP P w K mg base "rounded" 5 bT:=q31.fn KX GG u9 rfl rfl (Ku · rfl fun _ _ _ _ _ _ _ _ _ _ _=>rfl) fun X hr L O Pl hS =>
  zi (X:=at5 X P w K mg base) hr L O Pl hS (D8.c hr) (D23.c hr) (D30.c hr)
 have D32:FnP P w K mg base "total" 1 kY:=q32.fn KX GG AE rfl rfl (dX · rfl fun _ _ _ _ _ _ _=>rfl) fun X hr L O Pl hS =>
  Gi (X:=at5 X P w K mg base) hr L O Pl hS m_min m_abs
 have D33:FnP P w K mg base "nought_sign" 4 bU:=q33.fn KX GG l9 rfl rfl (cy · rfl fun _ _ _ _ _ _ _ _=>rfl) fun X hr L O Pl hS =>
  oR (X:=at5 X P w K mg base) hr L O Pl hS (D8.c hr)
 have D34:FnP P w K mg base "settled_total" 6 av:=q34.fn KX GG jI rfl rfl (dW · rfl fun _ _ _ _ _ _ _ _ _=>rfl) fun X hr L O Pl hS =>
  lK (X:=at5 X P w K mg base) hr L O Pl hS (D15.c hr) (D32.c hr) (D33.c hr) (D25.c hr) (D31.c hr)
 have D35:FnP P w K mg base "no_number" 3 bf:=q35.fn KX GG pN rfl rfl (dX · rfl fun _ _ _ _ _ _ _=>rfl) fun X hr L O Pl hS =>
  sJ (X:=at5 X P w K mg base) hr L O Pl hS (D24.c hr)
 have D36:FnP P w K mg base "settled_terms" 7 aB:=q36.fn KX GG jJ rfl rfl (dW · rfl fun _ _ _ _ _ _ _ _ _=>rfl) fun X hr L O Pl hS =>
  lL (X:=at5 X P w K mg base) hr L O Pl hS (D35.c hr) g_WRONG m_len (D25.c hr) (D24.c hr) (D34.c hr)
 have D37:FnP P w K mg base "worth" 3 kW:=q37.fn KX GG AB rfl rfl (cy · rfl fun _ _ _ _ _ _ _ _=>rfl) fun X hr L O Pl hS =>
  Gg (X:=at5 X P w K mg base) hr L O Pl hS (D11.c hr) (D12.c hr) q_NotFinite xi_NotFinite (D19.c hr)
 have D38:FnP P w K mg base "number_term" 4 ax:=q38.fn KX GG l8 rfl rfl (cy · rfl fun _ _ _ _ _ _ _ _=>rfl) fun X hr L O Pl hS =>
  oQ (X:=at5 X P w K mg base) hr L O Pl hS (D13.c hr) (D11.c hr) (D37.c hr)
 have D39:FnP P w K mg base "product_term" 5 aY:=q39.fn KX GG kK rfl rfl (dW · rfl fun _ _ _ _ _ _ _ _ _=>rfl) fun X hr L O Pl hS =>
  mE (X:=at5 X P w K mg base) hr L O Pl hS (D38.c hr)
 have D40:FnP P w K mg base "product_wrong" 4 bb:=q40.fn KX GG jK rfl rfl (dW · rfl fun _ _ _ _ _ _ _ _ _=>rfl) fun X hr L O Pl hS =>
  lM (X:=at5 X P w K mg base) hr L O Pl hS (D13.c hr)
 have D41:FnP P w K mg base "settled_sum" 8 ai:=q41.fn KX GG l6 rfl rfl (uy · rfl fun _ _ _ _ _ _ _ _ _ _=>rfl) fun X hr L O Pl hS =>
  oP (X:=at5 X P w K mg base) hr L O Pl hS (D8.c hr) m_list (D14.c hr) (D35.c hr) (D40.c hr) m_any g_WRONG (D39.c hr) (D36.c hr) (D38.c hr)
 have D42:FnP P w K mg base "gathered" 9 bK:=q42.fn KX GG ri rfl rfl (uy · rfl fun _ _ _ _ _ _ _ _ _ _=>rfl) fun X hr L O Pl hS =>
  vP (X:=at5 X P w K mg base) hr L O Pl hS (D8.c hr) m_len q_Unlike xi_Unlike (D41.c hr) m_list m_zip
 have D43:FnP P w K mg base "summed" 9 eB:=q43.fn KX GG wX rfl rfl (dW · rfl fun _ _ _ _ _ _ _ _ _=>rfl) fun X hr L O Pl hS =>
  B0 (X:=at5 X P w K mg base) hr L O Pl hS (D41.c hr)
 have D44:FnP P w K mg base "_law_cell_at" 1 aQ:=q44.fn KX GG me rfl rfl (cy · rfl fun _ _ _ _ _ _ _ _=>rfl) fun X hr L O Pl hS =>
  oV (X:=at5 X P w K mg base) hr L O Pl hS m_len
 have D45:FnP P w K mg base "_law_placed" 1 bJ:=q45.fn KX GG nR rfl rfl (uy · rfl fun _ _ _ _ _ _ _ _ _ _=>rfl) fun X hr L O Pl hS =>
  qC (X:=at5 X P w K mg base) hr L O Pl hS
 have D46:FnP P w K mg base "_law_whole" 1 b8:=q46.fn KX GG pO rfl rfl (dX · rfl fun _ _ _ _ _ _ _=>rfl) fun X hr L O Pl hS =>
  sL (X:=at5 X P w K mg base) hr L O Pl hS m_int (yu ↥1 i_int_NoneType i_int_bool i_int_int i_int_str i_int_tuple i_int_list) (qj (wd hXF)) m_isinstance m_bool (yu ↥1 i_bool_NoneType i_bool_bool i_bool_int i_bool_str i_bool_tuple i_bool_list)
 have D47:FnP P w K mg base "_law_good" 2 cP:=q47.fn KX GG rh rfl rfl (cy · rfl fun _ _ _ _ _ _ _ _=>rfl) fun X hr L O Pl hS =>
  vO (X:=at5 X P w K mg base) hr L O Pl hS m_tuple (yu ↥1 i_tuple_NoneType i_tuple_bool i_tuple_int i_tuple_str i_tuple_tuple i_tuple_list) (qj (wd hXF)) m_isinstance m_len (D46.c hr)
 have F48:=mW (st:=mh) l48 e48 k48
 ·refine J5 (k:=9) F48 HZ rfl rfl fun X hcd hr L O Pl hS => ?_
  exact MQ (X:=at5 X P w K mg base) hr L O Pl hS (D1.c hr) (D44.c hr) (D2.c hr) (D7.c hr) m_len m_range ⟨⟨c,hcd.trans hc,ch⟩,ba,gp⟩ m_sorted (D45.c hr) (D42.c hr) m_list (D47.c hr) (D43.c hr)
end T
namespace H
open PySem PySem.W PySem.Spec PyProof.Rows L2 EV ES
noncomputable section
abbrev vS (x:Str) (n:Nat):Value:=.str x n
abbrev vI (x:Int) (n:Nat):Value:=.int x n
abbrev r (n:Addr):Value:=.ref n
abbrev z (x:Int):Value:=.int x 0
abbrev c (n:Nat):Value:=.str "/claim/cut.py" n
abbrev en (P:Params) (x:Str) (n:Nat) (v:Value):DictEntry:=⟨PyData.keyHash P x,.str x n,v⟩
abbrev sqO (c:Value) (a:Array Value):Obj:=⟨c,none,.seq a 0,#[]⟩
abbrev fiO (c:Value) (a:Array Value):Obj:=⟨c,none,.fields a,#[]⟩
abbrev diO (c:Value) (a:Array DictEntry) (n:Nat):Obj:=⟨c,none,.dict a n,#[]⟩
abbrev fnO (c:Value) (x q:Str) (s:Stmt) (g:Addr) (cl:List (Str×Addr)) (d k dc m:Value) (an:Option Addr) (cd ct:Value) (b:Addr):Obj:=⟨c,none,.func ⟨x,q,dF s,.stmts (ag s),aa s,g,cl,d,k,dc,m,an,cd,ct,b⟩,#[]⟩
abbrev cd (x:Str) (a b d:Nat) (l k:Int) (p:Addr) (w:Int) (q s t u:Addr) (m:Int) (e:Nat):Obj:=fiO ↥63 #[vS x a,vS x b,c d,z l,z k,z 0,z 0,z 3,r p,.bool true,z w,r q,.none,r s,r t,r u,z m,z l,c e]
abbrev fu (x:Str) (n:Nat) (g:Addr) (m:Str) (b:Nat) (d:Addr):Obj:=fnO (.type "function") x x (T.top n) g [] .none .none .none (vS m b) none (r d) .none 0
abbrev fv (x:Str) (n:Nat):Obj:=fnO .none x x (T.top n) 0 [] .none .none .none .none none .none .none 0
abbrev N:BT:=.nil
abbrev L (o:Obj):BT:=.node o .nil .nil
abbrev B (o:Obj) (l r:BT):BT:=.node o l r
def cut (n:Nat) (t:BT):Nat->Nat->BT := @BT.rec (fun _=>Nat->Nat->BT) (fun _ _=>.nil) (fun v _ _ l r a b => @Bool.rec (fun _=>BT) .nil (.node v (l (Nat.mul 2 a) (Nat.add a b)) (r (Nat.mul 2 a) (Nat.add (Nat.mul 2 a) b))) (Nat.blt b n)) t
def o0:Obj:=sqO ↥10 #[]
def o1:Obj:=fiO .none #[]
def o2:Obj:=fiO ↥63 #[(vS "<module>" 182),(vS "<module>" 183),(c 184),(z 1),(z 0),(z 0),(z 0),(z 0),(r 11),(.bool false),(z 181),(r 12),.none,.none,.none,.none,(z 185),(z 1),(c 186)]
def o3:Obj:=(Ź (.type "frame") none Ů #[(some (r 13)),(some (r 3)),(some (r 3)),none,(some (vS "__main__" 164)),none,(some (r 0))])
def o4 (P:Params):Obj:=diO ↥73 #[(en P "__name__" 165 (vS "roundmill.sizes" 287)),(en P "__doc__" 166 .none),(en P "__package__" 167 .none),↥122,(en P "__spec__" 169 .none),(en P "__annotations__" 170 (r 6)),(en P "__builtins__" 171 (r 4)),(en P "__file__" 173 (c 172)),(en P "__cached__" 174 .none),(en P "MillError" 206 (r 24)),(en P "NoBits" 222 (r 37)),(en P "NotFinite" 238 (r 49)),(en P "NoWay" 254 (r 61)),(en P "NoFraction" 270 (r 73)),(en P "Unlike" 286 (r 85)),(en P "width" 295 (r 94))] 16
def o5:Obj:=fiO .none #[(z 2),(z 0),(r 20),(z 4),(z 0),(r 33),(z 6),(z 0),(r 45),(z 8),(z 0),(r 57),(z 10),(z 0),(r 69),(z 12),(z 0),(r 81),(z 15),(z 0),(r 93)]
def o6:Obj:=sqO ↥10 #[↥137]
def o7:Obj:=fiO ↥39 #[(.builtin "type.__prepare__"),(.type "type")]
def o8 (P:Params):Obj:=diO ↥73 #[(en P "__module__" 196 ↥19),(en P "__qualname__" 198 (vS "MillError" 197)),(en P "__firstlineno__" 200 (vI 2 199)),(en P "__static_attributes__" 201 (r 22))] 4
def o9:Obj:=fiO ↥63 #[(vS "MillError" 191),(vS "MillError" 192),(c 193),(z 2),(z 0),(z 0),(z 0),(z 0),(r 18),(.bool false),(z 181),(r 19),.none,.none,.none,.none,(z 194),(z 2),(c 195)]
def o10:Obj:=(Ź (.type "frame") none Ů #[(some (r 20)),(some (r 3)),(some (r 17)),none,(some ↥19),none,(some (r 0))])
def o11 (P:Params):Obj:=diO ↥73 #[(en P "__module__" 196 ↥19),(en P "__firstlineno__" 200 (vI 2 199)),(en P "__static_attributes__" 201 (r 22)),(en P "__weakref__" 203 (r 25)),(en P "__doc__" 204 .none)] 3
def o12:Obj:=(Ź (.type "type") none (Æe (Ŧ "MillError" [↥137] [(r 24),↥137,(.type "Exception"),↥58,↥91] 23 "MillError" true [] [(r 37),(r 49),(r 61),(r 73),(r 85)] false none false)) #[(some (r 15)),none,(some (vS "MillError" 189)),(some (vS "MillError" 197)),↥71,(some ↥75)])
def o13:Obj:=fiO (.type "getset_descriptor") #[(vS "__weakref__" 202),(r 24),(.builtin "ExceptionGroup.__weakref__"),.none]
def o14:Obj:=fiO (.type "super") #[(r 24),(r 24),(r 24)]
def o15:Obj:=fiO ↥39 #[↥51,(r 24)]
def o16:Obj:=sqO ↥10 #[(r 24)]
def o17 (P:Params):Obj:=diO ↥73 #[(en P "__module__" 214 ↥19),(en P "__qualname__" 216 (vS "NoBits" 215)),(en P "__firstlineno__" 218 (vI 4 217)),(en P "__static_attributes__" 219 (r 35))] 4
def o18:Obj:=fiO ↥63 #[(vS "NoBits" 209),(vS "NoBits" 210),(c 211),(z 4),(z 0),(z 0),(z 0),(z 0),(r 31),(.bool false),(z 181),(r 32),.none,.none,.none,.none,(z 212),(z 4),(c 213)]
def o19:Obj:=(Ź (.type "frame") none Ů #[(some (r 33)),(some (r 3)),(some (r 30)),none,(some ↥19),none,(some (r 0))])
def o20 (P:Params):Obj:=diO ↥73 #[(en P "__module__" 214 ↥19),(en P "__firstlineno__" 218 (vI 4 217)),(en P "__static_attributes__" 219 (r 35)),(en P "__doc__" 220 .none)] 2
def o21:Obj:=(Ź (.type "type") none (Æe (Ŧ "NoBits" [(r 24)] [(r 37),(r 24),↥137,(.type "Exception"),↥58,↥91] 36 "NoBits" true [] [] false none false)) #[(some (r 28)),none,(some (vS "NoBits" 207)),(some (vS "NoBits" 215)),↥71,(some ↥75)])
def o22:Obj:=fiO (.type "super") #[(r 37),(r 37),(r 37)]
def o23:Obj:=fiO ↥39 #[↥51,(r 37)]
def o24 (P:Params):Obj:=diO ↥73 #[(en P "__module__" 230 ↥19),(en P "__qualname__" 232 (vS "NotFinite" 231)),(en P "__firstlineno__" 234 (vI 6 233)),(en P "__static_attributes__" 235 (r 47))] 4
def o25:Obj:=fiO ↥63 #[(vS "NotFinite" 225),(vS "NotFinite" 226),(c 227),(z 6),(z 0),(z 0),(z 0),(z 0),(r 43),(.bool false),(z 181),(r 44),.none,.none,.none,.none,(z 228),(z 6),(c 229)]
def o26:Obj:=(Ź (.type "frame") none Ů #[(some (r 45)),(some (r 3)),(some (r 42)),none,(some ↥19),none,(some (r 0))])
def o27 (P:Params):Obj:=diO ↥73 #[(en P "__module__" 230 ↥19),(en P "__firstlineno__" 234 (vI 6 233)),(en P "__static_attributes__" 235 (r 47)),(en P "__doc__" 236 .none)] 2
def o28:Obj:=(Ź (.type "type") none (Æe (Ŧ "NotFinite" [(r 24)] [(r 49),(r 24),↥137,(.type "Exception"),↥58,↥91] 48 "NotFinite" true [] [] false none false)) #[(some (r 40)),none,(some (vS "NotFinite" 223)),(some (vS "NotFinite" 231)),↥71,(some ↥75)])
def o29:Obj:=fiO (.type "super") #[(r 49),(r 49),(r 49)]
def o30:Obj:=fiO ↥39 #[↥51,(r 49)]
def o31 (P:Params):Obj:=diO ↥73 #[(en P "__module__" 246 ↥19),(en P "__qualname__" 248 (vS "NoWay" 247)),(en P "__firstlineno__" 250 (vI 8 249)),(en P "__static_attributes__" 251 (r 59))] 4
def o32:Obj:=fiO ↥63 #[(vS "NoWay" 241),(vS "NoWay" 242),(c 243),(z 8),(z 0),(z 0),(z 0),(z 0),(r 55),(.bool false),(z 181),(r 56),.none,.none,.none,.none,(z 244),(z 8),(c 245)]
def o33:Obj:=(Ź (.type "frame") none Ů #[(some (r 57)),(some (r 3)),(some (r 54)),none,(some ↥19),none,(some (r 0))])
def o34 (P:Params):Obj:=diO ↥73 #[(en P "__module__" 246 ↥19),(en P "__firstlineno__" 250 (vI 8 249)),(en P "__static_attributes__" 251 (r 59)),(en P "__doc__" 252 .none)] 2
def o35:Obj:=(Ź (.type "type") none (Æe (Ŧ "NoWay" [(r 24)] [(r 61),(r 24),↥137,(.type "Exception"),↥58,↥91] 60 "NoWay" true [] [] false none false)) #[(some (r 52)),none,(some (vS "NoWay" 239)),(some (vS "NoWay" 247)),↥71,(some ↥75)])
def o36:Obj:=fiO (.type "super") #[(r 61),(r 61),(r 61)]
def o37:Obj:=fiO ↥39 #[↥51,(r 61)]
def o38 (P:Params):Obj:=diO ↥73 #[(en P "__module__" 262 ↥19),(en P "__qualname__" 264 (vS "NoFraction" 263)),(en P "__firstlineno__" 266 (vI 10 265)),(en P "__static_attributes__" 267 (r 71))] 4
def o39:Obj:=fiO ↥63 #[(vS "NoFraction" 257),(vS "NoFraction" 258),(c 259),(z 10),(z 0),(z 0),(z 0),(z 0),(r 67),(.bool false),(z 181),(r 68),.none,.none,.none,.none,(z 260),(z 10),(c 261)]
def o40:Obj:=(Ź (.type "frame") none Ů #[(some (r 69)),(some (r 3)),(some (r 66)),none,(some ↥19),none,(some (r 0))])
def o41 (P:Params):Obj:=diO ↥73 #[(en P "__module__" 262 ↥19),(en P "__firstlineno__" 266 (vI 10 265)),(en P "__static_attributes__" 267 (r 71)),(en P "__doc__" 268 .none)] 2
def o42:Obj:=(Ź (.type "type") none (Æe (Ŧ "NoFraction" [(r 24)] [(r 73),(r 24),↥137,(.type "Exception"),↥58,↥91] 72 "NoFraction" true [] [] false none false)) #[(some (r 64)),none,(some (vS "NoFraction" 255)),(some (vS "NoFraction" 263)),↥71,(some ↥75)])
def o43:Obj:=fiO (.type "super") #[(r 73),(r 73),(r 73)]
def o44:Obj:=fiO ↥39 #[↥51,(r 73)]
def o45 (P:Params):Obj:=diO ↥73 #[(en P "__module__" 278 ↥19),(en P "__qualname__" 280 (vS "Unlike" 279)),(en P "__firstlineno__" 282 (vI 12 281)),(en P "__static_attributes__" 283 (r 83))] 4
def o46:Obj:=fiO ↥63 #[(vS "Unlike" 273),(vS "Unlike" 274),(c 275),(z 12),(z 0),(z 0),(z 0),(z 0),(r 79),(.bool false),(z 181),(r 80),.none,.none,.none,.none,(z 276),(z 12),(c 277)]
def o47:Obj:=(Ź (.type "frame") none Ů #[(some (r 81)),(some (r 3)),(some (r 78)),none,(some ↥19),none,(some (r 0))])
def o48 (P:Params):Obj:=diO ↥73 #[(en P "__module__" 278 ↥19),(en P "__firstlineno__" 282 (vI 12 281)),(en P "__static_attributes__" 283 (r 83)),(en P "__doc__" 284 .none)] 2
def o49:Obj:=(Ź (.type "type") none (Æe (Ŧ "Unlike" [(r 24)] [(r 85),(r 24),↥137,(.type "Exception"),↥58,↥91] 84 "Unlike" true [] [] false none false)) #[(some (r 76)),none,(some (vS "Unlike" 271)),(some (vS "Unlike" 279)),↥71,(some ↥75)])
def o50:Obj:=fiO (.type "super") #[(r 85),(r 85),(r 85)]
def o51:Obj:=fiO ↥39 #[↥51,(r 85)]
def o52:Obj:=sqO ↥10 #[(vS "size" 292)]
def o53:Obj:=fv "width" 8
def o54:Obj:=cd "width" 289 290 291 15 1 88 181 89 90 91 92 293 294
def o55:Obj:=fu "width" 8 3 "roundmill.sizes" 287 93
def o56 (P:Params):Obj:=diO ↥73 #[(en P "__name__" 165 (vS "roundmill.terms" 588)),(en P "__doc__" 166 .none),(en P "__package__" 167 .none),↥122,(en P "__spec__" 169 .none),(en P "__annotations__" 170 (r 6)),(en P "__builtins__" 171 (r 4)),(en P "__file__" 173 (c 172)),(en P "__cached__" 174 .none),(en P "MillError" 206 (r 24)),(en P "NoBits" 222 (r 37)),(en P "NotFinite" 238 (r 49)),(en P "NoWay" 254 (r 61)),(en P "NoFraction" 270 (r 73)),(en P "Unlike" 286 (r 85)),(en P "width" 295 (r 94)),(en P "bias" 302 (r 101)),(en P "low" 309 (r 108)),(en P "sign_bit" 316 (r 115)),(en P "last_field" 323 (r 122)),(en P "endless" 330 (r 129)),(en P "no_number" 337 (r 136)),(en P "check_fraction" 347 (r 143)),(en P "scaled" 356 (r 150)),(en P "height" 366 (r 157)),(en P "rest_by_middle" 375 (r 164)),(en P "rest_of" 383 (r 171)),(en P "cut" 394 (r 178)),(en P "INEXACT" 396 (vI 1 395)),(en P "SMALL" 398 (vI 2 397)),(en P "GREAT" 400 (vI 4 399)),(en P "WRONG" 402 (vI 16 401)),(en P "parted" 414 (r 185)),(en P "kind" 425 (r 192)),(en P "worth" 437 (r 199)),(en P "worth_fraction" 446 (r 206)),(en P "signed" 455 (r 213)),(en P "NAMES" 463 (r 214)),(en P "Way" 518 (r 252)),(en P "way_of" 525 (r 263)),(en P "settled" 543 (r 270)),(en P "lost_flags" 553 (r 277)),(en P "rounded" 565 (r 284)),(en P "total" 573 (r 289)),(en P "nought_sign" 581 (r 296)),(en P "settled_total" 587 (r 301)),(en P "any_none" 595 (r 306)),(en P "number_term" 603 (r 313)),(en P "product_wrong" 613 (r 320)),(en P "product_term" 625 (r 327))] 50
def o57:Obj:=fiO .none #[(z 2),(z 0),(r 20),(z 4),(z 0),(r 33),(z 6),(z 0),(r 45),(z 8),(z 0),(r 57),(z 10),(z 0),(r 69),(z 12),(z 0),(r 81),(z 15),(z 0),(r 93),(z 17),(z 0),(r 100),(z 19),(z 0),(r 107),(z 21),(z 0),(r 114),(z 23),(z 0),(r 121),(z 25),(z 0),(r 128),(z 27),(z 0),(r 135),(z 30),(z 0),(r 142),(z 33),(z 0),(r 149),(z 37),(z 0),(r 156),(z 41),(z 0),(r 163),(z 47),(z 0),(r 170),(z 49),(z 0),(r 177),(z 61),(z 0),(r 184),(z 67),(z 0),(r 191),(z 76),(z 0),(r 198),(z 86),(z 0),(r 205),(z 92),(z 0),(r 212),(z 96),(z 0),(r 220),(z 119),(z 0),(r 262),(z 124),(z 0),(r 269),(z 135),(z 0),(r 276),(z 140),(z 0),(r 283),(z 145),(z 0),(r 288),(z 152),(z 0),(r 295),(z 157),(z 0),(r 300),(z 164),(z 0),(r 305),(z 167),(z 0),(r 312),(z 171),(z 0),(r 319),(z 174),(z 0),(r 326)]
def o58:Obj:=sqO ↥10 #[(vS "size" 299)]
def o59:Obj:=fv "bias" 9
def o60:Obj:=cd "bias" 296 297 298 17 1 95 181 96 97 98 99 300 301
def o61:Obj:=fu "bias" 9 3 "roundmill.sizes" 287 100
def o62:Obj:=sqO ↥10 #[(vS "size" 306)]
def o63:Obj:=fv "low" 10
def o64:Obj:=cd "low" 303 304 305 19 1 102 181 103 104 105 106 307 308
def o65:Obj:=fu "low" 10 3 "roundmill.sizes" 287 107
def o66:Obj:=sqO ↥10 #[(vS "size" 313)]
def o67:Obj:=fv "sign_bit" 11
def o68:Obj:=cd "sign_bit" 310 311 312 21 1 109 181 110 111 112 113 314 315
def o69:Obj:=fu "sign_bit" 11 3 "roundmill.sizes" 287 114
def o70:Obj:=sqO ↥10 #[(vS "size" 320)]
def o71:Obj:=fv "last_field" 12
def o72:Obj:=cd "last_field" 317 318 319 23 1 116 181 117 118 119 120 321 322
def o73:Obj:=fu "last_field" 12 3 "roundmill.sizes" 287 121
def o74:Obj:=sqO ↥10 #[(vS "size" 327)]
def o75:Obj:=fv "endless" 13
def o76:Obj:=cd "endless" 324 325 326 25 1 123 181 124 125 126 127 328 329
def o77:Obj:=fu "endless" 13 3 "roundmill.sizes" 287 128
def o78:Obj:=sqO ↥10 #[(vS "size" 334)]
def o79:Obj:=fv "no_number" 14
def o80:Obj:=cd "no_number" 331 332 333 27 1 130 181 131 132 133 134 335 336
def o81:Obj:=fu "no_number" 14 3 "roundmill.sizes" 287 135
def o82:Obj:=sqO ↥10 #[(vS "top" 343),(vS "bottom" 344)]
def o83:Obj:=fv "check_fraction" 16
def o84:Obj:=cd "check_fraction" 340 341 342 30 2 137 181 138 139 140 141 345 346
def o85:Obj:=fu "check_fraction" 16 3 "roundmill.cutting" 338 142
def o86:Obj:=sqO ↥10 #[(vS "top" 351),(vS "bottom" 352),(vS "power" 353)]
def o87:Obj:=fv "scaled" 17
def o88:Obj:=cd "scaled" 348 349 350 33 3 144 181 145 146 147 148 354 355
def o89:Obj:=fu "scaled" 17 3 "roundmill.cutting" 338 149
def o90:Obj:=sqO ↥10 #[(vS "top" 360),(vS "bottom" 361),(vS "guess" 362),(vS "parts" 363)]
def o91:Obj:=fv "height" 18
def o92:Obj:=cd "height" 357 358 359 37 2 151 181 152 153 154 155 364 365
def o93:Obj:=fu "height" 18 3 "roundmill.cutting" 338 156
def o94:Obj:=sqO ↥10 #[(vS "over" 370),(vS "number" 371),(vS "middle" 372)]
def o95:Obj:=fv "rest_by_middle" 19
def o96:Obj:=cd "rest_by_middle" 367 368 369 41 3 158 181 159 160 161 162 373 374
def o97:Obj:=fu "rest_by_middle" 19 3 "roundmill.cutting" 338 163
def o98:Obj:=sqO ↥10 #[(vS "over" 379),(vS "step" 380)]
def o99:Obj:=fv "rest_of" 20
def O8:Obj:=cd "rest_of" 376 377 378 47 2 165 181 166 167 168 169 381 382
def O7:Obj:=fu "rest_of" 20 3 "roundmill.cutting" 338 170
def O6:Obj:=sqO ↥10 #[(vS "size" 387),(vS "top" 388),(vS "bottom" 389),(vS "power" 390),(vS "parts" 391)]
def QP:Obj:=fv "cut" 21
def O5:Obj:=cd "cut" 384 385 386 49 3 172 181 173 174 175 176 392 393
def O4:Obj:=fu "cut" 21 3 "roundmill.cutting" 338 177
def O3:Obj:=sqO ↥10 #[(vS "size" 408),(vS "bits" 409),(vS "code" 410),(vS "step" 411)]
def QO:Obj:=fv "parted" 27
def O2:Obj:=cd "parted" 405 406 407 61 2 179 181 180 181 182 183 412 413
def O1:Obj:=fu "parted" 27 3 "roundmill.parts" 403 184
def O0:Obj:=sqO ↥10 #[(vS "size" 418),(vS "bits" 419),(vS "parts" 420),(vS "field" 421),(vS "figures" 422)]
def QN:Obj:=fv "kind" 28
def OZ:Obj:=cd "kind" 415 416 417 67 2 186 181 187 188 189 190 423 424
def OY:Obj:=fu "kind" 28 3 "roundmill.parts" 403 191
def OX:Obj:=sqO ↥10 #[(vS "size" 429),(vS "bits" 430),(vS "parts" 431),(vS "sign" 432),(vS "field" 433),(vS "figures" 434)]
def QM:Obj:=fv "worth" 29
def OW:Obj:=cd "worth" 426 427 428 76 2 193 181 194 195 196 197 435 436
def OV:Obj:=fu "worth" 29 3 "roundmill.parts" 403 198
def OU:Obj:=sqO ↥10 #[(vS "value" 441),(vS "whole" 442),(vS "power" 443)]
def QL:Obj:=fv "worth_fraction" 30
def OT:Obj:=cd "worth_fraction" 438 439 440 86 1 200 181 201 202 203 204 444 445
def OS:Obj:=fu "worth_fraction" 30 3 "roundmill.parts" 403 205
def OR:Obj:=sqO ↥10 #[(vS "size" 450),(vS "sign" 451),(vS "code" 452)]
def QK:Obj:=fv "signed" 31
def OP:Obj:=cd "signed" 447 448 449 92 3 207 181 208 209 210 211 453 454
def OO:Obj:=fu "signed" 31 3 "roundmill.parts" 403 212
def ON:Obj:=sqO ↥10 #[(vS "even" 458),(vS "away" 459),(vS "nought" 460),(vS "up" 461),(vS "down" 462)]
def QJ (P:Params):Obj:=diO ↥73 #[(en P "__module__" 471 ↥117),(en P "__qualname__" 473 (vS "Way" 472)),(en P "__firstlineno__" 475 (vI 96 474)),(en P "__init__" 483 (r 228)),(en P "grows" 493 (r 235)),(en P "bursts" 501 (r 242)),(en P "flees_nought" 509 (r 249)),(en P "__static_attributes__" 511 (r 250))] 8
def QI:Obj:=fiO .none #[(z 98),(z 4),(r 227),(z 101),(z 4),(r 234),(z 110),(z 4),(r 241),(z 115),(z 4),(r 248)]
def QH:Obj:=fiO ↥63 #[(vS "Way" 466),(vS "Way" 467),(c 468),(z 96),(z 0),(z 0),(z 0),(z 0),(r 218),(.bool false),(z 181),(r 219),.none,.none,.none,.none,(z 469),(z 96),(c 470)]
def QG:Obj:=(Ź (.type "frame") none Ů #[(some (r 220)),(some (r 3)),(some (r 217)),none,(some ↥117),none,(some (r 0))])
def OM:Obj:=sqO ↥10 #[(vS "self" 479),(vS "name" 480)]
def QF:Obj:=fnO .none "__init__" "Way.__init__" ((cv (T.top 34)).getD 0 ↥36) 0 [] .none .none .none .none none .none .none 0
def OL:Obj:=fiO ↥63 #[(vS "__init__" 476),(vS "Way.__init__" 477),(c 478),(z 98),(z 2),(z 0),(z 0),(z 3),(r 222),↥75,(z 181),(r 223),.none,(r 224),(r 225),(r 226),(z 481),(z 98),(c 482)]
def OK:Obj:=fnO (.type "function") "__init__" "Way.__init__" ((cv (T.top 34)).getD 0 ↥36) 3 [] .none .none .none ↥117 none (r 227) .none 0
def OJ:Obj:=sqO ↥10 #[(vS "self" 487),(vS "sign" 488),(vS "odd" 489),(vS "rest" 490)]
def QE:Obj:=fnO .none "grows" "Way.grows" ((cv (T.top 34)).getD 1 ↥36) 0 [] .none .none .none .none none .none .none 0
def OI:Obj:=fiO ↥63 #[(vS "grows" 484),(vS "Way.grows" 485),(c 486),(z 101),(z 4),(z 0),(z 0),(z 3),(r 229),↥75,(z 181),(r 230),.none,(r 231),(r 232),(r 233),(z 491),(z 101),(c 492)]
def OH:Obj:=fnO (.type "function") "grows" "Way.grows" ((cv (T.top 34)).getD 1 ↥36) 3 [] .none .none .none ↥117 none (r 234) .none 0
def OG:Obj:=sqO ↥10 #[(vS "self" 497),(vS "sign" 498)]
def QD:Obj:=fnO .none "bursts" "Way.bursts" ((cv (T.top 34)).getD 2 ↥36) 0 [] .none .none .none .none none .none .none 0
def OF:Obj:=fiO ↥63 #[(vS "bursts" 494),(vS "Way.bursts" 495),(c 496),(z 110),(z 2),(z 0),(z 0),(z 3),(r 236),↥75,(z 181),(r 237),.none,(r 238),(r 239),(r 240),(z 499),(z 110),(c 500)]
def OE:Obj:=fnO (.type "function") "bursts" "Way.bursts" ((cv (T.top 34)).getD 2 ↥36) 3 [] .none .none .none ↥117 none (r 241) .none 0
def OD:Obj:=sqO ↥10 #[(vS "self" 505),(vS "sign" 506)]
def QC:Obj:=fnO .none "flees_nought" "Way.flees_nought" ((cv (T.top 34)).getD 3 ↥36) 0 [] .none .none .none .none none .none .none 0
def OC:Obj:=fiO ↥63 #[(vS "flees_nought" 502),(vS "Way.flees_nought" 503),(c 504),(z 115),(z 2),(z 0),(z 0),(z 3),(r 243),↥75,(z 181),(r 244),.none,(r 245),(r 246),(r 247),(z 507),(z 115),(c 508)]
def OB:Obj:=fnO (.type "function") "flees_nought" "Way.flees_nought" ((cv (T.top 34)).getD 3 ↥36) 3 [] .none .none .none ↥117 none (r 248) .none 0
def OA:Obj:=sqO ↥10 #[(vS "name" 510)]
def Oz (P:Params):Obj:=diO ↥73 #[(en P "__module__" 471 ↥117),(en P "__firstlineno__" 475 (vI 96 474)),(en P "__init__" 483 (r 228)),(en P "grows" 493 (r 235)),(en P "bursts" 501 (r 242)),(en P "flees_nought" 509 (r 249)),(en P "__static_attributes__" 511 (r 250)),(en P "__dict__" 513 (r 253)),(en P "__weakref__" 515 (r 254)),(en P "__doc__" 516 .none)] 4
def Oy:Obj:=(Ź (.type "type") none (Æe (Ŧ "Way" [↥91] [(r 252),↥91] 251 "Way" true [] [] false none false)) #[none,none,(some (vS "Way" 464)),(some (vS "Way" 472)),(some (.builtin "object.__new__")),(some ↥75)])
def Ox:Obj:=fiO (.type "getset_descriptor") #[(vS "__dict__" 512),(r 252),(.builtin "function.__dict__"),(.builtin "function.__dict__#set")]
def Ow:Obj:=fiO (.type "getset_descriptor") #[(vS "__weakref__" 514),(r 252),(.builtin "ExceptionGroup.__weakref__"),.none]
def QB:Obj:=fiO (.type "super") #[(r 252),(r 252),(r 252)]
def QA:Obj:=fiO ↥39 #[↥51,(r 252)]
def Ov:Obj:=sqO ↥10 #[(vS "name" 522)]
def Qz:Obj:=fv "way_of" 35
def Ou:Obj:=cd "way_of" 519 520 521 119 1 257 181 258 259 260 261 523 524
def Ot:Obj:=fu "way_of" 35 3 "roundmill.ways" 456 262
def Oq:Obj:=sqO ↥10 #[(vS "size" 531),(vS "way" 532),(vS "sign" 533),(vS "whole" 534),(vS "power" 535),(vS "rest" 536),(vS "chosen" 537),(vS "code" 538),(vS "end" 539),(vS "taken" 540)]
def Qy:Obj:=fv "settled" 37
def Oo:Obj:=cd "settled" 528 529 530 124 6 264 181 265 266 267 268 541 542
def Om:Obj:=fu "settled" 37 3 "roundmill.rounding" 526 269
def Ol:Obj:=sqO ↥10 #[(vS "size" 547),(vS "code" 548),(vS "taken" 549),(vS "faint" 550)]
def Qx:Obj:=fv "lost_flags" 38
def Oj:Obj:=cd "lost_flags" 544 545 546 135 3 271 181 272 273 274 275 551 552
def Oi:Obj:=fu "lost_flags" 38 3 "roundmill.rounding" 526 276
def Oh:Obj:=sqO ↥10 #[(vS "size" 557),(vS "way" 558),(vS "sign" 559),(vS "top" 560),(vS "bottom" 561),(vS "parts" 562)]
def Qw:Obj:=fv "rounded" 39
def Og:Obj:=cd "rounded" 554 555 556 140 5 278 181 279 280 281 282 563 564
def Of:Obj:=fu "rounded" 39 3 "roundmill.rounding" 526 283
def Qv:Obj:=fv "total" 41
def Oe:Obj:=fiO ↥63 #[(vS "total" 568),(vS "total" 569),(c 570),(z 145),(z 1),(z 0),(z 0),(z 3),(r 285),↥75,(z 181),(r 286),.none,.none,.none,(r 287),(z 571),(z 145),(c 572)]
def Od:Obj:=fu "total" 41 3 "roundmill.totals" 566 288
def Oc:Obj:=sqO ↥10 #[(vS "way" 577),(vS "signs" 578)]
def Qu:Obj:=fv "nought_sign" 42
def Ob:Obj:=cd "nought_sign" 574 575 576 152 2 290 181 291 292 293 294 579 580
def Oa:Obj:=fu "nought_sign" 42 3 "roundmill.totals" 566 295
def Qt:Obj:=fv "settled_total" 43
def N9:Obj:=fiO ↥63 #[(vS "settled_total" 582),(vS "settled_total" 583),(c 584),(z 157),(z 3),(z 0),(z 0),(z 3),(r 297),↥75,(z 181),(r 298),.none,.none,.none,(r 299),(z 585),(z 157),(c 586)]
def N8:Obj:=fu "settled_total" 43 3 "roundmill.totals" 566 300
def Qs:Obj:=fv "any_none" 45
def N7:Obj:=fiO ↥63 #[(vS "any_none" 590),(vS "any_none" 591),(c 592),(z 164),(z 2),(z 0),(z 0),(z 3),(r 302),↥75,(z 181),(r 303),.none,.none,.none,(r 304),(z 593),(z 164),(c 594)]
def N6:Obj:=fu "any_none" 45 3 "roundmill.terms" 588 305
def N5:Obj:=sqO ↥10 #[(vS "size" 599),(vS "bits" 600)]
def Qr:Obj:=fv "number_term" 46
def N4:Obj:=cd "number_term" 596 597 598 167 2 307 181 308 309 310 311 601 602
def N3:Obj:=fu "number_term" 46 3 "roundmill.terms" 588 312
def N2:Obj:=sqO ↥10 #[(vS "size" 607),(vS "a" 608),(vS "b" 609),(vS "kinds" 610)]
def Qq:Obj:=fv "product_wrong" 47
def N1:Obj:=cd "product_wrong" 604 605 606 171 3 314 181 315 316 317 318 611 612
def NZ:Obj:=fu "product_wrong" 47 3 "roundmill.terms" 588 319
def NY:Obj:=sqO ↥10 #[(vS "size" 617),(vS "a" 618),(vS "b" 619),(vS "left" 620),(vS "right" 621),(vS "sign" 622)]
def Qp:Obj:=fv "product_term" 48
def NX:Obj:=cd "product_term" 614 615 616 174 3 321 181 322 323 324 325 623 624
def NW:Obj:=fu "product_term" 48 3 "roundmill.terms" 588 326
def NV (P:Params):Obj:=diO ↥73 #[(en P "__name__" 165 (vS "law_roundmill_k37_gathered_in_any_order" 659)),(en P "__doc__" 166 .none),(en P "__package__" 167 .none),↥122,(en P "__spec__" 169 .none),(en P "__annotations__" 170 (r 6)),(en P "__builtins__" 171 (r 4)),(en P "__file__" 173 (c 172)),(en P "__cached__" 174 .none),(en P "MillError" 206 (r 24)),(en P "NoBits" 222 (r 37)),(en P "NotFinite" 238 (r 49)),(en P "NoWay" 254 (r 61)),(en P "NoFraction" 270 (r 73)),(en P "Unlike" 286 (r 85)),(en P "width" 295 (r 94)),(en P "bias" 302 (r 101)),(en P "low" 309 (r 108)),(en P "sign_bit" 316 (r 115)),(en P "last_field" 323 (r 122)),(en P "endless" 330 (r 129)),(en P "no_number" 337 (r 136)),(en P "check_fraction" 347 (r 143)),(en P "scaled" 356 (r 150)),(en P "height" 366 (r 157)),(en P "rest_by_middle" 375 (r 164)),(en P "rest_of" 383 (r 171)),(en P "cut" 394 (r 178)),(en P "INEXACT" 396 (vI 1 395)),(en P "SMALL" 398 (vI 2 397)),(en P "GREAT" 400 (vI 4 399)),(en P "WRONG" 402 (vI 16 401)),(en P "parted" 414 (r 185)),(en P "kind" 425 (r 192)),(en P "worth" 437 (r 199)),(en P "worth_fraction" 446 (r 206)),(en P "signed" 455 (r 213)),(en P "NAMES" 463 (r 214)),(en P "Way" 518 (r 252)),(en P "way_of" 525 (r 263)),(en P "settled" 543 (r 270)),(en P "lost_flags" 553 (r 277)),(en P "rounded" 565 (r 284)),(en P "total" 573 (r 289)),(en P "nought_sign" 581 (r 296)),(en P "settled_total" 587 (r 301)),(en P "any_none" 595 (r 306)),(en P "number_term" 603 (r 313)),(en P "product_wrong" 613 (r 320)),(en P "product_term" 625 (r 327)),(en P "settled_terms" 631 (r 332)),(en P "settled_sum" 637 (r 337)),(en P "gathered" 649 (r 344)),(en P "summed" 658 (r 351)),(en P "_law_cell_at" 668 (r 358)),(en P "_law_whole" 675 (r 365)),(en P "_law_size_by" 684 (r 372)),(en P "_law_way_by" 691 (r 379)),(en P "_law_bits_by" 705 (r 386)),(en P "_law_finite_by" 722 (r 393)),(en P "_law_rows_by" 728 (r 398)),(en P "_law_clean" 739 (r 405)),(en P "_law_built" 754 (r 412)),(en P "_law_placed" 765 (r 419)),(en P "_law_good" 773 (r 426)),(en P "law" 779 (r 431))] 66
def Qo:Obj:=fiO .none #[(z 2),(z 0),(r 20),(z 4),(z 0),(r 33),(z 6),(z 0),(r 45),(z 8),(z 0),(r 57),(z 10),(z 0),(r 69),(z 12),(z 0),(r 81),(z 15),(z 0),(r 93),(z 17),(z 0),(r 100),(z 19),(z 0),(r 107),(z 21),(z 0),(r 114),(z 23),(z 0),(r 121),(z 25),(z 0),(r 128),(z 27),(z 0),(r 135),(z 30),(z 0),(r 142),(z 33),(z 0),(r 149),(z 37),(z 0),(r 156),(z 41),(z 0),(r 163),(z 47),(z 0),(r 170),(z 49),(z 0),(r 177),(z 61),(z 0),(r 184),(z 67),(z 0),(r 191),(z 76),(z 0),(r 198),(z 86),(z 0),(r 205),(z 92),(z 0),(r 212),(z 96),(z 0),(r 220),(z 119),(z 0),(r 262),(z 124),(z 0),(r 269),(z 135),(z 0),(r 276),(z 140),(z 0),(r 283),(z 145),(z 0),(r 288),(z 152),(z 0),(r 295),(z 157),(z 0),(r 300),(z 164),(z 0),(r 305),(z 167),(z 0),(r 312),(z 171),(z 0),(r 319),(z 174),(z 0),(r 326),(z 181),(z 0),(r 331),(z 188),(z 0),(r 336),(z 200),(z 0),(r 343),(z 205),(z 0),(r 350),(z 208),(z 0),(r 357),(z 212),(z 0),(r 364),(z 214),(z 0),(r 371),(z 222),(z 0),(r 378),(z 224),(z 0),(r 385),(z 245),(z 0),(r 392),(z 265),(z 0),(r 397),(z 280),(z 0),(r 404),(z 288),(z 0),(r 411),(z 303),(z 0),(r 418),(z 311),(z 0),(r 425),(z 315),(z 0),(r 430)]
def Qn:Obj:=fv "settled_terms" 49
def NU:Obj:=fiO ↥63 #[(vS "settled_terms" 626),(vS "settled_terms" 627),(c 628),(z 181),(z 3),(z 0),(z 0),(z 3),(r 328),↥75,(z 181),(r 329),.none,.none,.none,(r 330),(z 629),(z 181),(c 630)]
def NT:Obj:=fu "settled_terms" 49 3 "roundmill.terms" 588 331
def Qm:Obj:=fv "settled_sum" 50
def NS:Obj:=fiO ↥63 #[(vS "settled_sum" 632),(vS "settled_sum" 633),(c 634),(z 188),(z 4),(z 0),(z 0),(z 3),(r 333),↥75,(z 181),(r 334),.none,.none,.none,(r 335),(z 635),(z 188),(c 636)]
def NR:Obj:=fu "settled_sum" 50 3 "roundmill.terms" 588 336
def NQ:Obj:=sqO ↥10 #[(vS "size" 643),(vS "way" 644),(vS "xs" 645),(vS "ys" 646)]
def Ql:Obj:=fv "gathered" 52
def NP:Obj:=cd "gathered" 640 641 642 200 4 338 181 339 340 341 342 647 648
def NO:Obj:=fu "gathered" 52 3 "roundmill.rows" 638 343
def NN:Obj:=sqO ↥10 #[(vS "size" 653),(vS "way" 654),(vS "xs" 655)]
def Qk:Obj:=fv "summed" 53
def NM:Obj:=cd "summed" 650 651 652 205 3 345 181 346 347 348 349 656 657
def NL:Obj:=fu "summed" 53 3 "roundmill.rows" 638 350
def NK:Obj:=sqO ↥10 #[(vS "_law_script" 664),(vS "_law_k" 665)]
def Qj:Obj:=fv "_law_cell_at" 55
def NJ:Obj:=cd "_law_cell_at" 661 662 663 208 2 352 181 353 354 355 356 666 667
def NI:Obj:=fu "_law_cell_at" 55 3 "law_roundmill_k37_gathered_in_any_order" 659 357
def NH:Obj:=sqO ↥10 #[(vS "_law_found" 672)]
def Qi:Obj:=fv "_law_whole" 56
def NG:Obj:=cd "_law_whole" 669 670 671 212 1 359 181 360 361 362 363 673 674
def NF:Obj:=fu "_law_whole" 56 3 "law_roundmill_k37_gathered_in_any_order" 659 364
def ND:Obj:=sqO ↥10 #[(vS "_law_cell" 679),(vS "_law_way" 680),(vS "_law_rest" 681)]
def Qh:Obj:=fv "_law_size_by" 57
def NC:Obj:=cd "_law_size_by" 676 677 678 214 1 366 181 367 368 369 370 682 683
def NA:Obj:=fu "_law_size_by" 57 3 "law_roundmill_k37_gathered_in_any_order" 659 371
def Nz:Obj:=sqO ↥10 #[(vS "_law_cell" 688)]
def Qg:Obj:=fv "_law_way_by" 58
def Ny:Obj:=cd "_law_way_by" 685 686 687 222 1 373 181 374 375 376 377 689 690
def Nx:Obj:=fu "_law_way_by" 58 3 "law_roundmill_k37_gathered_in_any_order" 659 378
def Nw:Obj:=sqO ↥10 #[(vS "_law_size" 695),(vS "_law_cell" 696),(vS "_law_half" 697),(vS "_law_last" 698),(vS "_law_way" 699),(vS "_law_rest" 700),(vS "_law_side" 701),(vS "_law_figures" 702)]
def Qe:Obj:=fv "_law_bits_by" 59
def Nv:Obj:=cd "_law_bits_by" 692 693 694 224 2 380 181 381 382 383 384 703 704
def Nu:Obj:=fu "_law_bits_by" 59 3 "law_roundmill_k37_gathered_in_any_order" 659 385
def Nt:Obj:=sqO ↥10 #[(vS "_law_size" 709),(vS "_law_cell" 710),(vS "_law_half" 711),(vS "_law_last" 712),(vS "_law_way" 713),(vS "_law_rest" 714),(vS "_law_mixed" 715),(vS "_law_side" 716),(vS "_law_middle" 717),(vS "_law_field" 718),(vS "_law_figures" 719)]
def Qd:Obj:=fv "_law_finite_by" 60
def Nr:Obj:=cd "_law_finite_by" 706 707 708 245 2 387 181 388 389 390 391 720 721
def Nq:Obj:=fu "_law_finite_by" 60 3 "law_roundmill_k37_gathered_in_any_order" 659 392
def Qc:Obj:=fv "_law_rows_by" 61
def Np:Obj:=fiO ↥63 #[(vS "_law_rows_by" 723),(vS "_law_rows_by" 724),(c 725),(z 265),(z 3),(z 0),(z 0),(z 3),(r 394),↥75,(z 181),(r 395),.none,.none,.none,(r 396),(z 726),(z 265),(c 727)]
def Nn:Obj:=fu "_law_rows_by" 61 3 "law_roundmill_k37_gathered_in_any_order" 659 397
def Nm:Obj:=sqO ↥10 #[(vS "_law_size" 732),(vS "_law_bits" 733),(vS "_law_plan" 734),(vS "_law_half" 735),(vS "_law_last" 736)]
def Qb:Obj:=fv "_law_clean" 62
def Nl:Obj:=cd "_law_clean" 729 730 731 280 3 399 181 400 401 402 403 737 738
def Nk:Obj:=fu "_law_clean" 62 3 "law_roundmill_k37_gathered_in_any_order" 659 404
def Nj:Obj:=sqO ↥10 #[(vS "_law_size" 743),(vS "_law_cells" 744),(vS "_law_plan" 745),(vS "_law_half" 746),(vS "_law_xs" 747),(vS "_law_ys" 748),(vS "_law_k" 749),(vS "_law_x" 750),(vS "_law_y" 751)]
def Qa:Obj:=fv "_law_built" 63
def Ni:Obj:=cd "_law_built" 740 741 742 288 3 406 181 407 408 409 410 752 753
def Nh:Obj:=fu "_law_built" 63 3 "law_roundmill_k37_gathered_in_any_order" 659 411
def Ng:Obj:=sqO ↥10 #[(vS "_law_size" 758),(vS "_law_x" 759),(vS "_law_y" 760),(vS "_law_way" 761),(vS "_law_half" 762)]
def P9:Obj:=fv "_law_placed" 64
def Nf:Obj:=cd "_law_placed" 755 756 757 303 4 413 181 414 415 416 417 763 764
def Nd:Obj:=fu "_law_placed" 64 3 "law_roundmill_k37_gathered_in_any_order" 659 418
def Nc:Obj:=sqO ↥10 #[(vS "_law_size" 769),(vS "_law_found" 770)]
def P8:Obj:=fv "_law_good" 65
def Nb:Obj:=cd "_law_good" 766 767 768 311 2 420 181 421 422 423 424 771 772
def Na:Obj:=fu "_law_good" 65 3 "law_roundmill_k37_gathered_in_any_order" 659 425
def P7:Obj:=fv "law" 66
def M9:Obj:=fiO ↥63 #[(vS "law" 774),(vS "law" 775),(c 776),(z 315),(z 1),(z 0),(z 0),(z 3),(r 427),↥75,(z 181),(r 428),.none,.none,.none,(r 429),(z 777),(z 315),(c 778)]
def M8:Obj:=fu "law" 66 3 "law_roundmill_k37_gathered_in_any_order" 659 430
def full (P:Params):BT:=(B (boot_o_0 P) (B (boot_o_1 P) (B (NV P) (B (boot_o_7 P) (B o6 (B o0 (B o37 (B o75 (L QB) (L o0)) (B OZ (L N1) N)) (B o0 (B o1 (L Qv) (L Ng)) (B o1 (L NL) N))) (B o0 (B o0 (B o85 (L o0) (L o0)) (B o0 (L Qm) N)) (B o66 (B o0 (L o1) (L M8)) (B o0 (L o1) N)))) (B (o11 P) (B o23 (B o0 (B o80 (L Ot) (L Qd)) (B OV (L NW) N)) (B o1 (B o98 (L Ob) (L o0)) (B OJ (L o0) N))) (B o0 (B o51 (B o0 (L o1) (L o1)) (B o0 (L NP) N)) (B o0 (B QO (L Qr) N) (B QC (L Nz) N))))) (B o0 (B o1 (B o0 (B o0 (B o1 (L Ov) (L o0)) (B OX (L NY) N)) (B o59 (B o96 (L o1) (L Nd)) (B OL (L o0) N))) (B o30 (B o0 (B o0 (L Qx) (L Qb)) (B QK (L o1) N)) (B o69 (B o0 (L o0) N) (B o0 (L NC) N)))) (B o15 (B o0 (B o44 (B o82 (L o0) (L o1)) (B o0 (L NU) N)) (B o64 (B O7 (L Qt) (L o0)) (B OH (L Qi) N))) (B o0 (B o0 (B o91 (L Og) (L Ni)) (B QI (L NN) N)) (B o0 (B o1 (L o1) N) (B (Oz P) (L Nx) N)))))) (B (boot_o_5 P) (B (boot_o_9 P) (B (o8 P) (B o18 (B o7 (B o77 (L o0) (L Nv)) (B o0 (L o0) N)) (B o58 (B o0 (L Od) (L P9)) (B o0 (L o1) N))) (B o28 (B o46 (B o1 (L Ol) (L Nm)) (B OR (L NR) N)) (B o67 (B O5 (L N7) N) (B OF (L o0) N)))) (B o13 (B o7 (B o42 (B o0 (L o1) (L Nq)) (B o1 (L o1) N)) (B o0 (B o99 (L o0) (L Nb)) (B QE (L NH) N))) (B o32 (B o1 (B o90 (L o0) (L o0)) (B (QJ P) (L o0) N)) (B o72 (B O1 (L N3) N) (B OB (L Qg) N))))) (B o2 (B o10 (B o21 (B o39 (B o0 (L Qz) (L Nt)) (B QM (L Qp) N)) (B o61 (B o0 (L o0) (L o1)) (B o0 (L NJ) N))) (B o7 (B o49 (B o88 (L Oi) (L Nk)) (B OO (L o0) N)) (B o1 (B O3 (L N5) N) (B OD (L o0) N)))) (B o7 (B o25 (B o7 (B o83 (L Oo) (L Np)) (B OT (L o0) N)) (B o0 (B o1 (L N8) (L P7)) (B o1 (L NF) N))) (B o35 (B o54 (B o93 (L o0) (L o0)) (B QG (L Qk) N)) (B o74 (B o0 (L o0) N) (B Ox (L o1) N))))))) (B (boot_o_2 P) (B (boot_o_4 P) (B (boot_o_8 P) (B o7 (B o1 (B o16 (B o76 (L QA) (L Qe)) (B OY (L NZ) N)) (B o1 (B o94 (L Oe) (L o0)) (B OM (L o0) N))) (B (o27 P) (B o1 (B o0 (L o1) (L o1)) (B o1 (L NS) N)) (B o0 (B QP (L Qs) N) (B QD (L ND) N)))) (B o12 (B o16 (B (o41 P) (B o81 (L o0) (L Nr)) (B o0 (L o0) N)) (B o62 (B o0 (L Oa) (L P8)) (B o0 (L o1) N))) (B o1 (B o0 (B o1 (L Oh) (L Nj)) (B o7 (L NO) N)) (B o71 (B O2 (L N4) N) (B OC (L o0) N))))) (B Qo (B o9 (B (o20 P) (B o1 (B o78 (L o0) (L o1)) (B o0 (L o0) N)) (B o60 (B o97 (L Oc) (L o0)) (B OK (L Qj) N))) (B o16 (B (o48 P) (B o87 (L Oj) (L Nl)) (B OP (L NQ) N)) (B o0 (B o1 (L o1) N) (B o1 (L NA) N)))) (B o16 (B o1 (B o16 (B o0 (L Qy) (L Qc)) (B QL (L NT) N)) (B o65 (B o0 (L N9) (L o1)) (B o0 (L NG) N))) (B (o34 P) (B o53 (B o92 (L Of) (L Nh)) (B QH (L o0) N)) (B o1 (B O0 (L N2) N) (B Oy (L o0) N)))))) (B (boot_o_6 P) (B (boot_o_10 P) (B o0 (B o19 (B (o38 P) (B o0 (L o1) (L Nu)) (B o1 (L o1) N)) (B o0 (B o95 (L o0) (L Nf)) (B QF (L NK) N))) (B o29 (B o47 (B o86 (L o0) (L o0)) (B o0 (L o0) N)) (B o68 (B O4 (L N6) N) (B OE (L Qh) N)))) (B o14 (B (o24 P) (B o43 (B o1 (L Oq) (L o0)) (B OU (L Qn) N)) (B o63 (B O8 (L o1) (L Na)) (B OI (L o0) N))) (B o33 (B o52 (B o0 (L Qw) (L Qa)) (B o0 (L o1) N)) (B o73 (B o0 (L o0) N) (B OA (L Ny) N))))) (B o3 (B o0 (B o22 (B o40 (B o79 (L Ou) (L o0)) (B OW (L NX) N)) (B o0 (B o1 (L Qu) (L Nc)) (B o1 (L NI) N))) (B (o31 P) (B o50 (B o89 (L o0) (L o0)) (B ON (L Ql) N)) (B o70 (B o0 (L o0) N) (B o0 (L o1) N)))) (B (o17 P) (B o26 (B (o45 P) (B o84 (L Om) (L Nn)) (B OS (L o1) N)) (B o1 (B O6 (L o0) (L M9)) (B OG (L o0) N))) (B o36 (B o55 (B o0 (L o1) (L o1)) (B o0 (L NM) N)) (B o0 (B QN (L Qq) N) (B Ow (L Nw) N))))))))
def t_0 (P:Params):BT:=(((cut 15 (full P) 1 0).ins 3 (boot_o_3 P)).ins 12 (o1))
def t_1 (P:Params):BT:=(((cut 95 (full P) 1 0).ins 3 (o4 P)).ins 12 (o5))
def t_2 (P:Params):BT:=(((cut 328 (full P) 1 0).ins 3 (o56 P)).ins 12 (o57))
def t_3 (P:Params):BT:=(cut 432 (full P) 1 0)
def ha (P:Params):Heap:=⟨⟨[boot_o_0 P,boot_o_1 P,boot_o_2 P,boot_o_3 P,boot_o_4 P,boot_o_5 P,boot_o_6 P,boot_o_7 P,boot_o_8 P,boot_o_9 P,boot_o_10 P,o0,o1,o2,o3]⟩,↥2⟩
def hf (P:Params):Heap:=absHeap (full P) 432 ↥2
def K (P:Params):Frag:=(nat_lit 2,boot_o_2 P)::(nat_lit 3,NV P)::(nat_lit 15,o6)::(nat_lit 22,o0)::(nat_lit 23,o11 P)::(nat_lit 24,o12)::(nat_lit 25,o13)::(nat_lit 28,o16)::(nat_lit 35,o0)::(nat_lit 36,o20 P)::(nat_lit 37,o21)::(nat_lit 40,o16)::(nat_lit 47,o0)::(nat_lit 48,o27 P)::(nat_lit 49,o28)::(nat_lit 52,o16)::(nat_lit 59,o0)::(nat_lit 60,o34 P)::(nat_lit 61,o35)::(nat_lit 64,o16)::(nat_lit 71,o0)::(nat_lit 72,o41 P)::(nat_lit 73,o42)::(nat_lit 76,o16)::(nat_lit 83,o0)::(nat_lit 84,o48 P)::(nat_lit 85,o49)::(nat_lit 88,o0)::(nat_lit 90,o52)::(nat_lit 91,o0)::(nat_lit 93,o54)::(nat_lit 94,o55)::(nat_lit 95,o0)::(nat_lit 97,o58)::(nat_lit 98,o0)::(nat_lit 100,o60)::(nat_lit 101,o61)::(nat_lit 102,o0)::(nat_lit 104,o62)::(nat_lit 105,o0)::(nat_lit 107,o64)::(nat_lit 108,o65)::(nat_lit 109,o0)::(nat_lit 111,o66)::(nat_lit 112,o0)::(nat_lit 114,o68)::(nat_lit 115,o69)::(nat_lit 116,o0)::(nat_lit 118,o70)::(nat_lit 119,o0)::(nat_lit 121,o72)::(nat_lit 122,o73)::(nat_lit 123,o0)::(nat_lit 125,o74)::(nat_lit 126,o0)::(nat_lit 128,o76)::(nat_lit 129,o77)::(nat_lit 130,o0)::(nat_lit 132,o78)::(nat_lit 133,o0)::(nat_lit 135,o80)::(nat_lit 136,o81)::(nat_lit 137,o0)::(nat_lit 139,o82)::(nat_lit 140,o0)::(nat_lit 142,o84)::(nat_lit 143,o85)::(nat_lit 144,o0)::(nat_lit 146,o86)::(nat_lit 147,o0)::(nat_lit 149,o88)::(nat_lit 150,o89)::(nat_lit 151,o0)::(nat_lit 153,o90)::(nat_lit 154,o0)::(nat_lit 156,o92)::(nat_lit 157,o93)::(nat_lit 158,o0)::(nat_lit 160,o94)::(nat_lit 161,o0)::(nat_lit 163,o96)::(nat_lit 164,o97)::(nat_lit 165,o0)::(nat_lit 167,o98)::(nat_lit 168,o0)::(nat_lit 170,O8)::(nat_lit 171,O7)::(nat_lit 172,o0)::(nat_lit 174,O6)::(nat_lit 175,o0)::(nat_lit 177,O5)::(nat_lit 178,O4)::(nat_lit 179,o0)::(nat_lit 181,O3)::(nat_lit 182,o0)::(nat_lit 184,O2)::(nat_lit 185,O1)::(nat_lit 186,o0)::(nat_lit 188,O0)::(nat_lit 189,o0)::(nat_lit 191,OZ)::(nat_lit 192,OY)::(nat_lit 193,o0)::(nat_lit 195,OX)::(nat_lit 196,o0)::(nat_lit 198,OW)::(nat_lit 199,OV)::(nat_lit 200,o0)::(nat_lit 202,OU)::(nat_lit 203,o0)::(nat_lit 205,OT)::(nat_lit 206,OS)::(nat_lit 207,o0)::(nat_lit 209,OR)::(nat_lit 210,o0)::(nat_lit 212,OP)::(nat_lit 213,OO)::(nat_lit 214,ON)::(nat_lit 222,o0)::(nat_lit 224,OM)::(nat_lit 225,o0)::(nat_lit 227,OL)::(nat_lit 228,OK)::(nat_lit 229,o0)::(nat_lit 231,OJ)::(nat_lit 232,o0)::(nat_lit 234,OI)::(nat_lit 235,OH)::(nat_lit 236,o0)::(nat_lit 238,OG)::(nat_lit 239,o0)::(nat_lit 241,OF)::(nat_lit 242,OE)::(nat_lit 243,o0)::(nat_lit 245,OD)::(nat_lit 246,o0)::(nat_lit 248,OC)::(nat_lit 249,OB)::(nat_lit 250,OA)::(nat_lit 251,Oz P)::(nat_lit 252,Oy)::(nat_lit 253,Ox)::(nat_lit 254,Ow)::(nat_lit 257,o0)::(nat_lit 259,Ov)::(nat_lit 260,o0)::(nat_lit 262,Ou)::(nat_lit 263,Ot)::(nat_lit 264,o0)::(nat_lit 266,Oq)::(nat_lit 267,o0)::(nat_lit 269,Oo)::(nat_lit 270,Om)::(nat_lit 271,o0)::(nat_lit 273,Ol)::(nat_lit 274,o0)::(nat_lit 276,Oj)::(nat_lit 277,Oi)::(nat_lit 278,o0)::(nat_lit 280,Oh)::(nat_lit 281,o0)::(nat_lit 283,Og)::(nat_lit 284,Of)::(nat_lit 285,o0)::(nat_lit 288,Oe)::(nat_lit 289,Od)::(nat_lit 290,o0)::(nat_lit 292,Oc)::(nat_lit 293,o0)::(nat_lit 295,Ob)::(nat_lit 296,Oa)::(nat_lit 297,o0)::(nat_lit 300,N9)::(nat_lit 301,N8)::(nat_lit 302,o0)::(nat_lit 305,N7)::(nat_lit 306,N6)::(nat_lit 307,o0)::(nat_lit 309,N5)::(nat_lit 310,o0)::(nat_lit 312,N4)::(nat_lit 313,N3)::(nat_lit 314,o0)::(nat_lit 316,N2)::(nat_lit 317,o0)::(nat_lit 319,N1)::(nat_lit 320,NZ)::(nat_lit 321,o0)::(nat_lit 323,NY)::(nat_lit 324,o0)::(nat_lit 326,NX)::(nat_lit 327,NW)::(nat_lit 328,o0)::(nat_lit 331,NU)::(nat_lit 332,NT)::(nat_lit 333,o0)::(nat_lit 336,NS)::(nat_lit 337,NR)::(nat_lit 338,o0)::(nat_lit 340,NQ)::(nat_lit 341,o0)::(nat_lit 343,NP)::(nat_lit 344,NO)::(nat_lit 345,o0)::(nat_lit 347,NN)::(nat_lit 348,o0)::(nat_lit 350,NM)::(nat_lit 351,NL)::(nat_lit 352,o0)::(nat_lit 354,NK)::(nat_lit 355,o0)::(nat_lit 357,NJ)::(nat_lit 358,NI)::(nat_lit 359,o0)::(nat_lit 361,NH)::(nat_lit 362,o0)::(nat_lit 364,NG)::(nat_lit 365,NF)::(nat_lit 366,o0)::(nat_lit 368,ND)::(nat_lit 369,o0)::(nat_lit 371,NC)::(nat_lit 372,NA)::(nat_lit 373,o0)::(nat_lit 375,Nz)::(nat_lit 376,o0)::(nat_lit 378,Ny)::(nat_lit 379,Nx)::(nat_lit 380,o0)::(nat_lit 382,Nw)::(nat_lit 383,o0)::(nat_lit 385,Nv)::(nat_lit 386,Nu)::(nat_lit 387,o0)::(nat_lit 389,Nt)::(nat_lit 390,o0)::(nat_lit 392,Nr)::(nat_lit 393,Nq)::(nat_lit 394,o0)::(nat_lit 397,Np)::(nat_lit 398,Nn)::(nat_lit 399,o0)::(nat_lit 401,Nm)::(nat_lit 402,o0)::(nat_lit 404,Nl)::(nat_lit 405,Nk)::(nat_lit 406,o0)::(nat_lit 408,Nj)::(nat_lit 409,o0)::(nat_lit 411,Ni)::(nat_lit 412,Nh)::(nat_lit 413,o0)::(nat_lit 415,Ng)::(nat_lit 416,o0)::(nat_lit 418,Nf)::(nat_lit 419,Nd)::(nat_lit 420,o0)::(nat_lit 422,Nc)::(nat_lit 423,o0)::(nat_lit 425,Nb)::(nat_lit 426,Na)::(nat_lit 427,o0)::(nat_lit 430,M9)::(nat_lit 431,M8)::[]
def as:List Addr:=[2,3,15,22,23,24,25,28,35,36,37,40,47,48,49,52,59,60,61,64,71,72,73,76,83,84,85,88,90,91,93,94,95,97,98,100,101,102,104,105,107,108,109,111,112,114,115,116,118,119,121,122,123,125,126,128,129,130,132,133,135,136,137,139,140,142,143,144,146,147,149,150,151,153,154,156,157,158,160,161,163,164,165,167,168,170,171,172,174,175,177,178,179,181,182,184,185,186,188,189,191,192,193,195,196,198,199,200,202,203,205,206,207,209,210,212,213,214,222,224,225,227,228,229,231,232,234,235,236,238,239,241,242,243,245,246,248,249,250,251,252,253,254,257,259,260,262,263,264,266,267,269,270,271,273,274,276,277,278,280,281,283,284,285,288,289,290,292,293,295,296,297,300,301,302,305,306,307,309,310,312,313,314,316,317,319,320,321,323,324,326,327,328,331,332,333,336,337,338,340,341,343,344,345,347,348,350,351,352,354,355,357,358,359,361,362,364,365,366,368,369,371,372,373,375,376,378,379,380,382,383,385,386,387,389,390,392,393,394,397,398,399,401,402,404,405,406,408,409,411,412,413,415,416,418,419,420,422,423,425,426,427,430,431]
def env:Env:={ scope:=À.main.scope,locals:=mainNs,globals:=mainNs,cells:=[],code:=(.ref 13),frame:=some 14 }
def Ef:List Stmt:=[T.top 0,T.top 1,T.top 2,T.top 3,T.top 4,T.top 5,T.top 6,T.top 7,T.top 8]
def Ee:List Stmt:=[T.top 9,T.top 10,T.top 11,T.top 12,T.top 13,T.top 14,T.top 15,T.top 16,T.top 17,T.top 18,T.top 19,T.top 20,T.top 21,T.top 22,T.top 23,T.top 24,T.top 25,T.top 26,T.top 27,T.top 28,T.top 29,T.top 30,T.top 31,T.top 32,T.top 33,T.top 34,T.top 35,T.top 36,T.top 37,T.top 38,T.top 39,T.top 40,T.top 41,T.top 42,T.top 43,T.top 44,T.top 45,T.top 46,T.top 47,T.top 48]
def Ed:List Stmt:=[T.top 49,T.top 50,T.top 51,T.top 52,T.top 53,T.top 54,T.top 55,T.top 56,T.top 57,T.top 58,T.top 59,T.top 60,T.top 61,T.top 62,T.top 63,T.top 64,T.top 65,T.top 66]
def q:Program:=PySem.W.view À [1,2,3,4,5,6,8,9,10,11,12,13,14,16,17,18,19,20,21,22,23,24,25,27,28,29,30,31,33,34,35,37,38,39,41,42,43,45,46,47,48,49,50,52,53,55,56,57,58,59,60,61,62,63,64,65,66]
end
end H
namespace H
open PySem PySem.W PySem.Calls PySem.Spec PyProof.Rows L2 EV ES
noncomputable section
def cB:Code:=Code.body (behindTheImports À) env
def row:RowW:=OpenRow.toRowW (OpenLaw.row PySem.Challenge.rw_roundmill_k37_gathered_in_any_order)
def Xt (s:Shared):Bool:=xlAt q [] s&&recOk (RowW.records row) s
end
theorem Pf:(fun (_:Program) (_:Program) (_:Env) (_:Code) (_:Shared->Bool)=>true) À q env cB Xt=true:=by k_qdec
set_option maxHeartbeats 0 in
theorem Lq:∀ w:World,(fun os:OsState=>topGo treeTable À w 11 (some (.ref 6)) 12 (Ëh (boot_heap w.params) (Array.mk []) boot_drawn boot_toks os) (topStub À))=fun os:OsState=>some ((Ëh (ha w.params) ⟨[]⟩ (Ãf 0 0 0 0) 187 os),Thread.mk (denote treeTable cB) cB ↥92 [topFrame ↥92]):=by
 rewrite [PySem.W.Fast.te15667345088766844465,ù,PySem.W.Fast.te7980632443135047528,PySem.W.Fast.te11892475500146522536,PySem.W.Fast.te2060423359788512156]
 intro w
 kernel_rfl
set_option maxHeartbeats 0 in
theorem Ea:∀ w:World,(fun os:OsState=>segRun treeTable À w 11 (some (.ref 6)) 1 1 (Ëh (ha w.params) ⟨[]⟩ (Ãf 0 0 0 0) 187 os) (blockOf (behindTheImports À) env cB ↥92 [topFrame ↥92]))=fun os:OsState=>some (Êa,(Éd ↥49),cB,↥92):=by
 rewrite [PySem.W.Fast.te14374325043358763698,ù,PySem.W.Fast.te7980632443135047528,PySem.W.Fast.te2060423359788512156]
 intro w
 kernel_rfl
set_option maxHeartbeats 0 in
theorem Px:∀ w:World,(fun os:OsState=>segRunT treeTable À w 11 (some (.ref 6)) 1 1299 ↥49 (piecesOf Ef env cB ↥92 [topFrame ↥92]))=fun os:OsState=>some (Êa,(Ãg (t_1 w.params) 95 ↥2 ⟨[]⟩ (Ãf 0 0 0 0) 296 os),cB,(Pos.mk 15 0 16 32)):=by
 rewrite [ķ,ù,PySem.W.Fast.te7980632443135047528,PySem.W.Fast.te2060423359788512156]
 intro w
 kernel_rfl
set_option maxHeartbeats 0 in
theorem Pw:∀ w:World,(fun os:OsState=>segRunT treeTable À w 11 (some (.ref 6)) 1 1285 (Ãg (t_1 w.params) 95 ↥2 ⟨[]⟩ (Ãf 0 0 0 0) 296 os) (piecesOf Ee env cB (Pos.mk 15 0 16 32) [topFrame ↥92]))=fun os:OsState=>some (Êa,(Ãg (t_2 w.params) 328 ↥2 ⟨[]⟩ (Ãf 0 0 0 0) 626 os),cB,(Pos.mk 174 0 180 57)):=by
 rewrite [ķ,ù,PySem.W.Fast.te7980632443135047528,PySem.W.Fast.te2060423359788512156]
 intro w
 kernel_rfl
set_option maxHeartbeats 0 in
theorem Pu:∀ w:World,(fun os:OsState=>segRunT treeTable À w 11 (some (.ref 6)) 1 513 (Ãg (t_2 w.params) 328 ↥2 ⟨[]⟩ (Ãf 0 0 0 0) 626 os) (piecesOf Ed env cB (Pos.mk 174 0 180 57) [topFrame ↥92]))=fun os:OsState=>some (Êa,(Ãg (t_3 w.params) 432 ↥2 ⟨[]⟩ (Ãf 0 0 0 0) 780 os),cB,(Pos.mk 315 0 331 131)):=by
 rewrite [ķ,ù,PySem.W.Fast.te7980632443135047528,PySem.W.Fast.te2060423359788512156]
 intro w
 kernel_rfl
set_option maxHeartbeats 0 in
theorem Lr:∀ w:World,(fun os:OsState=>topRun treeTable À w 11 (some (.ref 6)) 2 (Éd (Ãg (t_3 w.params) 432 ↥2 ⟨[]⟩ (Ãf 0 0 0 0) 780 os)) (Thread.mk (doneF Êa) cB (Pos.mk 315 0 331 131) [topFrame ↥92]))=fun os:OsState=>some ↥8:=by
 rewrite [PySem.W.Fast.te14082659384304107361,ù,PySem.W.Fast.te7980632443135047528,PySem.W.Fast.te2060423359788512156]
 intro w
 kernel_rfl
set_option maxHeartbeats 0 in
theorem HN:∀ w:World,((boot_heap w.params).isNs mainGlobals&&(Array.mk []:Array GenState).size == 0,(boot_heap w.params).objs.size,(boot_heap w.params).nsMap mainGlobals "__annotations__")=(true,11,(some (.ref 6))):=by
 rewrite [PySem.W.Fast.te8920871248978507458]
 intro w
 kernel_rfl
set_option maxHeartbeats 0 in
theorem l_1:∀ w:World,(fun os:OsState=>staticsOk ↥5 (boot_heap w.params) (hf w.params)&&namesBound À (hf w.params)&&gensDone ↥8&&laidKept (boot_heap w.params) (hf w.params))=fun os:OsState=>true:=by
 rewrite [ů,PySem.W.Fast.te7980632443135047528]
 intro w
 kernel_rfl
set_option maxHeartbeats 0 in
theorem Q4:∀ w:World,(fun os:OsState=>(openSeen q [] ↥5 Xt true ↥8).1)=fun os:OsState=>(openGood q []).1:=by
 unfold openSeen openGood
 dsimp only
 rewrite [PySem.W.Fast.te5160383126252970620,Åa,Ű,PySem.W.Fast.te5991557255702980513]
 intro w
 kernel_rfl
set_option maxHeartbeats 0 in
theorem Q3:∀ w:World,(fun os:OsState=>(openSeen q [] ↥5 Xt true ↥8).2.1)=fun os:OsState=>(openGood q []).2.1:=by
 unfold openSeen openGood
 dsimp only
 intro w
 kernel_rfl
set_option maxHeartbeats 0 in
theorem Q2:∀ w:World,(fun os:OsState=>(openSeen q [] ↥5 Xt true ↥8).2.2.1)=fun os:OsState=>(openGood q []).2.2.1:=by
 unfold openSeen openGood
 dsimp only
 rewrite [PySem.W.Fast.te10880121769531294198,Ŵ,Åa,Ű,PySem.W.Fast.te7409074990110511671,PySem.W.Fast.te13664370479719496447,PySem.W.Fast.te14722251495701143533,ů,PySem.W.Fast.te7980632443135047528,PySem.W.Fast.te10994771534591457954,PySem.W.Fast.te18408535023408442824]
 intro w
 kernel_rfl
set_option maxHeartbeats 0 in
theorem Q1:∀ w:World,(fun os:OsState=>(openSeen q [] ↥5 Xt true ↥8).2.2.2.1)=fun os:OsState=>(openGood q []).2.2.2.1:=by
 unfold openSeen openGood
 dsimp only
 rewrite [PySem.W.Fast.te479339242167458305]
 intro w
 kernel_rfl
set_option maxHeartbeats 0 in
theorem Q0:∀ w:World,(fun os:OsState=>(openSeen q [] ↥5 Xt true ↥8).2.2.2.2.1)=fun os:OsState=>(openGood q []).2.2.2.2.1:=by
 unfold openSeen openGood
 dsimp only
 rewrite [PySem.W.Fast.te16090120013241838585,PySem.W.Fast.te3247288618530077131]
 intro w
 kernel_rfl
set_option maxHeartbeats 0 in
theorem QZ:∀ w:World,(fun os:OsState=>(openSeen q [] ↥5 Xt true ↥8).2.2.2.2.2.1)=fun os:OsState=>(openGood q []).2.2.2.2.2.1:=by
 unfold openSeen openGood
 dsimp only
 rewrite [PySem.W.Fast.te2386780881361962483,Ŵ]
 intro w
 kernel_rfl
set_option maxHeartbeats 0 in
theorem QY:∀ w:World,(fun os:OsState=>(openSeen q [] ↥5 Xt true ↥8).2.2.2.2.2.2.1)=fun os:OsState=>(openGood q []).2.2.2.2.2.2.1:=by
 unfold openSeen openGood
 dsimp only
 rewrite [PySem.W.Fast.te11698064438423848299]
 intro w
 kernel_rfl
set_option maxHeartbeats 0 in
theorem QX:∀ w:World,(fun os:OsState=>(openSeen q [] ↥5 Xt true ↥8).2.2.2.2.2.2.2.1)=fun os:OsState=>(openGood q []).2.2.2.2.2.2.2.1:=by
 unfold openSeen openGood
 dsimp only
 rewrite [PySem.W.Fast.te7317090234206586261]
 intro w
 kernel_rfl
set_option maxHeartbeats 0 in
theorem QW:∀ w:World,(fun os:OsState=>(openSeen q [] ↥5 Xt true ↥8).2.2.2.2.2.2.2.2)=fun os:OsState=>(openGood q []).2.2.2.2.2.2.2.2:=by
 unfold openSeen openGood
 dsimp only
 rewrite [PySem.W.Fast.te7369524293546568484]
 intro w
 kernel_rfl
set_option maxHeartbeats 0 in
theorem l_k:∀ w:World,(fun os:OsState=>as.map (Shared.heap ↥8).get?)=fun os:OsState=>(K w.params).map fun x=>some x.2:=by
 rewrite [Åa]
 intro w
 kernel_rfl
theorem h_b:behindTheImports À=Ef++(Ee++(Ed++[])):=by kernel_rfl
theorem LK (w:World) (os:OsState):topRun treeTable À w 11 (some (.ref 6)) (1299+(1285+(513+(2)))) (Éd ↥49) (restOf (Ef++(Ee++(Ed++[]))) env cB ↥92 [topFrame ↥92])=some ↥8 :=
 piece_app (segRun_of (congrFun (Px w) os)) (piece_app (segRun_of (congrFun (Pw w) os)) (piece_app (segRun_of (congrFun (Pu w) os)) (piece_nil (congrFun (Lr w) os))))
theorem run (w:World) (os:OsState):topRun treeTable À w 11 (some (.ref 6)) (12+(1+(1299+(1285+(513+(2)))))) (Ëh (boot_heap w.params) (Array.mk []) boot_drawn boot_toks os) (topStub À)=some ↥8 :=
 go_top (congrFun (Lq w) os) (piece_block (congrFun (Ea w) os) ((congrArg (fun b=>topRun treeTable À w 11 (some (.ref 6)) (1299+(1285+(513+(2)))) (Éd ↥49) (restOf b env cB ↥92 [topFrame ↥92])) h_b).trans (LK w os)))
theorem opened:∀ w:World,(fencedOpening treeTable À w 6314).map (fun s=>(s.heap,s.gens,s.drawn,s.toks))=some (boot_heap w.params,Array.mk [],boot_drawn,boot_toks):=boot_open (by kernel_rfl) ↥1 (fun s=>by kernel_rfl)
theorem he:∀ P,as=(K P).map (·.1):=fun _=>by kernel_rfl
theorem left:LeftO À q [] Xt (kHook K as he).obs (kHook K as he).val 6314 :=
 LeftO.of_pieces opened HN run ↥1 fun w=>funext fun os=>Ū (congrFun (l_1 w) os) (Ū (Ū (congrFun (Q4 w) os) (Ū (congrFun (Q3 w) os) (Ū (congrFun (Q2 w) os) (Ū (congrFun (Q1 w) os) (Ū (congrFun (Q0 w) os) (Ū (congrFun (QZ w) os) (Ū (congrFun (QY w) os) (Ū (congrFun (QX w) os) (congrFun (QW w) os))))))))) (congrFun (l_k w) os))
end H
namespace EV
open PySem (Str)
theorem ao (k:Int):0<pw k:=Int.pow_pos ↥1
theorem bR (ha:0<=a) (hb:0<=b):pw (a+b)=pw a*pw b:=by
 unfold pw
 rw [Int.toNat_add ha hb,Int.pow_add]
theorem gW (ha:0<=a):pw (a+1)=2*pw a:=by
 rw [bR ha ↥1,ö]
 rfl
theorem jc (h:a<=b):pw a<=pw b:=by
 unfold pw
 have e1:((2^a.toNat:Nat):Int)=(2:Int)^a.toNat:=by simp
 have e2:((2^b.toNat:Nat):Int)=(2:Int)^b.toNat:=by simp
 rw [<- e1,<-e2]
 exact Int.ofNat_le.mpr (Àd ↥1 ⋯)
theorem mw:nb i<=k↔i.natAbs<2^k:=by
 unfold nb
 by_cases h:i=0
 ·subst h
  simp
  exact Èc k
 ·rw [if_neg h]
  have h0:i.natAbs≠0:=⋯
  rw [<- Nat.log2_lt h0]
  omega
theorem mQ (i:Int):i.natAbs<2^nb i:=mw.mp ↥15
theorem jg (h:i.natAbs<=j.natAbs):nb i<=nb j:=mw.mpr (Nat.lt_of_le_of_lt h (mQ j))
theorem xZ (hi:nb i<=a) (hj:nb j<=b):nb (i+j)<=max a b+1:=by
 rw [mw] at hi hj ⊢
 have h1:2^a<=2^max a b:=Àd ↥1 (Áb a b)
 have h2:2^b<=2^max a b:=Àd ↥1 (Àa a b)
 rw [Nat.pow_succ]
 omega
theorem t5 (i:Int):nb (-i)=nb i:=Nat.le_antisymm (jg ⋯) (jg ⋯)
theorem Ju (hi:nb i<=a) (hj:nb j<=b):nb (i - j)<=max a b+1:=by
 rw [Ãh]
 exact xZ hi (by rw [t5];exact hj)
theorem ll (hi:nb i<=a) (hj:nb j<=b):nb (i*j)<=a+b:=by
 rw [mw] at hi hj ⊢
 rw [Int.natAbs_mul,Nat.pow_add]
 rcases Nat.eq_zero_or_pos i.natAbs with h0 | h0
 ·rw [h0,Nat.zero_mul];exact Nat.mul_pos (Èc a) (Èc b)
 ·exact è (Nat.mul_lt_mul_of_pos_left hj h0) (Nat.mul_le_mul_right _ (ı hi))
theorem CN (h:0<j) (hj:nb j<=b):nb (i%j)<=b:=by
 refine Ð (jg ?_) hj
 have h1:=ä i (by omega:j≠0)
 have h2:=ã i h
 omega
theorem vo {i j:Int} (h:0<j):(i / j).natAbs<=i.natAbs:=by
 have h3:i=j*(i / j)+i%j:=(Ř i j).symm
 have h1:=ä i (by omega:j≠0)
 have h2:=ã i h
 by_cases hi:0<=i
 ·have:=ĕ hi (by omega:(0:Int)<=j)
  have:=Int.ediv_le_self j hi
  omega
 ·have h4:i / j<0:=Int.ediv_neg_of_neg_of_pos ⋯ h
  have h5:(j - 1)*(i / j)<=(j - 1)*(-1):=Ī ⋯ ⋯
  rw [ĸ,Ĥ] at h5
  generalize j*(i / j)=z at *
  omega
theorem qb {i j:Int} {a:Nat} (h:0<j) (hi:nb i<=a):nb (i / j)<=a:=Ð (jg (vo h)) hi
theorem gZ {k:Int} {c:Nat} (hk:k<=c):nb (pw k)<=c+1:=by
 rw [mw]
 unfold pw
 rw [Int.natAbs_pow]
 exact Nat.pow_lt_pow_right (a:=2) ↥1 ⋯
theorem mP (h0:0<=i):i<pw (nb i):=by
 have:=mQ i
 unfold pw
 have e:((2^((nb i:Int)).toNat:Nat):Int)=(2:Int)^((nb i:Int)).toNat:=by simp
 rw [<- e,show ((nb i:Int)).toNat=nb i by omega]
 omega
theorem MulOk.of (hi:nb i<=a) (hj:nb j<=b) (h:a+b<=134217728):MulOk i j:=by
 unfold MulOk
 omega
theorem iX.small (h:0<j) (hj:nb j<=9000):iX i j:=⟨h,.inl hj⟩
theorem Fo:nb i<=nb i:=ñ _
theorem xX (h:nb i<=a):nb (-i)<=a:=by rw [t5];exact h
theorem Jx (hi:nb i<=a) (hj:nb j<=b):nb (max i j)<=max a b:=by
 rcases Int.le_total i j with h | h
 ·rw [Int.max_eq_right h];exact Ð hj (Àa a b)
 ·rw [Int.max_eq_left h];exact Ð hi (Áb a b)
theorem Jw (hi:nb i<=a) (hj:nb j<=b):nb (min i j)<=max a b:=by
 rcases Int.le_total i j with h | h
 ·rw [Int.min_eq_left h];exact Ð hi (Áb a b)
 ·rw [Int.min_eq_right h];exact Ð hj (Àa a b)
theorem Jy [Decidable p] (hi:nb i<=a) (hj:nb j<=b):nb (if p then i else j)<=max a b:=by
 split
 ·exact Ð hi (Áb a b)
 ·exact Ð hj (Àa a b)
theorem Bo (h:nb i<=a) (h2:a<=b):nb i<=b:=Ð h h2
theorem aK (h:MulOk i j):eY ↥123 (.int j)=.ok (.int (i*j)):=by unfold eY;simp only;rw [if_pos h]
theorem gY (h:iX i j):oDiv ↥123 (.int j)=.ok (.int (i / j)):=by unfold oDiv;simp only;rw [if_pos h]
theorem Fb {i j:Int} (h:0<j):oMod ↥123 (.int j)=.ok (.int (i%j)):=by unfold oMod;simp only;rw [if_pos h]
theorem Bj {i j:Int} (h:0<j) (h2:j<18446744073709551616):oDiv ↥123 (.int j)=.ok (.int (i / j)):=gY (iX.small h (by
 have:nb j<=64:=mw.mpr ⋯
 omega))
theorem bh (h:0<=j) (h2:(nb i:Int)+j<=134217728):gf ↥123 (.int j)=.ok (.int (i*pw j)):=by unfold gf;simp only;rw [if_pos ⟨h,h2⟩]
theorem E7 {i j:Int} (h:0<=j):M7 ↥123 (.int j)=.ok (.int (i / pw j)):=by unfold M7;simp only;rw [if_pos h]
section
variable {α β:Type} {d d':D} {δ:Dt} {C:String} {f:α->R β} {c:Option D}
theorem Ga (a:α):(R.ok a).bind f=f a:=rfl
theorem Gd:(R.ex C:R α).bind f=.ex C:=rfl
theorem BY:(R.bad:R α).bind f=.bad:=rfl
theorem BX {p:Prop} [Decidable p] (x y:R α):(if p then x else y).bind f=if p then x.bind f else y.bind f:=by split<;>rfl
theorem DT {s:S}:(O.nx δ).then s=s δ:=rfl
theorem DS {s:S}:(O.rt d).then s=.rt d:=rfl
theorem DW {s:S}:(O.ex C δ).then s=.ex C δ:=rfl
theorem DU {s:S}:(O.mk C δ).then s=.mk C δ:=rfl
theorem DV {s:S}:(O.hx C δ).then s=.hx C δ:=rfl
theorem DY {s:S}:(O.bk δ).then s=.bk δ:=rfl
theorem DX {s:S}:(O.ct δ).then s=.ct δ:=rfl
theorem Aq {s:S}:(O.bad).then s=.bad:=rfl
theorem Ap {p:Prop} [Decidable p] (x y:O) {s:S}:(if p then x else y).then s=if p then x.then s else y.then s:=by split<;>rfl
theorem Ik:(O.rt d).res=.ok d:=rfl
theorem Il:(O.nx δ).res=.ok .non:=rfl
theorem Iq:(O.ex C δ).res=.ex C:=rfl
theorem Im:(O.mk C δ).res=.ex C:=rfl
theorem Io:(O.hx C δ).res=.ex C:=rfl
theorem Ey:O.bad.res=.bad:=rfl
theorem Ex {p:Prop} [Decidable p] (x y:O):(if p then x else y).res=if p then x.res else y.res:=by split<;>rfl
theorem KA {i:Nat}:asg i δ (.ok d)=.nx ↥108:=rfl
theorem KC {i:Nat}:asg i δ (.ex C)=.ex C ↥113:=rfl
theorem Gv {i:Nat} {p:Prop} [Decidable p] (x y:R D):asg i δ (if p then x else y)=if p then asg i δ x else asg i δ y:=by split<;>rfl
theorem G7:xpr δ (.ok d)=.nx δ:=rfl
theorem G8:xpr δ (.ex C)=.ex C ↥113:=rfl
theorem Dp {p:Prop} [Decidable p] (x y:R D):xpr δ (if p then x else y)=if p then xpr δ x else xpr δ y:=by split<;>rfl
theorem Ii:rtn δ (.ok d)=.rt d:=rfl
theorem Ij:rtn δ (.ex C)=.ex C ↥113:=rfl
theorem Et {p:Prop} [Decidable p] (x y:R D):rtn δ (if p then x else y)=if p then rtn δ x else rtn δ y:=by split<;>rfl
theorem JU {b:Bool} {x y:O}:ifO δ (.ok (.bl b)) x y=if b=true then x else y:=by cases b<;>rfl
theorem JT {x y:O}:ifO δ (.ex C) x y=.ex C ↥113:=rfl
theorem FD {p:Prop} [Decidable p] (u v:R D) {x y:O}:ifO δ (if p then u else v) x y=if p then ifO δ u x y else ifO δ v x y:=by split<;>rfl
theorem Ao {b:Bool} {x y:R β}:truth (.bl b) x y=if b=true then x else y:=by cases b<;>rfl
theorem JM {p:Prop} [Decidable p] {a b:Bool}:(if p then R.ok (D.bl a) else R.ok (D.bl b))=R.ok (D.bl (if p then a else b)):=by split<;>rfl
theorem ite_int {p:Prop} [Decidable p] {a b:Int}:(if p then R.ok (D.int a) else R.ok (D.int b))=R.ok (D.int (if p then a else b)):=by split<;>rfl
theorem JP {p:Prop} [Decidable p] {b:Bool}:((if p then b else false)=true)=(p/\b=true):=by by_cases h:p<;>simp [h]
theorem JO {p:Prop} [Decidable p] {b:Bool}:((if p then true else b)=true)=(p\/b=true):=by by_cases h:p<;>simp [h]
theorem JN {p:Prop} [Decidable p]:((if p then false else true)=true)=¬ p:=by by_cases h:p<;>simp [h]
theorem Hl:var 0 (none::δ)=.bad:=rfl
theorem DC {i:Int}:var 0 (some ↥123::δ)=.ok ↥123:=rfl
theorem Hk {b:Bool}:var 0 (some (.bl b)::δ)=.ok (.bl b):=rfl
theorem Dx {x:PySem.Str}:var 0 (some (.str x)::δ)=.ok (.str x):=rfl
theorem Dz:var 0 (some .non::δ)=.ok .non:=rfl
theorem Dw {ds:List D}:var 0 (some (.tup ds)::δ)=.ok (.tup ds):=rfl
theorem DB {ds:List D}:var 0 (some ↥120::δ)=.ok ↥120:=rfl
theorem Dy {ds:List D}:var 0 (some (.own ds)::δ)=.bad:=rfl
theorem DF:var 0 (some (.exc C)::δ)=.ok (.exc C):=rfl
theorem DG:var 0 (some (.cls C)::δ)=.ok (.cls C):=rfl
theorem DD {fs:List (String×D)}:var 0 (some (.ins C fs)::δ)=.ok (.ins C fs):=rfl
theorem Ac {n:Nat}:var (n+1) (c::δ)=var n δ:=rfl
theorem FU:evs [] δ=.ok []:=rfl
theorem BN {e:E} {es:List E}:evs (e::es) δ=(e δ).bind fun d=>(evs es δ).bind fun ds=>.ok (d::ds):=rfl
theorem Bl {i j:Int}:bH ↥123 (.int j)=.ok (.int (i+j)):=rfl
theorem AZ {i j:Int}:dY ↥123 (.int j)=.ok (.int (i - j)):=rfl
theorem A4 {i:Int}:Jn ↥123=.ok (.int (-i)):=rfl
theorem Fc {i j:Int}:oLt ↥123 (.int j)=.ok (.bl (decide (i<j))):=rfl
theorem Fd {i j:Int}:oLe ↥123 (.int j)=.ok (.bl (decide (i<=j))):=rfl
theorem Fe {i j:Int}:oGt ↥123 (.int j)=.ok (.bl (decide (j<i))):=rfl
theorem Ff {i j:Int}:oGe ↥123 (.int j)=.ok (.bl (decide (j<=i))):=rfl
theorem Fi {i j:Int}:oEq ↥123 (.int j)=.ok (.bl (decide (i=j))):=by simp [oEq,D.cmp,D.sc,D.beq,ą]
theorem E9 {i j:Int}:oNe ↥123 (.int j)=.ok (.bl (decide (i≠j))):=by simp [oNe,D.cmp,D.sc,D.beq,ą]
theorem Fh {i j:PySem.Str}:oEq (.str i) (.str j)=.ok (.bl (decide (i=j))):=by simp [oEq,D.cmp,D.sc,D.beq,ą]
theorem E8 {i j:PySem.Str}:oNe (.str i) (.str j)=.ok (.bl (decide (i≠j))):=by simp [oNe,D.cmp,D.sc,D.beq,ą]
theorem Jp {i j:Bool}:oEq (.bl i) (.bl j)=.ok (.bl (decide (i=j))):=by simp [oEq,D.cmp,D.sc,D.beq,ą]
theorem Bb:rJ .non=.ok ↥29:=rfl
theorem xB:rG .non=.ok ↥56:=rfl
theorem Bf:rJ (.exc C)=.ok ↥56:=rfl
theorem xF:rG (.exc C)=.ok ↥29:=rfl
theorem Be {i:Int}:rJ ↥123=.ok ↥56:=rfl
theorem xE {i:Int}:rG ↥123=.ok ↥29:=rfl
theorem B8 {i j:Int}:CW [.int i,.int j]=.ok (.int (max i j)):=by
 unfold CW;simp only;congr 2;omega
theorem B7 {i j:Int}:Gm [.int i,.int j]=.ok (.int (min i j)):=by
 unfold Gm;simp only;congr 2;omega
theorem Cd {i:Int}:GR [.int i]=.ok (.int (if i<0 then -i else i)):=rfl
theorem Cb {ds:List D}:gG [.lst ds]=.ok (.int ds.length):=rfl
theorem B9 {ds:List D}:gG [.tup ds]=.ok (.int ds.length):=rfl
theorem Cc {i:Int}:Ph [.int i]=.ok ↥123:=rfl
theorem Gn {k:Bool}:Ph [.bl k]=.ok (.int (if k then 1 else 0)):=rfl
theorem sP {i:Int}:jj [.int i]=.ok (.int (nb i)):=rfl
theorem zm {ds:List D}:oY [.lst ds]=.ok ↥120:=rfl
theorem zl {ds:List D}:oY [.tup ds]=.ok ↥120:=rfl
theorem r9 {i:Int}:mH [.int i,.ty "int"]=.ok ↥29:=rfl
theorem qe {i:Int}:mH [.int i,.ty "bool"]=.ok ↥56:=rfl
theorem rW {ds:List D}:mH [.tup ds,.ty "tuple"]=.ok ↥29:=rfl
theorem rZ {ds:List D}:mH [.lst ds,.ty "list"]=.ok ↥29:=rfl
theorem vB:mH [.exc C,.ty "ValueError"]=if aj.contains C then .ok ↥29 else .bad:=by
 show (if (aj.contains C&&("ValueError" == "ValueError"))=true then _ else _)=_
 rw [show ("ValueError" == "ValueError")=true from rfl,Bool.and_true]
theorem se {B:String}:mH [.exc C,.cls B]=if aj.contains C&&aj.contains B then .ok (.bl (C == B||B == "MillError")) else .bad:=rfl
theorem rY {B:String}:mH [.non,.cls B]=if aj.contains B then .ok ↥56 else .bad:=rfl
theorem wD {k:S}:trn (.nx δ) k=k δ:=rfl
theorem HL {k:S}:trn (.ct δ) k=k δ:=rfl
theorem HM {k:S}:trn (.bk δ) k=.nx δ:=rfl
theorem HG {k:S}:trn (.rt d) k=.rt d:=rfl
theorem HK {k:S}:trn (.ex C δ) k=.ex C δ:=rfl
theorem HH {k:S}:trn (.mk C δ) k=.mk C δ:=rfl
theorem HJ {k:S}:trn (.hx C δ) k=.hx C δ:=rfl
theorem DR {p:Prop} [Decidable p] (x y:O) {k:S}:trn (if p then x else y) k=if p then trn x k else trn y k:=by split<;>rfl
theorem ui:forL i b [] δ=.nx δ:=rfl
theorem dQ:forL i b (d::ds) δ=trn (b ↥108) (forL i b ds):=rfl
theorem Jb {ds:List D} {k:List D->O}:ovL δ (.ok ↥120) k=k ds:=rfl
theorem Ja {ds:List D} {k:List D->O}:ovT δ (.ok (.tup ds)) k=k ds:=rfl
theorem DO {B:String} {i:Nat} {s:S}:DQ (.nx δ) B i s=.nx δ:=rfl
theorem DP {B:String} {i:Nat} {s:S}:DQ (.ex C δ) B i s=if BM C B then forget i (s ((noOwn δ).set i (some (.exc C)))) else .bad:=rfl
theorem An {p:Prop} [Decidable p] (x y:O) {B:String} {i:Nat} {s:S}:DQ (if p then x else y) B i s=if p then DQ x B i s else DQ y B i s:=by split<;>rfl
theorem yG {i:Nat}:forget i (.nx δ)=.nx (δ.set i none):=rfl
theorem xP:noOwn []=[]:=rfl
theorem vn:noOwn (none::δ)=none::noOwn δ:=rfl
theorem xR {i:Int}:noOwn (some ↥123::δ)=some ↥123::noOwn δ:=rfl
theorem Bn {i:Bool}:noOwn (some (.bl i)::δ)=some (.bl i)::noOwn δ:=rfl
theorem xM {i:PySem.Str}:noOwn (some (.str i)::δ)=some (.str i)::noOwn δ:=rfl
theorem xO:noOwn (some .non::δ)=some .non::noOwn δ:=rfl
theorem xK {ds:List D}:noOwn (some (.tup ds)::δ)=some (.tup ds)::noOwn δ:=rfl
theorem xQ {ds:List D}:noOwn (some ↥120::δ)=some ↥120::noOwn δ:=rfl
theorem xT:noOwn (some (.exc C)::δ)=some (.exc C)::noOwn δ:=rfl
theorem vK {C:String}:BM C "MillError"=aj.contains C:=by simp [BM]
end
theorem mR {ds:List D} {k:Nat} {d:D} (h:ds[k]? = some d):oIx (.tup ds) (.int k)=.ok d:=by
 obtain ⟨hk,he⟩:=É.mp h
 unfold oIx ixN
 simp [he,hk]
theorem dO {k:Nat} (h:ds[k]? = some d):oIx ↥120 (.int k)=.ok d:=by
 obtain ⟨hk,he⟩:=É.mp h
 unfold oIx ixN
 simp [he,hk]
section
variable {a b c d e:D} {r:List D}
theorem ix0:oIx (.tup (a::r)) (.int 0)=.ok a:=mR (k:=0) rfl
theorem ix1:oIx (.tup (a::b::r)) (.int 1)=.ok b:=mR (k:=1) rfl
theorem ix2:oIx (.tup (a::b::c::r)) (.int 2)=.ok c:=mR (k:=2) rfl
theorem ix3:oIx (.tup (a::b::c::d::r)) (.int 3)=.ok d:=mR (k:=3) rfl
theorem Q9:oIx (.lst (a::r)) (.int 0)=.ok a:=dO (k:=0) rfl
theorem Q8:oIx (.lst (a::b::r)) (.int 1)=.ok b:=dO (k:=1) rfl
theorem Q7:oIx (.lst (a::b::c::r)) (.int 2)=.ok c:=dO (k:=2) rfl
end
theorem Rr {m:Nat} {gg:S}:fn 0 m gg []=(gg (Û m none)).res:=rfl
theorem Rq {m:Nat} {gg:S} {a:D}:fn 1 m gg [a]=(gg (some a::List.replicate (m - 1) none)).res:=rfl
theorem Rp {m:Nat} {gg:S} {a b:D}:fn 2 m gg [a,b]=(gg (some a::some b::List.replicate (m - 2) none)).res:=rfl
theorem Ro {m:Nat} {gg:S} {a b c:D}:fn 3 m gg [a,b,c]=(gg (some a::some b::some c::List.replicate (m - 3) none)).res:=rfl
theorem Rn {m:Nat} {gg:S} {a b c d:D}:fn 4 m gg [a,b,c,d]=(gg (some a::some b::some c::some d::List.replicate (m - 4) none)).res:=rfl
theorem Rm {m:Nat} {gg:S} {a b c d e:D}:fn 5 m gg [a,b,c,d,e]=(gg (some a::some b::some c::some d::some e::List.replicate (m - 5) none)).res:=rfl
theorem Rl {m:Nat} {gg:S} {a b c d e f:D}:fn 6 m gg [a,b,c,d,e,f]=(gg (some a::some b::some c::some d::some e::some f::List.replicate (m - 6) none)).res:=rfl
theorem Rk {m:Nat} {gg:S} {a b c d e f g:D}:fn 7 m gg [a,b,c,d,e,f,g]=(gg (some a::some b::some c::some d::some e::some f::some g::List.replicate (m - 7) none)).res:=rfl
theorem Rj {m:Nat} {gg:S} {a b c d e f g h:D}:fn 8 m gg [a,b,c,d,e,f,g,h]=(gg (some a::some b::some c::some d::some e::some f::some g::some h::List.replicate (m - 8) none)).res:=rfl
section
variable {α β:Type} {a:α} {l:List α} {n:Nat} {p:Prop} {x y:α}
theorem uR:(a::l).length=l.length+1:=rfl
theorem vX:([]:List α).length=0:=rfl
theorem vY {f:α->β}:(l.map f).length=l.length:=Á f
theorem uQ {f:α->β}:(a::l).map f=f a::l.map f:=rfl
theorem vW {f:α->β}:([]:List α).map f=[]:=rfl
theorem C7:(a::l).set 0 x=x::l:=rfl
theorem C6:(a::l).set (n+1) x=a::l.set n x:=rfl
theorem C9:List.replicate 0 a=[]:=rfl
theorem C8:List.replicate (n+1) a=a::List.replicate n a:=rfl
theorem G1:0+n=n:=Âa n
theorem GY:(if True then x else y)=x:=if_pos trivial
theorem GZ:(if False then x else y)=y:=if_neg id
theorem Pn:(false=true)=False:=by simp
theorem Pj:(true=true)=True:=by simp
theorem Dc:(!true)=false:=rfl
theorem Dd:(!false)=true:=rfl
theorem K5 [Decidable p]:(decide p=true)=p:=decide_eq_true_eq
theorem Df [Decidable True]:decide True=true:=by simp
theorem Dg [Decidable False]:decide False=false:=by simp
theorem Dh:(p/\True)=p:=by simp
theorem C5:(True/\p)=p:=by simp
theorem Di:(p/\False)=False:=by simp
theorem De:(False/\p)=False:=by simp
theorem GW:(p\/True)=True:=by simp
theorem GV:(True\/p)=True:=by simp
theorem GX:(p\/False)=p:=by simp
theorem G0:(False\/p)=p:=by simp
theorem Pk:(¬ True)=False:=by simp
theorem Pm:(¬ False)=True:=by simp
end
section
variable {a b c:E} {s t:S} {δ:Dt} {i:Nat} {f h:D->D->R D} {k:D->R D} {es:List E} {F:List D->R D} {d:D} {C:String}
theorem La:seq s t δ=(s δ).then t:=rfl
theorem Ak:assign i a δ=asg i δ (a δ):=rfl
theorem Lb:ret a δ=rtn δ (a δ):=rfl
theorem Ho:PX a δ=rtn δ (a ↥66):=rfl
theorem Li:ifs a s t δ=ifO δ (a δ) (s δ) (t δ):=rfl
theorem HB:expr a δ=xpr δ (a δ):=rfl
theorem DI:raise C δ=.mk C δ:=rfl
theorem Ht:EK δ=.nx δ:=rfl
theorem Hr:PY δ=.rt .non:=rfl
theorem Lm:brk δ=.bk δ:=rfl
theorem HC:cont δ=.ct δ:=rfl
theorem Ll:con d δ=.ok d:=rfl
theorem Ln:bin f a b δ=(a δ).bind fun x=>(b δ).bind fun y=>f x y:=rfl
theorem Po:un k a δ=(a δ).bind k:=rfl
theorem Lo:sS a b δ=(a δ).bind fun d=>truth d (b δ) (.ok ↥56):=rfl
theorem Pp:or_ a b δ=(a δ).bind fun d=>truth d (.ok ↥29) (b δ):=rfl
theorem Lc:CM a δ=(a δ).bind fun d=>truth d (.ok ↥56) (.ok ↥29):=rfl
theorem Lj:ife c a b δ=(c δ).bind fun d=>truth d (a δ) (b δ):=rfl
theorem DM:chain f h a b c δ=(a δ).bind fun x=>(b δ).bind fun y=>(f x y).bind fun d=>truth d ((c δ).bind fun z=>h y z) (.ok ↥56):=rfl
theorem K7:fk es δ=(evs es δ).bind fun ds=>.ok (.tup ds):=rfl
theorem Le:Fu es δ=(evs es δ).bind fun ds=>.ok ↥120:=rfl
theorem HE:call F es δ=(evs es δ).bind F:=rfl
theorem K8:Pq s C i t δ=DQ (s δ) C i t:=rfl
theorem DK:Mz i a s δ=ovL δ (a δ) fun ds=>forL i s ds δ:=rfl
theorem DJ:Mx i a s δ=ovT δ (a δ) fun ds=>forL i s ds δ:=rfl
theorem DL:MA i a s δ=ovR δ (a δ) fun ds=>forL i s ds δ:=rfl
end
theorem pv:aj.contains "MillError"=true:=by decide
theorem v5:aj.contains "NoSize"=true:=by decide
theorem wc:aj.contains "NoBits"=true:=by decide
theorem uT:aj.contains "NoParts"=true:=by decide
theorem v9:aj.contains "NoRank"=true:=by decide
theorem pj:aj.contains "NotFinite"=true:=by decide
theorem zI:aj.contains "NoWay"=true:=by decide
theorem uU:aj.contains "NoFlags"=true:=by decide
theorem nE:aj.contains "NoFraction"=true:=by decide
theorem vZ:aj.contains "Unlike"=true:=by decide
theorem zK:aj.contains "Empty"=true:=by decide
theorem wb:aj.contains "NoLeft"=true:=by decide
theorem v3:aj.contains "NoText"=true:=by decide
theorem zJ:aj.contains "NoRow"=true:=by decide
theorem wa:aj.contains "NoName"=true:=by decide
theorem uS:aj.contains "Stopped"=true:=by decide
section
variable {α:Type} {b:Bool} {ds es:List D} {i:Nat} {it:IT} {g h:E} {s:S} {δ:Dt} {C:String} {ks:List Nat} {k:List D->O} {x:D} {fs:List (String×D)} {F:List D->R D} {gs:List E} {cn m f:String}
theorem Dl:(b&&true)=b:=by simp
theorem Dj:(true&&b)=b:=by simp
theorem Dk:(false&&b)=false:=by simp
theorem Dm:(b&&false)=false:=by simp
theorem G5:(b||false)=b:=by simp
theorem G6:(false||b)=b:=by simp
theorem G2:(true||b)=true:=by simp
theorem G3:(b||true)=true:=by simp
theorem HA:CS i it s δ=ovI δ (it δ) fun ds=>forL i s ds δ:=rfl
theorem Jc:ovI δ (.ok ds) k=k ds:=rfl
theorem Jd:ovI δ (.ex C) k=.ex C ↥113:=rfl
theorem Lg:itL g δ=(g δ).bind asL:=rfl
theorem Lf:itT g δ=(g δ).bind asT:=rfl
theorem Hy:Bv g δ=(g δ).bind CZ:=rfl
theorem Hw:Rc g h δ=(evs [g,h] δ).bind K4:=rfl
theorem Gx:asL ↥120=.ok ds:=rfl
theorem Gw:asT (.tup ds)=.ok ds:=rfl
theorem kz {n:Int} (h0 : -4611686018427387904<=n) (h1:n<4611686018427387904):CZ (.int n)=.ok (iY 0 n):=by unfold CZ;simp only;rw [if_pos ⟨h0,h1⟩]
theorem Ci {n m:Int} (h0 : -4611686018427387904<=n) (h1:n<4611686018427387904) (h2 : -4611686018427387904<=m) (h3:m<4611686018427387904):K4 [.int n,.int m]=.ok (iY n m):=by unfold K4;simp only;rw [if_pos ⟨h0,h1,h2,h3⟩]
theorem HD:comp it ks g δ=(it δ).bind fun ds=>if ds.length<=100000 then (runC (stC ↥133 g ks δ) ds).bind dD else .bad:=rfl
theorem Aj:dU it ks g h δ=(it δ).bind fun ds=>if ds.length<=100000 then (runC (stC g h ks δ) ds).bind dD else .bad:=rfl
theorem Hu:GN cn m F g gs δ=(g δ).bind fun d=>if dP cn m d then (evs gs δ).bind fun ds=>F (d::ds) else .bad:=rfl
theorem Ld:mk1 cn f [x]=.ok (.ins cn [(f,x)]):=rfl
theorem Rt:CK cn f (.ins cn ((f,x)::fs))=.ok x:=by simp [CK]
theorem im1:dP cn m (.ins cn [(f,x)])=(m != f):=by
 have:dP cn m (.ins cn [(f,x)])=((cn == cn)&&(Ĵ m [(f,x)]).isNone):=rfl
 rw [this,î]
 cases e:(m == f)<;>simp [e,bne]
theorem xS:noOwn (some (.ins C fs)::δ)=some (.ins C fs)::noOwn δ:=rfl
theorem zp {d:D}:MS [d,.tup ds]=mT d ds:=rfl
theorem vC {d:D}:mT d []=.ok ↥56:=rfl
theorem sf {d c:D}:mT d (c::ds)=(mH [d,c]).bind fun x=>truth x (.ok ↥29) (mT d ds):=rfl
theorem vA {n:String}:mH [.non,.ty n]=if ["int","bool","str","tuple","list","ValueError"].contains n then .ok ↥56 else .bad:=rfl
theorem A9:rJ (.tup ds)=.ok ↥56:=rfl
theorem xy:rG (.tup ds)=.ok ↥29:=rfl
theorem Bc:rJ ↥120=.ok ↥56:=rfl
theorem xC:rG ↥120=.ok ↥29:=rfl
theorem Ba {z:PySem.Str}:rJ (.str z)=.ok ↥56:=rfl
theorem xA {z:PySem.Str}:rG (.str z)=.ok ↥29:=rfl
end
theorem lg {x y:String} (h:(Ñ x)=Ñ y):x=y:=by
 rw [Į,Į] at h
 have h1:(x.toList.map Ě).toArray=(y.toList.map Ě).toArray:=congrArg PySem.Str.cps h
 have h2:x.toList.map Ě=y.toList.map Ě:=by simpa using h1
 have h3:∀ (l m:List Char),l.map Ě=m.map Ě->l=m:=by
  intro l
  induction l with
  | nil=>intro m e;cases m with | nil=>rfl | cons _ _=>cases e
  | cons c r ih =>
   intro m e
   cases m with
   | nil=>cases e
   | cons c' r' =>
    rw [Ê,Ê,List.cons.injEq] at e
    rw [Char.ext (UInt32.toNat_inj.mp e.1),ih r' e.2]
 exact Äf.mp (h3 _ _ h2)
theorem AY {x y:String}:((Ñ x)=Ñ y)=(x=y):=propext ⟨lg,fun e=>by rw [e]⟩
theorem Bi {a b c d:Int}:oEq (.tup [.int a,.int b]) (.tup [.int c,.int d])=.ok (.bl (decide (a=c/\b=d))):=by
 simp [oEq,D.cmp,D.sc,D.pl,D.beq,D.beqs,ą]
theorem A7 {a b c d:Int}:oNe (.tup [.int a,.int b]) (.tup [.int c,.int d])=.ok (.bl (!decide (a=c/\b=d))):=by
 simp [oNe,D.cmp,D.sc,D.pl,D.beq,D.beqs,ą]
theorem Bh {a b c d e f:Int}:oEq (.tup [.int a,.int b,.int e]) (.tup [.int c,.int d,.int f])=.ok (.bl (decide (a=c/\b=d/\e=f))):=by
 simp [oEq,D.cmp,D.sc,D.pl,D.beq,D.beqs,ą]
theorem A6 {a b c d e f:Int}:oNe (.tup [.int a,.int b,.int e]) (.tup [.int c,.int d,.int f])=.ok (.bl (!decide (a=c/\b=d/\e=f))):=by
 simp [oNe,D.cmp,D.sc,D.pl,D.beq,D.beqs,ą]
theorem Fl {p:Prop} [Decidable p]:((!decide p)=true)=¬ p:=by simp
theorem Lh {g:E} {δ:Dt}:itA g δ=(g δ).bind asA:=rfl
theorem GA {ds:List D}:asA ↥120=.ok ds:=rfl
theorem Gy {ds:List D}:asA (.tup ds)=.ok ds:=rfl
theorem K9 {a:E} {lo hi:Option E} {δ:Dt}:slc a lo hi δ=(a δ).bind fun d=>(part lo δ).bind fun l=>(part hi δ).bind fun h=>oSl d l h:=rfl
theorem xu {δ:Dt}:part none δ=.ok none:=rfl
theorem AU {i:Int} {δ:Dt}:part (some (con ↥123)) δ=.ok (some i):=rfl
theorem E6 {ds:List D} {lo hi:Option Int}:oSl ↥120 lo hi=.ok (.lst (cut ds lo hi)):=rfl
theorem rX {x:PySem.Str}:mH [.str x,.ty "str"]=.ok ↥29:=rfl
theorem A5 {a b c x y z:Int}:oNe (.tup [.int a,.int b,.int c]) (.tup [.int x,.int y,.int z])=.ok (.bl (decide (¬ (a=x/\b=y/\c=z)))):=by
 unfold oNe
 rw [if_pos (show D.cmp _ _=true from rfl)]
 congr 2
 simp only [D.beq,D.beqs]
 by_cases h1:a=x<;>by_cases h2:b=y<;>by_cases h3:c=z<;>simp [h1,h2,h3]
theorem Bg {a b c x y z:Int}:oEq (.tup [.int a,.int b,.int c]) (.tup [.int x,.int y,.int z])=.ok (.bl (decide (a=x/\b=y/\c=z))):=by
 unfold oEq
 rw [if_pos (show D.cmp _ _=true from rfl)]
 congr 2
 simp only [D.beq,D.beqs]
 by_cases h1:a=x<;>by_cases h2:b=y<;>by_cases h3:c=z<;>simp [h1,h2,h3]
theorem E5 {a b:String}:(Ñ a=Ñ b)=(a=b):=by
 apply propext
 constructor
 ·intro h
  rw [Į,Į] at h
  have h1:a.toList.map Ě=b.toList.map Ě:=by
   have:=congrArg (fun z:PySem.Str=>z.cps.toList) h
   simpa using this
  have h2:a.toList=b.toList:=by
   refine List.map_inj_right (f:=Ě) (fun x y e => ?_) |>.mp h1
   exact Char.toNat_inj.mp e
  exact Äf.mp h2
 ·intro h;rw [h]
theorem Jo {cn f:String} {d:D}:CK cn f (.ins cn [(f,d)])=.ok d:=by simp [CK,Ĵ]
theorem Bx {cn m f:String} {d:D}:dP cn m (.ins cn [(f,d)]) = !(m == f):=by
 unfold dP
 cases h:m == f<;>simp [Ĵ,h]
theorem JB {cn f:String} {d:D}:mk1 cn f [d]=.ok (.ins cn [(f,d)]):=rfl
theorem Bw:(!false)=true:=rfl
theorem Hv {g h k:E}:Rb g h k δ=(evs [g,h,k] δ).bind K3:=rfl
theorem Cg {n m c:Int} (h : -1099511627776<=n/\n<1099511627776 /\ -1099511627776<=m/\m<1099511627776) (h0:0<c) (h1:c<1048576):K3 [.int n,.int m,.int c]=.ok (M5 n m c):=by unfold K3;simp only;rw [if_pos ⟨h,h0,h1⟩]
theorem Ag {i:Nat}:mO i δ=.nx (δ.set i (some (.own []))):=rfl
theorem Ai {i:Nat} {g:E}:dj i g δ=jf i δ fun ds=>GH i δ ds (g ↥66):=rfl
theorem Af {i:Nat}:IZ i δ=jf i δ fun ds=>.nx (δ.set i (some (.own ds.reverse))):=rfl
theorem E1 {ds:List D} {l:Dt} {f:List D->O}:jf 0 (some (.own ds)::l) f=f ds:=rfl
theorem EZ {i:Nat} {c:Option D} {l:Dt} {f:List D->O}:jf (i+1) (c::l) f=jf i l f:=rfl
theorem hW {i:Nat} {ds:List D} {d:D} (h:D.flat d=true) (h2:ds.length<100000):GH i δ ds (.ok d)=.nx (δ.set i (some (.own (ds++[d])))):=by unfold GH;simp only;rw [if_pos ⟨h,h2⟩]
theorem GF {i:Nat} {ds:List D}:GH i δ ds (.ex C)=.ex C ↥113:=rfl
theorem Hs {i:Nat} {s:S}:zE i s δ=s (pub i δ):=rfl
theorem LR {ds:List D} {l:Dt}:pub 0 (some (.own ds)::l)=some ↥120::l:=rfl
theorem LQ {i:Nat} {c:Option D} {l:Dt}:pub (i+1) (c::l)=c::pub i l:=by
 unfold pub
 rw [List.getElem?_cons_succ]
 split<;>rename_i q
 ·rw [q];rfl
 ·rfl
theorem xN {ds:List D}:noOwn (some (.own ds)::δ)=none::noOwn δ:=rfl
theorem zX:view []=[]:=rfl
theorem wx:view (none::δ)=none::view δ:=rfl
theorem sY {ds:List D}:view (some (.own ds)::δ)=some ↥120::view δ:=rfl
theorem zZ {i:Int}:view (some ↥123::δ)=some ↥123::view δ:=rfl
theorem Dv {i:Bool}:view (some (.bl i)::δ)=some (.bl i)::view δ:=rfl
theorem zV {i:PySem.Str}:view (some (.str i)::δ)=some (.str i)::view δ:=rfl
theorem zW  : view (some (.non)::δ)=some (.non)::view δ:=rfl
theorem zU {ds:List D}:view (some (.tup ds)::δ)=some (.tup ds)::view δ:=rfl
theorem zY {ds:List D}:view (some ↥120::δ)=some ↥120::view δ:=rfl
theorem Ab  : view (some (.exc C)::δ)=some (.exc C)::view δ:=rfl
theorem Aa {fs:List (String×D)}:view (some (.ins C fs)::δ)=some (.ins C fs)::view δ:=rfl
theorem wB {i:Nat} {g:E}:Gu i g δ=MT i δ (g ↥66):=rfl
theorem Cf {i:Nat} {n:Int}:MT i δ (.ok (.int n))=.nx (δ.set i (some (.int n))):=rfl
theorem Hz {c:E} {a b:S}:KZ c a b δ=ifO δ (c ↥66) (a δ) (b δ):=rfl
theorem wA {i:Nat} {g:E}:dC i g δ=Cr i δ (g ↥66):=rfl
theorem Ar {i:Nat} {rs:List D}:Cr i δ (.ok (.lst rs))=.nx (δ.set i (some (.own rs))):=rfl
theorem Ae {i:Nat} {a b:E}:IY i a b δ=jf i δ fun ds=>KR i δ ds (b ↥66) (a ↥66):=rfl
theorem Ep {i:Nat} {ds:List D} {d:D} {k:Int} (h:D.flat d=true) (h0:0<=k) (h1:k<ds.length):KR i δ ds (.ok d) (.ok (.int k))=.nx (δ.set i (some (.own (ds.set k.toNat d)))):=by unfold KR;simp only;rw [if_pos ⟨h,h0,h1⟩]
theorem wz {i:Nat} {g:E}:om i g δ=Cr i δ (g δ):=rfl
theorem aI {a b:Prop} (x:a) (y:b):a/\b:=⟨x,y⟩
def EvS:=aI @Fb<|aI @Bj<|aI @E7<|aI @Gd<|aI @BY<|aI @BX<|aI @DT<|aI @DS<|aI @DW<|aI @DU<|aI @DV<|aI @DY<|aI @DX<|aI @Aq<|aI @Ap<|aI @Ik<|aI @Il<|aI @Iq<|aI @Im<|aI @Io<|aI @Ey<|aI @Ex<|aI @KC<|aI @Gv<|aI @G7<|aI @G8<|aI @Dp<|aI @Ii<|aI @Ij<|aI @Et<|aI @JU<|aI @JT<|aI @FD<|aI @Ao<|aI @JM<|aI @ite_int<|aI @JP<|aI @JO<|aI @JN<|aI @Hl<|aI @Dy<|aI @DF<|aI @DG<|aI @DD<|aI @Bl<|aI @AZ<|aI @A4<|aI @Fc<|aI @Fd<|aI @Fe<|aI @Ff<|aI @Fi<|aI @E9<|aI @Fh<|aI @E8<|aI @Jp<|aI @Bb<|aI @xB<|aI @Bf<|aI @xF<|aI @Be<|aI @xE<|aI @B8<|aI @B7<|aI @Cd<|aI @Cb<|aI @B9<|aI @Cc<|aI @Gn<|aI @sP<|aI @zm<|aI @zl<|aI @r9<|aI @qe<|aI @rW<|aI @rZ<|aI @vB<|aI @se<|aI @rY<|aI @wD<|aI @HL<|aI @HM<|aI @HG<|aI @HK<|aI @HH<|aI @HJ<|aI @DR<|aI @Jb<|aI @Ja<|aI @DO<|aI @DP<|aI @An<|aI @yG<|aI @xP<|aI @vn<|aI @xR<|aI @Bn<|aI @xM<|aI @xO<|aI @xK<|aI @xQ<|aI @xT<|aI @vK<|aI @ix0<|aI @ix1<|aI @ix2<|aI @ix3<|aI @Q9<|aI @Q8<|aI @Q7<|aI @uR<|aI @vX<|aI @vY<|aI @C9<|aI @C8<|aI @G1<|aI @GY<|aI @GZ<|aI @Pn<|aI @Pj<|aI @Dc<|aI @Dd<|aI @K5<|aI @Df<|aI @Dg<|aI @Dh<|aI @C5<|aI @Di<|aI @De<|aI @GW<|aI @GV<|aI @GX<|aI @G0<|aI @Pk<|aI @Pm<|aI @Lb<|aI @Ho<|aI @Li<|aI @HB<|aI @DI<|aI @Ht<|aI @Hr<|aI @Lm<|aI @HC<|aI @Lo<|aI @Pp<|aI @Lc<|aI @Lj<|aI @DM<|aI @K7<|aI @Le<|aI @HE<|aI @K8<|aI @DK<|aI @DJ<|aI @DL<|aI @pv<|aI @v5<|aI @wc<|aI @uT<|aI @v9<|aI @pj<|aI @zI<|aI @uU<|aI @nE<|aI @vZ<|aI @zK<|aI @wb<|aI @v3<|aI @zJ<|aI @wa<|aI @uS<|aI @Dl<|aI @Dj<|aI @Dk<|aI @Dm<|aI @G5<|aI @G6<|aI @G2<|aI @G3<|aI @HA<|aI @Jc<|aI @Jd<|aI @Lg<|aI @Lf<|aI @Hy<|aI @Hw<|aI @Gx<|aI @Gw<|aI @kz<|aI @Ci<|aI @HD<|aI @Aj<|aI @Hu<|aI @Ld<|aI @Rt<|aI @im1<|aI @xS<|aI @zp<|aI @vC<|aI @sf<|aI @vA<|aI @A9<|aI @xy<|aI @Bc<|aI @xC<|aI @Ba<|aI @xA<|aI @AY<|aI @Bi<|aI @A7<|aI @Bh<|aI @A6<|aI @Fl<|aI @Lh<|aI @GA<|aI @Gy<|aI @K9<|aI @xu<|aI @AU<|aI @E6<|aI @rX<|aI @A5<|aI @Bg<|aI @E5<|aI @Jo<|aI @Bx<|aI @JB<|aI @Bw<|aI @Hv<|aI @Cg<|aI @Ag<|aI @Ai<|aI @Af<|aI @E1<|aI @EZ<|aI @hW<|aI @GF<|aI @Hs<|aI @LR<|aI @LQ<|aI @xN<|aI @zX<|aI @wx<|aI @sY<|aI @zZ<|aI @Dv<|aI @zV<|aI @zW<|aI @zU<|aI @zY<|aI @Ab<|aI @Aa<|aI @wB<|aI @Cf<|aI @Hz<|aI @wA<|aI @Ar<|aI @Ae<|aI @Ep <| @wz
theorem tw:∀ {ds:List D},(∀ d∈ds,st d=.ok (some (f d)))->runC st ds=.ok (ds.map f)
 | [],_=>rfl
 | d::ds,h=>by
  unfold runC
  rw [h d (.head _),tw fun d hd=>h d (.tail _ hd)]
  rfl
theorem Bk (h:xs.length+ys.length<=100000):bH ↥131 (.lst ys)=.ok (.lst (xs++ys)):=by unfold bH;simp only;rw [if_pos h]
end EV
local macro_rules | `(tactic| walk_at "pos")=>`(tactic| first | (with_reducible assumption) | decide +kernel | (with_reducible exact EV.ao _) | omega)
local macro_rules | `(tactic| walk_at "nb")=>`(tactic| first
 | (with_reducible assumption)
 | ((with_reducible apply EV.xZ)<;>walk_at "nb")
 | ((with_reducible apply EV.Ju)<;>walk_at "nb")
 | ((with_reducible apply EV.ll)<;>walk_at "nb")
 | ((with_reducible apply EV.xX)<;>walk_at "nb")
 | ((with_reducible apply EV.CN);(walk_at "pos");(walk_at "nb"))
 | ((with_reducible apply EV.qb);(walk_at "pos");(walk_at "nb"))
 | ((with_reducible apply EV.Jx)<;>walk_at "nb")
 | ((with_reducible apply EV.Jw)<;>walk_at "nb")
 | ((with_reducible apply EV.Jy)<;>walk_at "nb")
 | exact EV.Fo)
/- nb e<=a number -/
local macro_rules | `(tactic| walk_at "nbk")=>`(tactic| exact EV.Bo (by walk_at "nb") ↥41)
local macro_rules | `(tactic| walk_at "mul")=>`(tactic| exact EV.MulOk.of (by walk_at "nb") (by walk_at "nb") ↥41)
local macro_rules | `(tactic| simp_arith [$ls,*])=>`(tactic| simp only [EV.EvS,EV.Ac,EV.C6,EV.DC,EV.Hk,EV.Dx,EV.Dz,EV.Dw,EV.DB,EV.C7,EV.Ll,EV.FU,EV.BN,EV.Ln,EV.Po,EV.Ga,EV.La,EV.Ak,EV.KA,EV.uQ,EV.vW,EV.Rr,EV.Rq,EV.Rp,EV.Ro,EV.Rn,EV.Rm,EV.Rl,EV.Rk,EV.Rj,reduceIte,Nat.reduceAdd,Nat.reduceSub,Int.reduceAdd,Int.reduceSub,Int.reduceMul,Int.reduceNeg,Int.reducePow,Int.reduceLT,Int.reduceLE,Int.reduceGT,Int.reduceGE,Int.reduceEq,Int.reduceNe,Int.reduceDiv,Int.reduceMod,Int.reduceToNat,String.reduceEq,String.reduceBEq,Nat.reduceLeDiff,Int.cast_ofNat_Int,Int.natCast_one,Int.natCast_zero,Ž,Ł,ne_eq,$ls,*])
namespace EV
open PySem (Str)
def Sz (E F:Int):Prop:=2<=E/\E<=15/\1<=F/\F<=112
def szE (c:Int):Int:=if c%8<4 then [5,8,11,15].getD (c%8).toNat 0 else if c%8<6 then 2+c / 8%14 else 2+c / 8%4
def szF (c:Int):Int:=if c%8<4 then [10,23,52,112].getD (c%8).toNat 0 else if c%8<6 then 1+c / 8 / 14%112 else 1+c / 8 / 4%5
theorem four {r:Int} (h0:0<=r) (h1:r<4):r=0\/r=1\/r=2\/r=3:=⋯
theorem LF (c:Int):Sz (szE c) (szF c):=by
 unfold Sz szE szF
 by_cases h:c%8<4
 ·rw [if_pos h,if_pos h]
  rcases four (ä c ↥1) h with e | e | e | e<;>rw [e]<;>decide
 ·rw [if_neg h,if_neg h]
  by_cases h2:c%8<6
  ·rw [if_pos h2,if_pos h2];omega
  ·rw [if_neg h2,if_neg h2];omega
def iE (E F c:Int):Int :=
 if c%9<3 then c / 9*73846150927364518273645509182736455091829%(2*pw ↥9)
 else if c%9=3 then c / 9%2*pw ↥9+c / 9 / 2%6
 else if c%9=4 then c / 9%2*pw ↥9+(pw E - 1)*pw F - 3+c / 9 / 2%5
 else if c%9=5 then c / 9%2*pw ↥9+pw F - 2+c / 9 / 2%4
 else if c%9=6 then c / 9%2*pw ↥9+(pw (E - 1) - 1)*pw F - 2+c / 9 / 2%5
 else if c%9=7 then c / 9%2*pw ↥9+(pw E - 1)*pw F+1+c / 9 / 2%(pw F - 1)
 else c / 9%2*pw ↥9+c / 9 / 2 / 4%pw E*pw F+[0,1,pw F - 1,pw (F - 1)].getD (c / 9 / 2%4).toNat 0
theorem kN {F:Int} (h:1<=F):2<=pw F:=jc (a:=1) h
theorem rz {E:Int} (h:2<=E):4<=pw E:=jc (a:=2) h
theorem gX {F:Int} (h:1<=F):pw F=2*pw (F - 1):=by
 have:=gW (a:=F - 1) ⋯
 rw [show F - 1+1=F by omega] at this
 exact this
theorem En {r h:Int} (h0:0<=h):0<=r%2*h/\r%2*h<=h:=by
 rcases (by omega:r%2=0\/r%2=1) with e | e<;>rw [e]<;>omega
theorem EC {a b c d:Int} (h1:c<=a) (h2:d<=b) (hc:0<=c) (hd:0<=d):c*d<=a*b :=
 Œ (Ü h1 hd) (Ī h2 ⋯)
theorem zc {E F:Int} (c:Int) (h:Sz E F):0<=iE E F c/\iE E F c<pw (E+F+1):=by
 obtain ⟨h1,h2,h3,h4⟩:=h
 have eH:pw ↥9=pw E*pw F:=bR ⋯ ⋯
 have eW:pw (E+F+1)=2*pw ↥9:=gW ⋯
 have hP:=rz h1
 have hQ:=kN h3
 have eQ:=gX h3
 have eP:=gX (F:=E) ⋯
 have hH:0<=pw ↥9:=Þ ↥104
 obtain ⟨s0,s1⟩:=En (r:=c / 9) hH
 have eL:(pw E - 1)*pw F=pw ↥9 - pw F:=by rw [eH,ĸ,Ĥ]
 have eM:(pw (E - 1) - 1)*pw F=pw (E - 1)*pw F - pw F:=by rw [ĸ,Ĥ]
 have eH2:pw ↥9=2*(pw (E - 1)*pw F):=by rw [eH,eP,Ù]
 have big:8<=pw ↥9:=by rw [eH];exact EC hP hQ ↥1 ↥1
 have big2:4*pw F<=pw ↥9:=by rw [eH];exact Ü hP ⋯
 rw [eW]
 unfold iE
 generalize pw ↥9=H at *
 generalize pw (E - 1)*pw F=M at *
 generalize c / 9%2*H=sd at *
 generalize c / 9=r at *
 by_cases g0:c%9<3
 ·rw [if_pos g0]
  exact ⟨ä _ ⋯,ã _ ⋯⟩
 rw [if_neg g0]
 by_cases g1:c%9=3
 ·rw [if_pos g1];omega
 rw [if_neg g1]
 by_cases g2:c%9=4
 ·rw [if_pos g2,eL];omega
 rw [if_neg g2]
 by_cases g3:c%9=5
 ·rw [if_pos g3];omega
 rw [if_neg g3]
 by_cases g4:c%9=6
 ·rw [if_pos g4,eM];omega
 rw [if_neg g4]
 by_cases g5:c%9=7
 ·rw [if_pos g5,eL]
  have z0:=ä (r / 2) (show pw F - 1≠0 by omega)
  have z1:=ã (r / 2) (show 0<pw F - 1 by omega)
  omega
 rw [if_neg g5]
 have z0:=ä (r / 2 / 4) (show pw E≠0 by omega)
 have z1:=ã (r / 2 / 4) (show 0<pw E by omega)
 have y0:0<=r / 2 / 4%pw E*pw F:=Ĝ z0 ⋯
 have y1:r / 2 / 4%pw E*pw F<=(pw E - 1)*pw F:=Ü ⋯ ⋯
 rw [eL] at y1
 have x0:0<=[0,1,pw F - 1,pw (F - 1)].getD (r / 2%4).toNat 0/\[0,1,pw F - 1,pw (F - 1)].getD (r / 2%4).toNat 0<pw F:=by
  rcases four (ä (r / 2) ↥1) (ã (r / 2) ↥1) with e | e | e | e<;>rw [e]
  ·show 0<=(0:Int)/\(0:Int)<pw F;omega
  ·show 0<=(1:Int)/\(1:Int)<pw F;omega
  ·show 0<=pw F - 1/\pw F - 1<pw F;omega
  ·show 0<=pw (F - 1)/\pw (F - 1)<pw F
   have:=ao (F - 1)
   omega
 omega
theorem part0 {P Q b:Int} (hP:0<P) (hQ:0<Q):b / (P*Q)=b / P / Q:=(Æf (Þ hP)).symm
theorem part1 {P Q b:Int} (hP:0<P) (hQ:0<Q):b%(P*Q) / Q=b / Q%P:=by
 have e1:=Int.emod_def b (P*Q)
 have e2:b - P*Q*(b / (P*Q))=b+Q*(-(P*(b / (P*Q)))):=by
  rw [Int.mul_neg,<-Ãh,<-Ù,ö Q P]
 rw [e1,e2,ř _ _ ⋯,Int.emod_def]
 have e3:b / (P*Q)=b / Q / P:=by rw [ö,Æf (Þ hQ)]
 rw [e3]
 omega
theorem part2 {P Q b:Int}:b%(P*Q)%Q=b%Q:=Int.emod_emod_of_dvd b (Int.dvd_mul_left P Q)
theorem AS {P Q b:Int} (hP:0<P) (hQ:0<Q) (h0:0<=b) (h1:b<2*(P*Q)) :
  (0<=b / P / Q/\b / P / Q<=1)/\(0<=b / Q%P/\b / Q%P<P)/\(0<=b%Q/\b%Q<Q):=by
 refine ⟨⟨?_,?_⟩,⟨ä _ ⋯,ã _ hP⟩,⟨ä _ ⋯,ã _ hQ⟩⟩
 ·exact ĕ (ĕ h0 (Þ hP)) (Þ hQ)
 ·rw [<- part0 hP hQ]
  have:b / (P*Q)<2:=Ļ (ţ hP hQ) h1
  omega
theorem BE {ns:List Int} {j:Int} (h0:0<=j) (h:¬ j<(ns.length:Int)):ns.getD j.toNat 0=0:=by
 rw [Î,Ą ⋯]
 rfl
theorem Pd:oIx (.lst (a::b::c::d::r)) (.int 3)=.ok d:=dO (k:=3) rfl
theorem Q6:oIx (.lst (a::b::c::d::e::r)) (.int 4)=.ok e:=dO (k:=4) rfl
def sgn (E F b:Int):Int:=b / pw E / pw F
def fld (E F b:Int):Int:=b / pw F%pw E
def fig (F b:Int):Int:=b%pw F
def In (E F b:Int):Prop:=0<=b/\b<pw (E+F+1)
theorem In.parts {E F b:Int} (h:Sz E F) (hb:In E F b):(0<=sgn E F b/\sgn E F b<=1)/\(0<=fld E F b/\fld E F b<pw E)/\(0<=fig F b/\fig F b<pw F):=by
 obtain ⟨h1,h2,h3,h4⟩:=h
 have eW:pw (E+F+1)=2*(pw E*pw F):=by rw [gW ⋯,bR ⋯ ⋯]
 exact AS (P:=pw E) (Q:=pw F) (b:=b) ↥104 ↥104 hb.1 (by rw [<- eW];exact hb.2)
def kindS (E f g:Int):Str:=if f=0 then (if g=0 then "nought" else "faint") else if f=pw E - 1 then (if g=0 then "endless" else "none") else "plain"
def wh (F f g:Int):Int:=if f=0 then g else pw F+g
def lo (E F:Int):Int:=2 - pw (E - 1) - F
def po (E F f:Int):Int:=if f=0 then lo E F else lo E F+f - 1
def frT (w p:Int):Int:=if 0<=p then w*pw p else w
def frB (p:Int):Int:=if 0<=p then 1 else pw (-p)
theorem pU {E F:Int} (h:Sz E F):pw E<=32768:=jc h.2.1
theorem Iw {E F:Int} (h:Sz E F):pw F<=5192296858534827628530496329220096:=jc h.2.2.2
theorem kO {E F:Int} (h:Sz E F):pw (E - 1)<=16384:=jc (b:=14) (by have:=h.2.1;omega)
theorem iu {i:Int} {k:Nat} (h0:0<=i) (h:i<2^k):nb i<=k:=mw.mpr (by
 have:((i.natAbs:Nat):Int)<((2^k:Nat):Int):=by rw [Int.natAbs_of_nonneg h0];simpa using h
 exact Int.ofNat_lt.mp this)
theorem QU {c k:Int} (h:nb c<=2^20) (hk:0<k):nb (c / k)<=1048576:=qb hk h
theorem dM {s t:Int} (h0:0<=s) (h1:s<=1) (ht:nb t<=100000):MulOk s t:=by
 have:nb s<=1:=iu h0 ⋯
 unfold MulOk;omega
theorem kH {k:Int} (h0:0<=k) (h1:k<=1000000):gf (.int 1) (.int k)=.ok (.int (pw k)):=by
 have:nb (1:Int)=1:=by decide
 rw [bh h0 ⋯,Ĥ]
theorem Dr {E F b:Int} (h:Sz E F) (hb:In E F b):nb (wh F (fld E F b) (fig F b))<=128:=by
 obtain ⟨_,_,i3⟩:=hb.parts h
 have:=Iw h
 have:=ao F
 unfold wh
 split
 ·exact iu i3.1 ⋯
 ·exact iu ⋯ ⋯
theorem LU {E F b:Int} (h:Sz E F) (hb:In E F b) : -100000<=po E F (fld E F b)/\po E F (fld E F b)<=100000:=by
 obtain ⟨_,i2,_⟩:=hb.parts h
 have:=pU h
 have:=kO h
 have:=ao (E - 1)
 obtain ⟨h1,h2,h3,h4⟩:=h
 unfold po lo
 split<;>omega
theorem tG {a b:Int} (h:d∈iY a b):∃ k,a<=k/\k<b/\d=.int k:=by
 unfold iY at h
 obtain ⟨k,hk,e⟩:=å.mp h
 have:=ŝ.mp hk
 exact ⟨a+k,⋯,⋯,e.symm⟩
theorem yU {α:Type} {xs:List α} {lo hi:Option Int} {d:α} (h:d∈EV.cut xs lo hi):d∈xs:=ş (Ņ h)
end EV
namespace EV
def cd (E F b:Int):Int:=b%pw ↥9
def rk (E F b:Int):Int:=if pw ↥9<=b then -(cd E F b) else cd E F b
def vl (F c:Int):Int:=if c / pw F=0 then c else (pw F+c%pw F)*pw (c / pw F - 1)
def nn (E F b:Int):Prop:=pw ↥9 - pw F<cd E F b
noncomputable instance {E F b:Int}:Decidable (nn E F b):=inferInstanceAs (Decidable (_<_))
section
variable {E F a b c c':Int}
theorem Ko (h:Sz E F):cd E F b / pw F=fld E F b:=by
 obtain ⟨h1,h2,h3,h4⟩:=h
 unfold cd fld;rw [bR ⋯ ⋯,part1 ↥104 ↥104]
theorem Kn (h:Sz E F):cd E F b%pw F=fig F b:=by
 obtain ⟨h1,h2,h3,h4⟩:=h
 unfold cd fig;rw [bR ⋯ ⋯,part2]
theorem eI (h:Sz E F):4*pw F<=pw ↥9:=by
 obtain ⟨h1,h2,h3,h4⟩:=h
 have:=ao F
 rw [bR ⋯ ⋯];exact Ü (rz h1) ⋯
theorem qV (h:Sz E F):pw (E+F+1)=2*pw ↥9:=by
 obtain ⟨h1,h2,h3,h4⟩:=h
 exact gW ⋯
theorem HX (h:Sz E F) (hb:In E F b):sgn E F b=if pw ↥9<=b then 1 else 0:=by
 obtain ⟨h1,h2,h3,h4⟩:=id h
 have e0:sgn E F b=b / pw ↥9:=by unfold sgn;rw [bR ⋯ ⋯,part0 ↥104 ↥104]
 have hw:=qV h
 have hp:=ao ↥9
 obtain ⟨b0,b1⟩:=hb
 rw [e0]
 split
 ·rename_i z
  have l:1<=b / pw ↥9:=ź hp ⋯
  have u:b / pw ↥9<2:=Ļ hp ⋯
  omega
 ·rename_i z
  exact ĝ b0 ⋯
theorem qX:vl F 0=0:=by unfold vl;simp
theorem Hj (h0:0<=c) (h:c<c'):vl F c<vl F c':=by
 have hQ:=ao F
 have hm:c / pw F<=c' / pw F:=Int.ediv_le_ediv hQ ⋯
 have hf0:0<=c / pw F:=ĕ h0 ⋯
 have e:=Ř c (pw F)
 have e':=Ř c' (pw F)
 have r0:=ä c (show pw F≠0 by omega)
 have r1:=ã c hQ
 have s0:=ä c' (show pw F≠0 by omega)
 have s1:=ã c' hQ
 unfold vl
 generalize c / pw F=f at *
 generalize c' / pw F=f' at *
 generalize c%pw F=r at *
 generalize c'%pw F=r' at *
 by_cases z:f=0
 ·rw [if_pos z]
  subst z
  by_cases z':f'=0
  ·rw [if_pos z'];exact h
  ·rw [if_neg z']
   have p1:1<=pw (f' - 1):=ao _
   have:(pw F+r')*1<=(pw F+r')*pw (f' - 1):=Ī p1 ⋯
   rw [Int.mul_zero] at e
   omega
 ·rw [if_neg z,if_neg ⋯]
  by_cases q:f=f'
  ·subst q
   exact ø ⋯ ↥104
  ·have e1:pw f=2*pw (f - 1):=gX ⋯
   have e2:pw f<=pw (f' - 1):=jc ⋯
   have k1:(pw F+r)*pw (f - 1)<(2*pw F)*pw (f - 1):=ø ⋯ ↥104
   have k2:(2*pw F)*pw (f - 1)=pw F*pw f:=by rw [e1,ö 2,Ù]
   have k3:pw F*pw f<=pw F*pw (f' - 1):=Ī e2 ⋯
   have k4:pw F*pw (f' - 1)<=(pw F+r')*pw (f' - 1):=Ü ⋯ (Þ ↥104)
   omega
theorem Du (h:Sz E F) (h0:0<=c) (h1:c<pw ↥9):c / pw F<pw E/\0<=c / pw F:=by
 obtain ⟨k1,k2,k3,k4⟩:=h
 refine ⟨Ļ ↥104 ?_,ĕ h0 (Þ ↥104)⟩
 rw [<- bR ⋯ ⋯];exact h1
def ab (E F b:Int):Int:=if rk E F b=pw ↥9 - pw F then b else if rk E F b<0 then pw ↥9 - (rk E F b+1) else rk E F b+1
def be (E F b:Int):Int:=if rk E F b = -↥103 then b else if 0<rk E F b then rk E F b - 1 else pw ↥9 - (rk E F b - 1)
theorem end_is (h:Sz E F):(pw E - 1)*pw F=pw ↥9 - pw F:=by
 obtain ⟨h1,h2,h3,h4⟩:=h
 rw [bR ⋯ ⋯,ĸ,Ĥ]
theorem Ds (h0:0<=c):vl F (c+1) - vl F c=pw (max (c / pw F - 1) 0):=by
 have hQ:=ao F
 have f0:0<=c / pw F:=ĕ h0 ⋯
 have e:=Ř c (pw F)
 have r0:=ä c (show pw F≠0 by omega)
 have r1:=ã c hQ
 by_cases q:c%pw F+1<pw F
 ·have e1:(c+1) / pw F=c / pw F:=by
   rw [show c+1=(c%pw F+1)+pw F*(c / pw F) by omega,ř _ _ ⋯,ĝ ⋯ q];omega
  have e2:(c+1)%pw F=c%pw F+1:=by
   rw [show c+1=(c%pw F+1)+pw F*(c / pw F) by omega,Ť,Ğ ⋯ q]
  unfold vl
  rw [e1,e2]
  by_cases z:c / pw F=0
  ·rw [if_pos z,if_pos z,z]
   have:pw (max (0 - 1) 0)=1:=rfl
   omega
  ·rw [if_neg z,if_neg z,show max (c / pw F - 1) 0=c / pw F - 1 by omega,<-ĸ]
   rw [show pw F+(c%pw F+1) - (pw F+c%pw F)=1 by omega,Ĥ]
 ·have e1:(c+1) / pw F=c / pw F+1:=by
   rw [show c+1=0+pw F*(c / pw F+1) by rw [Ée];omega,ř _ _ ⋯];simp
  have e2:(c+1)%pw F=0:=by
   rw [show c+1=0+pw F*(c / pw F+1) by rw [Ée];omega,Ť];simp
  unfold vl
  rw [e1,e2,if_neg ⋯]
  by_cases z:c / pw F=0
  ·rw [if_pos z,z]
   have k1:pw (max (0 - 1) 0)=1:=rfl
   have k2:pw ((0:Int)+1 - 1)=1:=rfl
   rw [k1,k2]
   rw [z,Int.mul_zero] at e
   omega
  ·rw [if_neg z,show max (c / pw F - 1) 0=c / pw F - 1 by omega,show c / pw F+1 - 1=c / pw F by omega,gX (F:=c / pw F) ⋯]
   generalize pw (c / pw F - 1)=m
   rw [show pw F+0=pw F by omega,show pw F+c%pw F=2*pw F - 1 by omega,ĸ,Ĥ,<-Ù,ö (pw F) 2]
   omega
theorem oo {x a b:PySem.Str}:oIn (.str x) (.tup [.str a,.str b])=.ok (.bl (decide (a=x\/b=x))):=by
 unfold oIn isIn
 simp only [D.sc,ĵ,List.all_nil,Àc,Bool.and_true,if_true,ŉ,List.any_nil,D.beq,Åc]
 by_cases h1:a=x<;>by_cases h2:b=x<;>simp [h1,h2]
end
end EV
namespace EV
section
variable {t n p k a b c:Int}
theorem a9 (h:p<=0):pw p=1:=by unfold pw;rw [Int.toNat_of_nonpos h];rfl
theorem dN (hc:0<c):a*c<b*c↔a<b:=⟨fun h=>Äa h (Þ hc),fun h=>ø h hc⟩
theorem oi (hk:0<=k):pw (p+k)*pw (-p)=pw k*pw p*pw (-(p+k)):=by
 by_cases h1:0<=p
 ·rw [a9 (p := -p) ⋯,a9 (p := -(p+k)) ⋯,bR h1 hk,Ģ,Ģ,ö]
 ·by_cases h2:0<=p+k
  ·rw [a9 (p:=p) ⋯,a9 (p := -(p+k)) ⋯,<-bR h2 ⋯,show p+k + -p=k by omega];omega
  ·rw [a9 (p:=p) ⋯,a9 (p:=p+k) ⋯,Ĥ,Ģ,<-bR hk ⋯,show k + -(p+k) = -p by omega]
def Lt (t n p:Int):Prop:=t*pw (-p)<n*pw p
noncomputable instance:Decidable (Lt t n p):=inferInstanceAs (Decidable (_<_))
theorem ow (hk:0<=k):t*pw (-p)<pw k*(n*pw p)↔Lt t n (p+k):=by
 have z1:=ao (-(p+k))
 have z2:=ao (-p)
 unfold Lt
 rw [<- dN z1,<-dN (a:=t*pw (-(p+k))) z2]
 have e1:pw k*(n*pw p)*pw (-(p+k))=n*pw (p+k)*pw (-p):=by
  rw [Ù n,oi hk,<-Ù (pw k),ö (pw k) n]
  simp only [Ù]
 have e2:t*pw (-p)*pw (-(p+k))=t*pw (-(p+k))*pw (-p):=Int.mul_right_comm ..
 rw [e1,e2]
theorem Jz (h:0<t):pw ((nb t:Int) - 1)<=t:=by
 have h1:¬ nb t<=nb t - 1:=by
  have:nb t≠0:=fun z=>by
   have:=mw.mp (Ń z)
   omega
  omega
 rw [mw] at h1
 have h2:((2^(nb t - 1):Nat):Int)<=t:=⋯
 unfold pw
 rw [show ((nb t:Int) - 1).toNat=nb t - 1 by omega]
 simpa using h2
theorem t4 (h:0<t):1<=nb t:=by
 rcases Nat.eq_zero_or_pos (nb t) with z | z
 ·have:=mw.mp (Ń z)
  omega
 ·exact z
def hgt (t n:Int):Int:=if Lt t n (nb t - nb n) then (nb t - nb n:Int) else nb t - nb n+1
theorem Ms (ht:0<t) (hn:0<n):Lt t n ((nb t:Int) - nb n+1):=by
 have l1:=mP (i:=t) ⋯
 have l2:=Jz hn
 have l3:=t4 hn
 unfold Lt
 generalize hp:(nb t:Int) - nb n+1=p
 have e:=oi (p:=p) (k:=(nb n:Int) - 1) ⋯
 rw [show p+((nb n:Int) - 1)=nb t by omega,a9 (p := -(nb t:Int)) ⋯,Ģ] at e
 have k1:t*pw (-p)<pw (nb t)*pw (-p):=ø l1 ↥104
 have k2:pw ((nb n:Int) - 1)*pw p<=n*pw p:=Ü l2 (Þ ↥104)
 omega
theorem Ft (ht:0<t) (hn:0<n):¬ Lt t n ((nb t:Int) - nb n - 1):=by
 have l1:=Jz ht
 have l2:=mP (i:=n) ⋯
 have l3:=t4 ht
 unfold Lt
 generalize hp:(nb t:Int) - nb n - 1=p
 have e:=oi (p:=p) (k:=(nb n:Int)) ⋯
 rw [show p+(nb n:Int)=(nb t:Int) - 1 by omega,a9 (p := -((nb t:Int) - 1)) ⋯,Ģ] at e
 have k1:pw ((nb t:Int) - 1)*pw (-p)<=t*pw (-p):=Ü l1 (Þ ↥104)
 have k2:n*pw p<pw (nb n)*pw p:=ø l2 ↥104
 omega
theorem JV (ht:0<t) (hn:0<n):Lt t n (hgt t n)/\¬ Lt t n (hgt t n - 1)/\hgt t n<=nb t /\ -(nb n:Int)<=hgt t n:=by
 have l1:=t4 ht
 have l2:=t4 hn
 unfold hgt
 by_cases g:Lt t n (nb t - nb n)
 ·rw [if_pos g]
  exact ⟨g,Ft ht hn,⋯,⋯⟩
 ·rw [if_neg g]
  refine ⟨Ms ht hn,?_,⋯,⋯⟩
  rw [show (nb t:Int) - nb n+1 - 1=nb t - nb n by omega]
  exact g
theorem Fs (hn:0<n) (h:Lt t n p) (hq:p<=q):Lt t n q:=by
 have:=(ow (t:=t) (n:=n) (p:=p) (k:=q - p) ⋯).mp (by
  have z:1<=pw (q - p):=ao _
  have y:0<n*pw p:=ţ hn ↥104
  have:=Ü z (Þ y)
  unfold Lt at h
  omega)
 rw [show p+(q - p)=q by omega] at this
 exact this
def m4 (E F t n:Int):Int:=max (lo E F) (hgt t n - F - 1)
def kr (p t:Int):Int:=t*pw (-p)
def gK (p n:Int):Int:=n*pw p
def rst (l s:Int):Int:=if l=0 then 0 else if 2*l<s then 1 else if 2*l=s then 2 else 3
theorem kq (hn:0<n):0<gK p n:=ţ hn ↥104
theorem sE (ht:0<=t):0<=kr p t:=Ĝ ht (Þ ↥104)
variable {E F:Int}
theorem lz (h:Sz E F) : -20000<=lo E F/\lo E F <= -1:=by
 have:=kO h
 have:2<=pw (E - 1):=kN (by have:=h.1;omega)
 obtain ⟨h1,h2,h3,h4⟩:=h
 unfold lo
 omega
theorem oM (h:Sz E F) (ht:0<t) (hn:0<n) :
  lo E F<=m4 E F t n/\m4 E F t n<=nb t/\kr ↥23 t<2*pw F*gK ↥23 n/\(lo E F<m4 E F t n->pw F*gK ↥23 n<=kr ↥23 t):=by
 obtain ⟨g1,g2,g3,g4⟩:=JV ht hn
 have l:=lz h
 obtain ⟨h1,h2,h3,h4⟩:=h
 have e:2*pw F=pw (F+1):=(gW ⋯).symm
 refine ⟨by unfold m4;omega,by unfold m4;omega,?_,fun q => ?_⟩
 ·rw [e]
  unfold kr gK
  rw [ow ⋯]
  exact Fs hn g1 (by unfold m4;omega)
 ·have hP:m4 E F t n=hgt t n - F - 1:=by unfold m4 at q ⊢;omega
  have:=fun z=>g2 (by
   have:=(ow (t:=t) (n:=n) (p:=m4 E F t n) (k:=F) ⋯).mp z
   rw [hP,show hgt t n - F - 1+F=hgt t n - 1 by omega] at this
   exact this)
  have:=Int.not_lt.mp this
  unfold kr gK
  omega
theorem JA (h:Sz E F) (hA:0<=A) (hB:0<B) (hw:A<2*pw F*B):iX A B:=by
 refine ⟨hB,.inr ?_⟩
 have n1:nb (2*pw F)<=2+113:=ll ↥1 (gZ (c:=112) h.2.2.2)
 have n2:=ll n1 (ñ (nb B))
 have n3:nb A<=nb (2*pw F*B):=jg ⋯
 omega
end
end EV
namespace EV
section
variable {E F t n P w l A B K D:Int}
theorem DH (h:Sz E F) (hP:lo E F<=P):t*pw ↥87*gK P n=kr P t*(n*pw ↥100):=by
 have l:=lz h
 have e:=oi (p := -P) (k:=P - lo E F) ⋯
 rw [show -P+↥100 = -(lo E F) by omega,Int.neg_neg,Int.neg_neg,a9 (p:=lo E F) ⋯,Ģ] at e
 unfold kr gK
 have e2:t*pw ↥87*(n*pw P)=t*n*(pw ↥87*pw P):=by
  rw [Ù,Ù,<-Ù (pw ↥87),ö (pw ↥87) n,Ù]
 have e3:t*pw (-P)*(n*pw ↥100)=t*n*(pw ↥100*pw (-P)):=by
  rw [Ù,Ù,<-Ù (pw (-P)),ö (pw (-P)) n,Ù,ö (pw (-P))]
 rw [e2,e3,e]
def codeOf (E F P w:Int):Int:=↥100*pw F+w
theorem ku (h:Sz E F) (hP:lo E F<=P) (w0:0<=w) (w1:w<2*pw F) (w2:lo E F<P->pw F<=w):0<=codeOf E F P w /\
  ((w<pw F/\P=lo E F/\codeOf E F P w=w)\/(pw F<=w/\codeOf E F P w / pw F=P - lo E F+1/\codeOf E F P w%pw F=w - pw F)):=by
 have hQ:=ao F
 have z:0<=↥100*pw F:=Ĝ ⋯ ⋯
 refine ⟨by unfold codeOf;omega,?_⟩
 by_cases g:w<pw F
 ·have e:P=lo E F:=by
   refine á fun q => ?_
   have:=w2 ⋯
   omega
  refine .inl ⟨g,e,?_⟩
  unfold codeOf
  rw [e,Çh,ā,Int.zero_add]
 ·refine .inr ⟨⋯,?_,?_⟩
  ·have e:codeOf E F P w=(w - pw F)+pw F*(P - lo E F+1):=by
    unfold codeOf;rw [Ée,ö (pw F) ↥100];omega
   rw [e,ř _ _ ⋯,ĝ ⋯ ⋯];omega
  ·have e:codeOf E F P w=(w - pw F)+pw F*(P - lo E F+1):=by
    unfold codeOf;rw [Ée,ö (pw F) ↥100];omega
   rw [e,Ť,Ğ ⋯ ⋯]
theorem sF (h:Sz E F) (hP:lo E F<=P) (w0:0<=w) (w1:w<2*pw F) (w2:lo E F<P->pw F<=w) :
  vl F (codeOf E F P w)=w*pw ↥100/\vl F (codeOf E F P w+1)=(w+1)*pw ↥100:=by
 have hQ:=ao F
 obtain ⟨c0,c⟩:=ku h hP w0 w1 w2
 have s:=Ds (F:=F) c0
 have e1:vl F (codeOf E F P w)=w*pw ↥100:=by
  rcases c with ⟨c1,c2,c3⟩ | ⟨c1,c2,c3⟩
  ·unfold vl
   rw [c3,c2,if_pos (ĝ w0 c1),Çh,show pw 0=1 from rfl,Ģ]
  ·unfold vl
   rw [c2,c3,if_neg ⋯,show P - lo E F+1 - 1=P - lo E F by omega,show pw F+(w - pw F)=w by omega]
 refine ⟨e1,?_⟩
 have e2:max (codeOf E F P w / pw F - 1) 0=P - lo E F:=by
  rcases c with ⟨c1,c2,c3⟩ | ⟨c1,c2,c3⟩
  ·rw [c3,ĝ w0 c1,c2];omega
  ·rw [c2];omega
 rw [e2] at s
 rw [Ų,Ĥ,<-e1]
 omega
theorem HR (hB:0<B) (hK:0<K) (l0:0<=l) (l1:l<B) (e:D*B=l*K):0<=D/\D<K/\(D=0↔l=0)/\(2*D<K↔2*l<B)/\(2*D=K↔2*l=B):=by
 have k0:0<=l*K:=Ĝ l0 (Þ hK)
 have d0:0<=D:=by
  refine á fun q => ?_
  have:=Ŀ (show D<0 by omega) hB
  omega
 have d1:D<K:=by
  rw [<- dN hB,e,ö K]
  exact ø l1 hK
 have e2:2*D*B=2*l*K:=by rw [Ù,e,Ù]
 refine ⟨d0,d1,⟨fun q => ?_,fun q => ?_⟩,?_,?_⟩
 ·rw [q,ā] at e
  rcases Ác.mp e.symm with z | z
  ·exact z
  ·omega
 ·rw [q,ā] at e
  rcases Ác.mp e with z | z
  ·exact z
  ·omega
 ·rw [<- dN hB,e2,ö K,dN hK]
 ·constructor
  ·intro q
   rw [q,ö] at e2
   exact (ť ⋯ e2).symm
  ·intro q
   rw [q,ö B] at e2
   exact ť ⋯ e2
theorem between (h:Sz E F) (hn:0<n) (hP:lo E F<=P) (w0:0<=w) (w1:w<2*pw F) (w2:lo E F<P->pw F<=w) (l0:0<=l) (l1:l<gK P n) (e:kr P t=w*gK P n+l) :
  vl F (codeOf E F P w)*n<=t*pw ↥87/\t*pw ↥87<vl F (codeOf E F P w+1)*n/\(t*pw ↥87=vl F (codeOf E F P w)*n↔l=0) /\
  (2*(t*pw ↥87) - vl F (codeOf E F P w)*n - vl F (codeOf E F P w+1)*n<0↔2*l<gK P n) /\
  (2*(t*pw ↥87) - vl F (codeOf E F P w)*n - vl F (codeOf E F P w+1)*n=0↔2*l=gK P n):=by
 obtain ⟨v1,v2⟩:=sF h hP w0 w1 w2
 have u:=DH (t:=t) (n:=n) h hP
 have hB:=kq (p:=P) hn
 have hK:0<n*pw ↥100:=ţ hn ↥104
 rw [v1,v2]
 have x1:w*pw ↥100*n=w*(n*pw ↥100):=by rw [Ù,ö (pw _) n]
 have x2:(w+1)*pw ↥100*n=w*(n*pw ↥100)+n*pw ↥100:=by rw [Ų,Ĥ,Ų,x1,ö (pw _) n]
 rw [x1,x2]
 generalize n*pw ↥100=K at *
 generalize t*pw ↥87=T at *
 rw [e,Ų] at u
 have s:=HR (D:=T - w*K) hB hK l0 l1 (by
  rw [ĸ,u,Int.mul_right_comm w K];omega)
 omega
end
theorem uY (hn:0<n) (x0:0<=x) (hxy:x<y):vl F x*n<vl F y*n:=ø (Hj x0 hxy) hn
section
variable {E F T n c:Int}
def lV (F T n c r:Int):Prop:=(r=0/\T=vl F c*n)\/(vl F c*n<T/\((r=1/\2*T - vl F c*n - vl F (c+1)*n<0)\/(r=2/\2*T - vl F c*n - vl F (c+1)*n=0)\/(r=3/\0<2*T - vl F c*n - vl F (c+1)*n)))
theorem Bt (b:vl F c*n<=T/\T<vl F (c+1)*n/\(T=vl F c*n↔l=0)/\(2*T - vl F c*n - vl F (c+1)*n<0↔2*l<B)/\(2*T - vl F c*n - vl F (c+1)*n=0↔2*l=B)) (l0:0<=l):lV F T n c (rst l B):=by
 obtain ⟨b1,b2,b3,b4,b5⟩:=b
 unfold lV rst
 generalize vl F c*n=u at *
 generalize vl F (c+1)*n=v at *
 by_cases g0:l=0
 ·rw [if_pos g0];left;omega
 rw [if_neg g0]
 by_cases g1:2*l<B
 ·rw [if_pos g1];right;omega
 rw [if_neg g1]
 by_cases g2:2*l=B
 ·rw [if_pos g2];right;omega
 rw [if_neg g2];right;omega
end
section
variable {E F T n c c' r r' s t w p:Int}
theorem yV (hn:0<n) (c0:0<=c) (d0:0<=c') (h1:vl F c*n<=T) (h2:T<vl F (c+1)*n) (h3:vl F c'*n<=T) (h4:T<vl F (c'+1)*n):c=c':=by
 have up:∀ x y:Int,0<=x->x<=y->vl F x*n<=vl F y*n:=fun x y x0 q=>by
  rcases Int.lt_or_eq_of_le q with z | z
  ·exact Þ (uY hn x0 z)
  ·rw [z];exact í _
 rcases Int.lt_trichotomy c c' with q | q | q
 ·have:=up (c+1) c' ⋯ ⋯;omega
 ·exact q
 ·have:=up (c'+1) c ⋯ ⋯;omega
theorem vy (h1:lV F T n c r) (h2:lV F T n c r'):r=r':=by
 unfold lV at h1 h2
 omega
theorem aN (h:Sz E F) (hs:0<=s/\s<=1) (c0:0<=c) (c1:c<pw ↥9):In E F ↥90/\sgn E F ↥90=s/\fld E F ↥90=c / pw F/\fig F ↥90=c%pw F:=by
 obtain ⟨k1,k2,k3,k4⟩:=id h
 have e1:cd E F ↥90=c:=by
  unfold cd
  rw [Ëg,Âb,Ğ c0 c1]
 have e2:pw (E+F+1)=2*pw ↥9:=gW ⋯
 have hb:In E F ↥90:=by
  unfold In
  rw [e2]
  rcases (by omega:s=0\/s=1) with e | e<;>subst e<;>omega
 refine ⟨hb,?_,?_,?_⟩
 ·rw [HX h hb]
  rcases (by omega:s=0\/s=1) with e | e<;>subst e
  ·rw [if_neg ⋯]
  ·rw [if_pos ⋯]
 ·have:=Ko (b:=s*pw ↥9+c) h
  rw [e1] at this
  exact this.symm
 ·have:=Kn (b:=s*pw ↥9+c) h
  rw [e1] at this
  exact this.symm
theorem LV (c0:0<=c):lo E F<=po E F (c / pw F):=by
 have:=ĕ c0 (Þ (ao F))
 unfold po
 split<;>omega
end
end EV
namespace EV
inductive Wy where
 | even | away | nought | up | down
def Wy.s:Wy->ų
 | .even=>"even" | .away=>"away" | .nought=>"nought" | .up=>"up" | .down=>"down"
def Wy.out:Wy->Int->Bool
 | .up,s=>decide (s=0)
 | .down,s=>decide (s=1)
 | _,_=>false
def Wy.brs:Wy->Int->Bool
 | .even,_=>true
 | .away,_=>true
 | w,s=>w.out s
def Wy.grw:Wy->Int->Bool->Int->Bool
 | .even,_,odd,r=>decide (r=3)||(decide (r=2)&&odd)
 | .away,_,_,r=>decide (2<=r)
 | w,s,_,_=>w.out s
def uW (w:Wy):D:=.ins "Way" [("name",.str w.s)]
def zS:List ų:=["even","away","nought","up","down"]
def stK (w:Wy) (E F s c r:Int):Int:=if pw ↥9 - pw F<=c then (if w.brs s then pw ↥9 - pw F else pw ↥9 - pw F - 1) else if r=0 then c else if w.grw s (decide (c%2=1)) r then c+1 else c
def stF (w:Wy) (E F s c r:Int):Int:=if pw ↥9 - pw F<=c then 5 else if r=0 then 0 else if stK w E F s c r=pw ↥9 - pw F then 5 else if c<pw F then 3 else 1
theorem p8 (h:0<=i):p9 ↥123 (.int 1)=.ok (.int (i%2)):=by
 unfold p9
 simp only
 rw [if_pos ⟨h,by decide⟩]
 congr 2
 rw [show (1:Int).toNat=1 from rfl,Nat.and_one_is_mod]
 omega
theorem rH {x:PySem.Str} {ys:List ų}:gJ (.str x) (.tup (ys.map D.str))=.ok (.bl (decide (x∉ys))):=by
 have h1:∀ ys:List ų,(ys.map D.str).all D.sc=true:=fun ys=>by induction ys with
  | nil=>rfl
  | cons a l ih=>simp only [Ê,ĵ,ih,D.sc,Àc]
 have h2:∀ ys:List ų,((ys.map D.str).any fun y=>D.beq y (.str x))=decide (x∈ys):=fun ys=>by induction ys with
  | nil=>rfl
  | cons a l ih =>
   simp only [Ê,ŉ,ih,D.beq]
   by_cases h:a=x
   ·subst h;simp
   ·have:¬ x=a:=fun z=>h z.symm
    simp [h,this]
 unfold gJ oIn isIn
 simp only [D.sc,h1,Àc,if_true,h2,R.bind]
 by_cases h:x∈ys<;>simp [h]
section
variable {E F s T T' n k c c' r r':Int} {w:Wy}
theorem HU (h:Sz E F) (c0:0<=c):0<=stK w E F s c r/\stK w E F s c r<=pw ↥9 - pw F:=by
 have h5:=eI h
 have hQ:=ao F
 unfold stK
 repeat' split
 all_goals omega
theorem Ce (hk:0<k) (h1:vl F c*n<=T) (h2:T<vl F (c+1)*n) (h3:lV F T n c r):vl F c*(n*k)<=T*k/\T*k<vl F (c+1)*(n*k)/\lV F (T*k) (n*k) c r:=by
 unfold lV at h3 ⊢
 rw [<- Ù,<-Ù]
 generalize vl F c*n=A at *
 generalize vl F (c+1)*n=B at *
 have e1:∀ x:Int,x<0->x*k<0:=fun x hx=>Ŀ hx hk
 have e2:∀ x:Int,0<x->0<x*k:=fun x hx=>ţ hx hk
 have e3:2*(T*k) - A*k - B*k=(2*T - A - B)*k:=by rw [ĸ,ĸ,Ù]
 have e4:∀ x y:Int,x<y->x*k<y*k:=fun x y q=>ø q hk
 refine ⟨Ü h1 (Þ hk),e4 _ _ h2,?_⟩
 rw [e3]
 rcases h3 with ⟨a,b⟩ | ⟨a,⟨b,d⟩ | ⟨b,d⟩ | ⟨b,d⟩⟩
 ·exact .inl ⟨a,by rw [b]⟩
 ·exact .inr ⟨e4 _ _ a,.inl ⟨b,e1 _ d⟩⟩
 ·exact .inr ⟨e4 _ _ a,.inr (.inl ⟨b,by rw [d,ā]⟩)⟩
 ·exact .inr ⟨e4 _ _ a,.inr (.inr ⟨b,e2 _ d⟩)⟩
end
def At (F T n c r:Int):Prop:=0<=c/\vl F c*n<=T/\T<vl F (c+1)*n/\lV F T n c r
section
variable {E F s T T' n n' k c c' r r' b W P:Int} {w:Wy}
theorem Kz (hk:0<k) (h:At F T n c r):At F (T*k) (n*k) c r:=⟨h.1,Ce hk h.2.1 h.2.2.1 h.2.2.2⟩
theorem CY (hk:0<k) (h:At F (T*k) (n*k) c r):At F T n c r:=by
 obtain ⟨h0,h1,h2,h3⟩:=h
 unfold lV at h3
 have q1:vl F c*(n*k)=vl F c*n*k:=(Ù _ _ _).symm
 have q2:vl F (c+1)*(n*k)=vl F (c+1)*n*k:=(Ù _ _ _).symm
 rw [q1] at h1
 rw [q2] at h2
 rw [q1,q2] at h3
 have e4:∀ x y:Int,x*k<y*k->x<y:=fun x y q=>Äa q (Þ hk)
 have e3:2*(T*k) - vl F c*n*k - vl F (c+1)*n*k=(2*T - vl F c*n - vl F (c+1)*n)*k:=by rw [ĸ,ĸ,Ù 2]
 rw [e3] at h3
 have e1:∀ x:Int,x*k<0->x<0:=fun x hx=>e4 x 0 (by rw [ā];exact hx)
 have e2:∀ x:Int,0<x*k->0<x:=fun x hx=>e4 0 x (by rw [ā];exact hx)
 have e5:∀ x y:Int,x*k=y*k->x=y:=fun x y q=>ť ⋯ q
 refine ⟨h0,Int.le_of_mul_le_mul_right h1 hk,e4 _ _ h2,?_⟩
 rcases h3 with ⟨a,b⟩ | ⟨a,⟨b,d⟩ | ⟨b,d⟩ | ⟨b,d⟩⟩
 ·exact .inl ⟨a,e5 _ _ b⟩
 ·exact .inr ⟨e4 _ _ a,.inl ⟨b,e1 _ d⟩⟩
 ·exact .inr ⟨e4 _ _ a,.inr (.inl ⟨b,e5 _ 0 (by rw [d,ā])⟩)⟩
 ·exact .inr ⟨e4 _ _ a,.inr (.inr ⟨b,e2 _ d⟩)⟩
theorem Gs (hn:0<n) (hn':0<n') (e:T'*n=T*n') (h:At F T n c r):At F T' n' c r:=by
 have:=Kz hn' h
 rw [<- e,ö n n'] at this
 exact CY hn this
theorem Gr (hn:0<n) (h:At F T n c r) (h':At F T n c' r'):c=c'/\r=r':=by
 have e:=yV hn h.1 h'.1 h.2.1 h.2.2.1 h'.2.1 h'.2.2.1
 subst e
 exact ⟨rfl,vy h.2.2.2 h'.2.2.2⟩
theorem nK (h:Sz E F) (hb:In E F b):∃ s c,(0<=s/\s<=1)/\0<=c/\c<pw ↥9/\b=s*pw ↥9+c:=by
 have hw:=qV h
 have hH:=ao ↥9
 obtain ⟨b0,b1⟩:=hb
 by_cases g:b<pw ↥9
 ·exact ⟨0,b,by decide,b0,g,⋯⟩
 ·exact ⟨1,b - pw ↥9,by decide,⋯,⋯,⋯⟩
theorem pJ (hs:0<=s/\s<=1) (c0:0<=c) (c1:c<pw ↥9):↥90%pw ↥9=c/\↥90 / pw ↥9=s:=by
 have hH:=ao ↥9
 rw [Ëg,Âb,Ğ c0 c1,Int.add_mul_ediv_right _ _ ⋯,ĝ c0 c1]
 omega
theorem t9 (h:Sz E F) (c0:0<=c) (c1:c<pw ↥9):c / pw F=pw E - 1↔pw ↥9 - pw F<=c:=by
 have hQ:=ao F
 have eM:=end_is h
 constructor
 ·intro z
  have:=Int.ediv_mul_le c (show pw F≠0 by omega)
  rw [z,eM] at this
  exact this
 ·intro z
  have a:=ź (a:=pw E - 1) (b:=c) hQ (by rw [eM];exact z)
  have b:=(Du h c0 c1).1
  omega
theorem yq (h:Sz E F) (c0:0<=c) (c1:c<pw ↥9) :
  (pw ↥9 - pw F<c->kindS E (c / pw F) (c%pw F)=Ñ "none")/\(c=pw ↥9 - pw F->kindS E (c / pw F) (c%pw F)=Ñ "endless")/\(c=0->kindS E (c / pw F) (c%pw F)=Ñ "nought") /\
  (0<c->c<pw ↥9 - pw F->kindS E (c / pw F) (c%pw F)=Ñ "faint"\/kindS E (c / pw F) (c%pw F)=Ñ "plain"):=by
 have hQ:=ao F
 have h5:=eI h
 have eM:=end_is h
 have hE:=rz h.1
 have l:=t9 h c0 c1
 have e:=Èe c (pw F)
 have r0:=ä c (show pw F≠0 by omega)
 unfold kindS
 refine ⟨fun q => ?_,fun q => ?_,fun q => ?_,fun q q2 => ?_⟩
 ·have f:=l.mpr ⋯
  rw [f,eM] at e
  rw [f,if_neg ⋯,if_pos rfl,if_neg ⋯]
 ·have f:=l.mpr ⋯
  rw [f,eM] at e
  rw [f,if_neg ⋯,if_pos rfl,if_pos ⋯]
 ·rw [q,Int.zero_ediv,Int.zero_emod,if_pos rfl,if_pos rfl]
 ·have f:¬ c / pw F=pw E - 1:=fun z=>by have:=l.mp z;omega
  by_cases g:c / pw F=0
  ·rw [g] at e
   rw [if_pos g,if_neg ⋯]
   exact .inl rfl
  ·rw [if_neg g,if_neg f]
   exact .inr rfl
end
section
variable {E F E2 F2 c:Int}
theorem rep (h:Sz E F):∀ (p:Nat) (W:Int),0<=W->W<2*pw F->∃ c,0<=c/\vl F c=W*pw p
 | 0,W,w0,w1=>by
  have:=sF (P:=lo E F) h (í _) w0 w1 (fun q=>⋯)
  rw [Çh] at this
  exact ⟨_,(ku h (í _) w0 w1 (fun q=>⋯)).1,this.1⟩
 | p+1,W,w0,w1=>by
  by_cases g:pw F<=W
  ·have:=sF (P:=lo E F+(p+1:Nat)) h ⋯ w0 w1 (fun q=>g)
   rw [show lo E F+(p+1:Nat) - lo E F=(p+1:Nat) by omega] at this
   exact ⟨_,(ku (P:=lo E F+(p+1:Nat)) h ⋯ w0 w1 (fun q=>g)).1,this.1⟩
  ·obtain ⟨c,c0,e⟩:=rep h p (2*W) ⋯ ⋯
   refine ⟨c,c0,?_⟩
   rw [e,show ((p+1:Nat):Int)=(p:Int)+1 by omega,gW ⋯,Ù,Int.mul_left_comm]
end
section
variable {E F s t n c T Z:Int} {w:Wy}
end
section
variable {E F P S A B G X t n r c:Int}
end
section
variable {E F s c r:Int}
end
end EV
namespace EV
open PySem
variable {E F s s' c c':Int}
def sx (s s':Int):Int:=if s=s' then 0 else 1
theorem LH:0<=sx s s'/\sx s s'<=1:=by unfold sx;split<;>decide
theorem wG:sx s s'=sx s' s:=by unfold sx;by_cases g:s=s'<;>simp [g,eq_comm]
theorem LG (hs:0<=s/\s<=1) (hs':0<=s'/\s'<=1):rK (.int s) (.int s')=.ok (.int (sx s s')):=by
 rcases (by omega:s=0\/s=1) with e | e<;>rcases (by omega:s'=0\/s'=1) with e' | e'<;>subst e e'<;>rfl
theorem gq (h:Sz E F) (c0:0<=c) (c1:c<pw ↥9):(kindS E (c / pw F) (c%pw F)=Ø "none"↔pw ↥9 - pw F<c)/\(kindS E (c / pw F) (c%pw F)=Ø "endless"↔c=pw ↥9 - pw F)/\(kindS E (c / pw F) (c%pw F)=Ø "nought"↔c=0):=by
 have h5:=eI h
 have hQ:=ao F
 obtain ⟨a,b,d,f⟩:=yq h c0 c1
 have n1:Str.ofString "none"≠Ø "endless":=by decide
 have n2:Str.ofString "none"≠Ø "nought":=by decide
 have n3:Str.ofString "endless"≠Ø "nought":=by decide
 have n4:Str.ofString "faint"≠Ø "none"/\Ø "faint"≠Ø "endless"/\Ø "faint"≠Ø "nought":=by decide
 have n5:Str.ofString "plain"≠Ø "none"/\Ø "plain"≠Ø "endless"/\Ø "plain"≠Ø "nought":=by decide
 by_cases g1:pw ↥9 - pw F<c
 ·rw [a g1];exact ⟨⟨fun _=>g1,fun _=>rfl⟩,⟨fun z=>absurd z n1,fun z=>⋯⟩,⟨fun z=>absurd z n2,fun z=>⋯⟩⟩
 by_cases g2:c=pw ↥9 - pw F
 ·rw [b g2];exact ⟨⟨fun z=>absurd z.symm n1,fun z=>⋯⟩,⟨fun _=>g2,fun _=>rfl⟩,⟨fun z=>absurd z n3,fun z=>⋯⟩⟩
 by_cases g3:c=0
 ·rw [d g3];exact ⟨⟨fun z=>absurd z.symm n2,fun z=>⋯⟩,⟨fun z=>absurd z.symm n3,fun z=>⋯⟩,⟨fun _=>g3,fun _=>rfl⟩⟩
 ·rcases f ⋯ ⋯ with e | e<;>rw [e]
  ·exact ⟨⟨fun z=>absurd z n4.1,fun z=>⋯⟩,⟨fun z=>absurd z n4.2.1,fun z=>⋯⟩,⟨fun z=>absurd z n4.2.2,fun z=>⋯⟩⟩
  ·exact ⟨⟨fun z=>absurd z n5.1,fun z=>⋯⟩,⟨fun z=>absurd z n5.2.1,fun z=>⋯⟩,⟨fun z=>absurd z n5.2.2,fun z=>⋯⟩⟩
end EV
namespace EV
theorem mY:∀ bs:List Int,D.flats (bs.map D.int)=true
 | []=>rfl
 | b::bs=>by
  rw [Ê]
  unfold D.flats
  rw [mY bs]
  rfl
theorem aM {bs:List Int}:dD (bs.map D.int)=.ok (.lst (bs.map D.int)):=by
 unfold dD
 rw [if_pos (mY bs)]
theorem eS (f:α->β) (xs:List α) (lo hi:Option Int):EV.cut (xs.map f) lo hi=(EV.cut xs lo hi).map f:=by
 unfold EV.cut
 rw [Á,List.map_take,List.map_drop]
theorem F6 (xs:List α) (lo hi:Option Int):(EV.cut xs lo hi).length<=xs.length:=by
 unfold EV.cut
 rw [é,ú]
 omega
theorem xb:∀ bs:List Int,(bs.map D.int).all D.sc=true
 | []=>rfl
 | b::bs=>by rw [Ê,ĵ,xb bs];rfl
theorem any_ints (x:Int):∀ bs:List Int,((bs.map D.int).any fun y=>D.beq y (.int x))=decide (x∈bs)
 | []=>rfl
 | b::bs=>by
  rw [Ê,ŉ,any_ints x bs]
  unfold D.beq
  by_cases h:b=x
  ·subst h;simp
  ·have:¬ x=b:=fun z=>h z.symm
   simp [h,this]
theorem dk {x:Int} {bs:List Int}:oIn (.int x) (.lst (bs.map D.int))=.ok (.bl (decide (x∈bs))):=by
 unfold oIn isIn
 simp only [D.sc,xb,Àc,if_true,any_ints]
theorem A8 {bs:List Int} {k:Int} (h0:0<=k) (h1:k<bs.length):oIx (.lst (bs.map D.int)) (.int k)=.ok (.int (bs.getD k.toNat 0)):=by
 obtain ⟨j,rfl⟩:=Æg h0
 have hj:j<bs.length:=⋯
 refine dO ?_
 simp [Ë,Â hj,Î]
theorem kM:∀ {ds:List D},(∀ d∈ds,st d=.ok (o d))->runC st ds=.ok (ds.filterMap o)
 | [],_=>rfl
 | d::ds,h=>by
  unfold runC
  rw [h d (.head _),kM fun d hd=>h d (.tail _ hd),İ]
  cases o d<;>rfl
end EV
namespace EV
open PySem
abbrev Tm:=Int×Int×Int
def tD (t:Tm):D:=.tup [.int t.1,.int t.2.1,.int t.2.2]
def tv (q:Int) (t:Tm):Int:=if t.1=1 then -(t.2.1*pw (t.2.2 - q)) else t.2.1*pw (t.2.2 - q)
def cX (q:Int):List Tm->Int
 | []=>0
 | t::r=>tv q t+cX q r
def lx:List Tm->Int
 | []=>0
 | t::r=>(r.map (·.2.2)).foldl min t.2.2
def C0 (t:Tm):Prop:=0<=t.2.1/\nb t.2.1<=1000 /\ -200000<=t.2.2/\t.2.2<=200000
theorem fold_min:∀ (l:List Int) (a:Int),l.foldl min a<=a/\(∀ x∈l,l.foldl min a<=x)/\(l.foldl min a=a\/l.foldl min a∈l)
 | [],a=>⟨í _,fun x hx=>(nomatch hx),.inl rfl⟩
 | b::l,a=>by
  obtain ⟨h1,h2,h3⟩:=fold_min l (min a b)
  rw [List.foldl_cons]
  refine ⟨⋯,fun x hx => ?_,?_⟩
  ·rcases Ö.mp hx with e | hx
   ·subst e;omega
   ·exact h2 x hx
  ·rcases h3 with e | e
   ·rw [e]
    by_cases g:a<=b
    ·exact .inl ⋯
    ·exact .inr (Ö.mpr (.inl ⋯))
   ·exact .inr (.tail _ e)
theorem rN (h:t∈ts):lx ts<=t.2.2:=by
 cases ts with
 | nil=>cases h
 | cons a r =>
  obtain ⟨h1,h2,_⟩:=fold_min (r.map (·.2.2)) a.2.2
  rcases Ö.mp h with e | h
  ·subst e;exact h1
  ·exact h2 _ (å.mpr ⟨t,h,rfl⟩)
theorem t6 (hn:ts≠[]):∃ t∈ts,lx ts=t.2.2:=by
 cases ts with
 | nil=>exact absurd rfl hn
 | cons x r =>
  obtain ⟨_,_,h3⟩:=fold_min (r.map (·.2.2)) x.2.2
  rcases h3 with e | e
  ·exact ⟨x,.head _,e⟩
  ·obtain ⟨t,ht,e'⟩:=å.mp e
   exact ⟨t,.tail _ ht,e'.symm⟩
theorem rO (h0:a<=0/\0<=b) (h:∀ t∈ts,a<=t.2.2/\t.2.2<=b):a<=lx ts/\lx ts<=b:=by
 by_cases g:ts=[]
 ·subst g;exact h0
 ·obtain ⟨t,ht,e⟩:=t6 g
  rw [e]
  exact h t ht
theorem yc (hn:ts≠[]) (h:∀ t∈ts,a<=t.2.2):a<=lx ts:=by
 obtain ⟨t,ht,e⟩:=t6 hn
 rw [e]
 exact h t ht
theorem Al (hq:q<=p) (hp:p<=t.2.2):tv q t=tv p t*pw (p - q):=by
 have e:pw (t.2.2 - q)=pw (t.2.2 - p)*pw (p - q):=by rw [<- bR ⋯ ⋯];congr 1;omega
 unfold tv
 split
 ·rw [e,Ìa,Ù]
 ·rw [e,Ù]
theorem pH (hq:q<=p):∀ {ts:List Tm},(∀ t∈ts,p<=t.2.2)->cX q ts=cX p ts*pw (p - q)
 | [],_=>by unfold cX;rw [ā]
 | t::r,h=>by
  unfold cX
  rw [Al hq (h t (.head _)),pH hq fun t ht=>h t (.tail _ ht),Ų]
theorem wH (h:∀ t∈ts,q<=t.2.2):cX q ts=cX (lx ts) ts*pw (lx ts - q):=by
 cases ts with
 | nil=>unfold cX;rw [ā]
 | cons t r=>exact pH (yc ↥80 h) fun t ht=>rN ht
theorem ints_of:∀ ns:List Int,intsOf (ns.map D.int)=some ns
 | []=>rfl
 | n::r=>by
  rw [Ê]
  show (intsOf (r.map D.int)).map (n::·)=_
  rw [ints_of r]
  rfl
theorem yd:oX 0 [.lst ((ts.map (·.2.2)).map D.int)]=.ok (.int (lx ts)):=by
 unfold oX
 simp only [ints_of]
 cases ts with
 | nil=>rfl
 | cons t r=>rfl
theorem oa {st:D->R (Option D)} {f:Tm->Int} {ts:List Tm} (h:∀ t∈ts,st (tD t)=.ok (some (.int (f t)))):runC st (ts.map tD)=.ok ((ts.map f).map D.int):=by
 induction ts with
 | nil=>rfl
 | cons t r ih =>
  rw [Ê]
  unfold runC
  rw [h t (.head _),ih fun t ht=>h t (.tail _ ht)]
  rfl
theorem BH (hq:q<=0) (hp:q<=p):frT w p*pw (-q)=w*pw (p - q)*frB p:=by
 unfold frT frB
 split
 ·rw [Ģ,Ù,<-bR ⋯ ⋯]
  congr 2
 ·rw [Ù,<-bR ⋯ ⋯]
  congr 2
  omega
theorem Ct:∀ {ts:List Tm},(∀ t∈ts,C0 t/\p<=t.2.2/\t.2.2 - p<=450000)->nb (cX p ts)<=451001+ts.length
 | [],_=>by unfold cX;decide
 | t::r,h=>by
  obtain ⟨⟨a1,a2,a3,a4⟩,a5,a6⟩:=h t (.head _)
  have ih:=Ct (p:=p) (ts:=r) fun t ht=>h t (.tail _ ht)
  have b1:nb (t.2.1*pw (t.2.2 - p))<=451001:=by
   have:=ll a2 (gZ (k:=t.2.2 - p) (c:=450000) ⋯)
   omega
  have b2:nb (tv p t)<=451001:=by
   unfold tv
   split
   ·rw [t5];exact b1
   ·exact b1
  unfold cX
  rw [Ò]
  exact Ð (xZ b2 ih) ⋯
def wt (E F s c:Int):Tm:=(s,wh F (c / pw F) (c%pw F),po E F (c / pw F))
theorem we {E F s c:Int} (h:Sz E F) (c0:0<=c) (c1:c<pw ↥9 - pw F):C0 (wt E F s c)/\lo E F<=(wt E F s c).2.2/\(wt E F s c).2.2<=20000:=by
 have hQ:=ao F
 obtain ⟨b1,b2,b3,b4⟩:=aN (s:=0) (c:=c) h ↥1 c0 ⋯
 have n:=Dr h b1
 have i:=LU h b1
 rw [b3] at n i
 rw [b4] at n
 have g:=LV (E:=E) (F:=F) c0
 have r0:=ä c (show pw F≠0 by omega)
 have d1:=(Du h c0 ⋯).1
 have hE:=pU h
 have l:=lz h
 obtain ⟨k1,k2,k3,k4⟩:=id h
 have hp1:=ao (E - 1)
 have x1 : -200000<=po E F (c / pw F):=⋯
 have x2:po E F (c / pw F)<=200000:=⋯
 refine ⟨⟨?_,Ð n ↥1,x1,x2⟩,g,?_⟩
 ·show 0<=wh F (c / pw F) (c%pw F)
  unfold wh
  split<;>omega
 ·show po E F (c / pw F)<=20000
  have:=(Du h c0 (show c<pw ↥9 by omega)).2
  unfold po lo
  have hE1:=gX (F:=E) (by have:=h.1;omega)
  have hE2:=kO h
  split<;>omega
def xD:Tm ⊕ Int->D
 | .inl t=>tD t
 | .inr s=>.tup [.int s,.non,.int 0]
def qk (xs:List (Tm ⊕ Int)):List Int:=xs.filterMap fun x=>match x with | .inl _=>none | .inr s=>some s
def nI (E F:Int) (x:Int×Int):Int:=x.1*pw ↥9+x.2
def dB (E F:Int) (x:Int×Int):Prop:=(0<=x.1/\x.1<=1)/\0<=x.2/\x.2<pw ↥9
def xt (E F:Int) (x:Int×Int):Tm ⊕ Int:=if x.2=pw ↥9 - pw F then .inr x.1 else .inl (wt E F x.1 x.2)
theorem sW {xs:List (Tm ⊕ Int)}:D.flats (xs.map xD)=true:=by
 induction xs with
 | nil=>rfl
 | cons x r ih =>
  rw [Ê]
  show (D.flat (xD x)&&D.flats (r.map xD))=true
  rw [ih]
  cases x<;>rfl
def pm (E F:Int) (x y:Int×Int):Tm:=(sx x.1 y.1,wh F (x.2 / pw F) (x.2%pw F)*wh F (y.2 / pw F) (y.2%pw F),po E F (x.2 / pw F)+po E F (y.2 / pw F))
def pt (E F:Int) (x y:Int×Int):Tm ⊕ Int:=if x.2=pw ↥9 - pw F\/y.2=pw ↥9 - pw F then .inr (sx x.1 y.1) else .inl (pm E F x y)
theorem LW {E F:Int} (h:Sz E F) (c0:0<=x.2) (c1:x.2<pw ↥9 - pw F) (d0:0<=y.2) (d1:y.2<pw ↥9 - pw F):C0 (pm E F x y)/\2*lo E F<=(pm E F x y).2.2/\(pm E F x y).2.2<=40000:=by
 obtain ⟨⟨a1,a2,a3,a4⟩,a5,a6⟩:=we (s:=0) h c0 c1
 obtain ⟨⟨b1,b2,b3,b4⟩,b5,b6⟩:=we (s:=0) h d0 d1
 have hQ:=ao F
 obtain ⟨x1,x2,x3,x4⟩:=aN (s:=0) (c:=x.2) h ↥1 c0 ⋯
 have n:=Dr h x1
 rw [x3,x4] at n
 obtain ⟨y1,y2,y3,y4⟩:=aN (s:=0) (c:=y.2) h ↥1 d0 ⋯
 have n':=Dr h y1
 rw [y3,y4] at n'
 have l:=lz h
 unfold wt at *
 simp only at *
 unfold pm
 refine ⟨⟨Ĝ a1 b1,Ð (ll n n') ↥1,?_,?_⟩,?_,?_⟩<;>simp only<;>omega
def pD (E F:Int) (p:↥18×↥18):D:=.tup [.int (nI E F p.1),.int (nI E F p.2)]
def M1 (w:Wy) (E F X U sg x y:Int):Prop:=(X=0->x=sg*pw ↥9/\y=0)/\(X≠0->∃ k r,x=(if X<0 then 1 else 0)*pw ↥9+stK w E F (if X<0 then 1 else 0) k r/\y=stF w E F (if X<0 then 1 else 0) k r/\At F (if X<0 then -X else X) U k r)
theorem rL {X V:Int} (hV:0<V):(X*V<0↔X<0):=by
 constructor
 ·intro g
  refine á fun g' => ?_
  have:=Ĝ (show 0<=X by omega) (Þ hV)
  omega
 ·exact fun g=>Ŀ g hV
def fl (ps:List (↥18×↥18)):List ↥18:=ps.flatMap fun p=>[p.1,p.2]
theorem eZ:z∈fl ps↔∃ p∈ps,z=p.1\/z=p.2:=by
 unfold fl
 rw [List.mem_flatMap]
 constructor
 ·rintro ⟨p,m,hz⟩
  refine ⟨p,m,?_⟩
  simpa using hz
 ·rintro ⟨p,m,hz⟩
  exact ⟨p,m,by simpa using hz⟩
theorem uq:∀ ps:List (↥18×↥18),(fl ps).length=2*ps.length
 | []=>rfl
 | p::r=>by
  show ([p.1,p.2]++fl r).length=_
  rw [Æ,uq r,Ò]
  simp
  omega
def ptp (E F:Int) (p:↥18×↥18):Tm ⊕ Int:=pt E F p.1 p.2
def fts (E F:Int) (ps:List (↥18×↥18)) (xs:List ↥18):List Tm:=ps.map (fun p=>pm E F p.1 p.2)++xs.map (fun x=>wt E F x.1 x.2)
section
variable {E F:Int} {ps:List (↥18×↥18)} {xs:List ↥18}
theorem K1 (m:p∈ps):p.1∈xs++fl ps:=È.mpr (.inr (eZ.mpr ⟨p,m,.inl rfl⟩))
theorem K0 (m:p∈ps):p.2∈xs++fl ps:=È.mpr (.inr (eZ.mpr ⟨p,m,.inr rfl⟩))
theorem JY (h:Sz E F) (hx:∀ x∈xs++fl ps,dB E F x) (hf:∀ x∈xs++fl ps,x.2<pw ↥9 - pw F):∀ t∈fts E F ps xs,C0 t/\2*lo E F<=t.2.2:=fun t ht=>by
 have l:=lz h
 rcases È.mp ht with m | m
 ·obtain ⟨p,m',rfl⟩:=å.mp m
  clear m
  rename p∈ps=>m
  obtain ⟨a,b,c⟩:=LW (x:=p.1) (y:=p.2) h (hx _ (K1 m)).2.1 (hf _ (K1 m)) (hx _ (K0 m)).2.1 (hf _ (K0 m))
  exact ⟨a,b⟩
 ·obtain ⟨x,m',rfl⟩:=å.mp m
  clear m
  rename x∈xs=>m
  have mm:x∈xs++fl ps:=È.mpr (.inl m)
  obtain ⟨a,b,c⟩:=we (s:=x.1) h (hx _ mm).2.1 (hf _ mm)
  exact ⟨a,⋯⟩
theorem JX (hf:∀ x∈xs++fl ps,x.2<pw ↥9 - pw F):(ps.map (ptp E F)++xs.map (xt E F)).map xD=(fts E F ps xs).map tD:=by
 unfold fts
 rw [ģ,ģ,ô,ô,ô,ô]
 congr 1
 ·refine Áf fun p m => ?_
  have a:=hf _ (K1 m)
  have b:=hf _ (K0 m)
  show xD (ptp E F p)=tD (pm E F p.1 p.2)
  unfold ptp pt
  rw [if_neg ⋯]
  rfl
 ·refine Áf fun x m => ?_
  have a:=hf _ (È.mpr (.inl m))
  show xD (xt E F x)=tD (wt E F x.1 x.2)
  unfold xt
  rw [if_neg ⋯]
  rfl
theorem yE:(fts E F ps xs).length=ps.length+xs.length:=by
 unfold fts
 rw [Æ,Á,Á]
theorem Cy (h:Sz E F):pw (-(2*lo E F))=pw ↥87*pw ↥87:=by
 have l:=lz h
 rw [<- bR ⋯ ⋯]
 congr 1
 omega
end
def nsg (w:Wy) (bs:List Int):Int:=if 0∈bs/\1∈bs then (if w.s=Ñ "down" then 1 else 0) else if 1∈bs then 1 else 0
theorem CL (w:Wy) (bs:List Int):0<=nsg w bs/\nsg w bs<=1:=by
 unfold nsg
 split
 ·split<;>decide
 ·split<;>decide
end EV
namespace EV
open PySem
end EV
namespace EV
open PySem
theorem Aw {w:Wy} {E F s c r:Int}:stF w E F s c r=0\/stF w E F s c r=1\/stF w E F s c r=3\/stF w E F s c r=5:=by
 unfold stF
 repeat' split
 all_goals simp
section
variable {w:Wy} {E F Eg Fg Em Fm s c:Int}
end
end EV
namespace EV
open PySem
def Wy.m:Wy->Wy
 | .up=>.down
 | .down=>.up
 | w=>w
noncomputable instance wyDec:DecidableEq Wy:=fun a b=>by cases a<;>cases b<;>first | exact isTrue rfl | exact isFalse (by intro h;cases h)
section
variable {w:Wy} {E F s c r:Int}
end
section
variable {w:Wy} {E F X U sg sg' x y x' y':Int} {u:Prop}
end
end EV
namespace EV
open PySem
end EV
namespace EV
open PySem
def FnOk (E F:Int) (x:Int×Int):Prop:=(0<=x.1/\x.1<=1)/\0<=x.2/\x.2<pw ↥9 - pw F
theorem sk {E F:Int} {st:D->R (Option D)}:∀ {ds:List D},(∀ d∈ds,∃ x,FnOk E F x/\st d=.ok (some (.int (nI E F x))))->∃ xs:List ↥18,runC st ds=.ok ↥14/\(∀ x∈xs,FnOk E F x)/\xs.length=ds.length
 | [],_=>⟨[],rfl,fun _ m=>(by cases m),rfl⟩
 | d::r,hc=>by
  obtain ⟨x,hx,e⟩:=hc d (.head _)
  obtain ⟨xs,e2,h2,h3⟩:=sk (E:=E) (F:=F) (st:=st) (ds:=r) fun c m=>hc c (.tail _ m)
  refine ⟨x::xs,?_,fun y m => ?_,by rw [Ò,Ò,h3]⟩
  ·unfold runC
   rw [e,e2]
   rfl
  ·rcases Ö.mp m with q | q
   ·subst q;exact hx
   ·exact h2 y q
theorem turned {E F:Int} {x:Int×Int} (h:Sz E F) (hx:FnOk E F x):(nI E F x+pw ↥9)%(2*pw ↥9)=nI E F (1 - x.1,x.2)/\FnOk E F (1 - x.1,x.2):=by
 obtain ⟨a,b,c⟩:=hx
 have hQ:=ao F
 refine ⟨?_,⟨by show 0<=1 - x.1/\1 - x.1<=1;omega,b,c⟩⟩
 unfold nI
 simp only
 rcases (by omega:x.1=0\/x.1=1) with e | e<;>rw [e]
 ·rw [Ğ ⋯ ⋯];omega
 ·have:1*pw ↥9+x.2+pw ↥9=x.2+2*pw ↥9:=⋯
  rw [this,Int.add_emod_right,Ğ ⋯ ⋯];omega
theorem J9 {E F:Int} {x:Int×Int} (hx:FnOk E F x):dB E F x:=⟨hx.1,hx.2.1,by have:=hx.2.2;have:=ao F;omega⟩
theorem BK {w:Wy} {E F X U sg x y x' y':Int} (hU:0<U) (a:M1 w E F X U sg x y) (b:M1 w E F X U sg x' y'):x=x'/\y=y':=by
 by_cases z:X=0
 ·obtain ⟨a1,a2⟩:=a.1 z
  obtain ⟨b1,b2⟩:=b.1 z
  exact ⟨by rw [a1,b1],by rw [a2,b2]⟩
 ·obtain ⟨k,r,a1,a2,a3⟩:=a.2 z
  obtain ⟨k',r',b1,b2,b3⟩:=b.2 z
  obtain ⟨rfl,rfl⟩:=Gr hU a3 b3
  exact ⟨by rw [a1,b1],by rw [a2,b2]⟩
end EV
namespace T
open EV
theorem El (c:Int):bV [.int c]=.ok (.tup [.int (szE c),.int (szF c)]):=by
 unfold bV cJ
 by_cases h:c%8<4
 ·rcases four (ä c ↥1) h with e | e | e | e<;>(simp_arith [e,Pd];unfold szE szF;rw [e];rfl)
 ·by_cases h2:c%8<6
  ·simp_arith [h,h2]
   unfold szE szF
   rw [if_neg h,if_pos h2,if_neg h,if_pos h2]
  ·simp_arith [h,h2]
   unfold szE szF
   rw [if_neg h,if_neg h2,if_neg h,if_neg h2]
theorem wq (c:Int):∃ w:Wy,cm [.int c]=.ok (.str w.s):=by
 unfold cm dq
 rcases (by omega:c%5=0\/c%5=1\/c%5=2\/c%5=3\/c%5=4) with e | e | e | e | e
 ·exact ⟨.even,by simp_arith [e];rfl⟩
 ·exact ⟨.away,by simp_arith [e];rfl⟩
 ·exact ⟨.nought,by simp_arith [e];rfl⟩
 ·exact ⟨.up,by simp_arith [e,Pd];rfl⟩
 ·exact ⟨.down,by simp_arith [e,Q6];rfl⟩
theorem qi {E F c:Int} (h:Sz E F) (hc:nb c<=2^20):∃ s u,aA [.tup [.int E,.int F],.int c]=.ok (.int (s*pw ↥9+u))/\(0<=s/\s<=1)/\0<=u/\u<pw ↥9 - pw F:=by
 obtain ⟨k1,k2,k3,k4⟩:=id h
 have hh:=eI h
 have hQ:=kN k3
 have hH:=ao ↥9
 have hE1:2<=pw (E - 1):=kN ⋯
 have eE:=gX (F:=E) ⋯
 have eM:=end_is h
 have hE:=pU h
 have s1:=kH (k:=E+F) ⋯ ⋯
 have s2:=kH (k:=F) ⋯ ⋯
 have s3:=kH (k:=E - 1) ⋯ ⋯
 have s4:=kH (k:=E) ⋯ ⋯
 have n1:nb (pw ↥9)<=128:=gZ (c:=127) ⋯
 have c6:nb (c / 6)<=2^20:=qb ↥1 hc
 have c12:nb (c / 6 / 2)<=2^20:=qb ↥1 c6
 have c96:nb (c / 6 / 2 / 8)<=2^20:=qb ↥1 c12
 have L6:6<=pw ↥9 - pw F:=⋯
 have nL:nb ↥103<=128:=Ð (jg (j:=pw ↥9) ⋯) n1
 have m2:=aK (MulOk.of (i:=2) (j:=pw ↥9 - pw F) (a:=2) ↥1 nL ↥1)
 have sd:0<=c / 6%2/\c / 6%2<=1:=⋯
 have ms:=aK (dM (t:=pw ↥9) sd.1 sd.2 (Ð n1 ↥1))
 unfold aA bZ
 by_cases g1:c%6<2
 ·have mm:=aK (MulOk.of (i:=c / 6) (j:=73846150927364518273645509182736455091829) (a:=2^20) (b:=200) c6 ↥1 ↥1)
  have p2:0<2*↥103:=⋯
  have r0:=ä (c / 6*73846150927364518273645509182736455091829) (show 2*↥103≠0 by omega)
  have r1:=ã (c / 6*73846150927364518273645509182736455091829) p2
  have dv:=gY (i:=c / 6*73846150927364518273645509182736455091829%(2*↥103)) (iX.small (j:=pw ↥9 - pw F) ⋯ ⋯)
  have lp:0<pw ↥9 - pw F:=⋯
  generalize hv:c / 6*73846150927364518273645509182736455091829%(2*↥103)=v at *
  have q0:=ĕ r0 (Þ lp)
  have q1:v / ↥103<2:=Ļ lp r1
  have t0:=ä v (show pw ↥9 - pw F≠0 by omega)
  have t1:=ã v lp
  have mq:=aK (dM (s:=v / ↥103) (t:=pw ↥9) q0 ⋯ (Ð n1 ↥1))
  exact ⟨v / ↥103,v%↥103,by simp_arith [s1,s2,g1,mm,m2,p2,hv,dv,lp,mq],⟨q0,⋯⟩,t0,t1⟩
 by_cases g2:c%6=2
 ·exact ⟨c / 6%2,c / 6 / 2%6,by simp_arith [s1,s2,g1,ms,eq_true g2],sd,⋯,⋯⟩
 by_cases g3:c%6=3
 ·refine ⟨c / 6%2,pw ↥9 - pw F - 1 - c / 6 / 2%4,?_,sd,⋯,⋯⟩
  simp_arith [s1,s2,g1,ms,g2,eq_true g3]
  congr 2
  omega
 have hp:pw (E - 1) - 1+1=pw (E - 1):=⋯
 have nm:nb (pw (E - 1) - 1)<=15:=iu ⋯ (by have:=kO h;omega)
 have sm:=bh (i:=pw (E - 1) - 1) (j:=F) ⋯ ⋯
 have eL:pw ↥9 - pw F=(pw E - 1)*pw F:=eM.symm
 by_cases g4:c%6=4
 ·have b1:pw F<=(pw (E - 1) - 1)*pw F:=by
   have:=Ü (show 1<=pw (E - 1) - 1 by omega) (show 0<=pw F by omega)
   omega
  have b2:(pw (E - 1) - 1)*pw F+2*pw F<=pw ↥9 - pw F:=by
   rw [eL,<-Ų]
   exact Ü ⋯ ⋯
  refine ⟨c / 6%2,(pw (E - 1) - 1)*pw F - 2+c / 6 / 2%5,?_,sd,⋯,⋯⟩
  simp_arith [s1,s2,s3,g1,ms,g2,g3,eq_true g4,sm]
  congr 2
  omega
 ·have mm:=aK (MulOk.of (i:=c / 6 / 2 / 8) (j:=73846150927364518273645509182736455091829) (a:=2^20) (b:=200) c96 ↥1 ↥1)
  have fp:0<pw F:=⋯
  have r0:=ä (c / 6 / 2 / 8*73846150927364518273645509182736455091829) (show pw F≠0 by omega)
  have r1:=ã (c / 6 / 2 / 8*73846150927364518273645509182736455091829) fp
  generalize hv:c / 6 / 2 / 8*73846150927364518273645509182736455091829%pw F=v at *
  generalize hy:max 0 (min (pw E - 2) (pw (E - 1) - 1 - 3+c / 6 / 2%8))=y
  have y0:0<=y/\y<=pw E - 2:=⋯
  have ny:nb y<=16:=iu y0.1 ⋯
  have sy:=bh (i:=y) (j:=F) ⋯ ⋯
  have f1:0<=y*pw F:=Ĝ y0.1 ⋯
  have f2:y*pw F+pw F<=pw ↥9 - pw F:=by
   have:y*pw F+pw F=(y+1)*pw F:=by rw [Ų,Ĥ]
   rw [this,eL]
   exact Ü ⋯ ⋯
  refine ⟨c / 6%2,y*pw F+v,?_,sd,⋯,⋯⟩
  simp_arith [s1,s2,s3,s4,g1,ms,g2,g3,g4,mm,fp,hv,hy,sy]
  congr 2
  omega
theorem LX {a b c d r:Int} (h0:0<=r) (h1:r<4):oIx (.lst [.int a,.int b,.int c,.int d]) (.int r)=.ok (.int ([a,b,c,d].getD r.toNat 0)):=by
 rcases four h0 h1 with e | e | e | e<;>subst e<;>rfl
theorem m9 {E F c:Int} (h:Sz E F) (hc:nb c<=2^20):aS [.tup [.int E,.int F],.int c]=.ok (.int (iE E F c)):=by
 obtain ⟨h1,h2,h3,h4⟩:=id h
 have n1:nb (pw ↥9)<=128:=gZ (c:=127) ⋯
 have n2:nb (pw E - 1)<=15:=iu (by have:=ao E;omega) (by have:=pU h;omega)
 have n3:nb (pw (E - 1) - 1)<=15:=iu (by have:=ao (E - 1);omega) (by have:=kO h;omega)
 have n4:nb (c / 9 / 2 / 4%pw E)<=15:=iu (ä _ (by have:=ao E;omega)) (by have:=pU h;have:=ã (c / 9 / 2 / 4) (ao E);omega)
 have n5:=QU hc (k:=9) ↥1
 have m1:MulOk (c / 9) 73846150927364518273645509182736455091829:=by walk_at "mul"
 have m2:MulOk 2 (pw ↥9):=by walk_at "mul"
 have m3:MulOk (c / 9%2) (pw ↥9):=dM ⋯ ⋯ (Ð n1 ↥1)
 have q1:=kN h3
 have q2:=ao ↥9
 have pk:=LX (a:=0) (b:=1) (c:=pw F - 1) (d:=pw (F - 1)) (r:=c / 9 / 2%4) ⋯ ⋯
 unfold aS cM
 simp_arith [kH (k:=E+F) ⋯ ⋯,kH (k:=E) ⋯ ⋯,kH (k:=F) ⋯ ⋯,kH (k:=E - 1) ⋯ ⋯,kH (k:=F - 1) ⋯ ⋯,
  bh (i:=pw E - 1) (j:=F) ⋯ ⋯,bh (i:=pw (E - 1) - 1) (j:=F) ⋯ ⋯,bh (i:=c / 9 / 2 / 4%pw E) (j:=F) ⋯ ⋯,aK m1,aK m2,aK m3,show 0<2*pw ↥9 by omega,show 0<pw F - 1 by omega,ao,pk]
 unfold iE
 by_cases g0:c%9<3
 ·simp only [if_pos g0]
 by_cases g1:c%9=3
 ·simp only [if_neg g0,if_pos g1]
 by_cases g2:c%9=4
 ·simp only [if_neg g0,if_neg g1,if_pos g2]
 by_cases g3:c%9=5
 ·simp only [if_neg g0,if_neg g1,if_neg g2,if_pos g3]
 by_cases g4:c%9=6
 ·simp only [if_neg g0,if_neg g1,if_neg g2,if_neg g3,if_pos g4]
 by_cases g5:c%9=7
 ·simp only [if_neg g0,if_neg g1,if_neg g2,if_neg g3,if_neg g4,if_pos g5]
 simp only [if_neg g0,if_neg g1,if_neg g2,if_neg g3,if_neg g4,if_neg g5]
theorem BU {E F b p:Int} (h:Sz E F) (hb:In E F b):∃ x,aO [.tup [.int E,.int F],.int b,.int p]=.ok (.int x)/\In E F x:=by
 obtain ⟨k1,k2,k3,k4⟩:=id h
 have hh:=eI h
 have hQ:=kN k3
 have hH:=ao ↥9
 have s1:=kH (k:=E+F) ⋯ ⋯
 have s2:=kH (k:=F) ⋯ ⋯
 have n1:nb (pw ↥9)<=128:=gZ (c:=127) ⋯
 have dv:∀ i,oDiv ↥123 ↥54=.ok (.int (i / pw ↥9)):=fun i=>gY (iX.small hH ⋯)
 obtain ⟨s,u,hs,u0,u1,rfl⟩:=nK h hb
 obtain ⟨q1,q2⟩:=pJ (E:=E) (F:=F) hs u0 u1
 have ms:=aK (dM (t:=pw ↥9) hs.1 hs.2 (Ð n1 ↥1))
 unfold aO eO
 by_cases g1:0<p/\pw ↥9 - pw F<u
 ·exact ⟨s*pw ↥9+↥103,by simp_arith [s1,s2,hH,q1,q2,dv,ms,eq_true g1.1,eq_true g1.2],(aN (c:=pw ↥9 - pw F) h hs ⋯ ⋯).1⟩
 by_cases g2:1<p/\u=0
 ·refine ⟨s*pw ↥9+(u+1),?_,(aN (c:=u+1) h hs ⋯ ⋯).1⟩
  have g3:¬ pw ↥9 - pw F<u:=⋯
  simp_arith [s1,s2,hH,q1,eq_true g2.1,eq_true g2.2,show 0<p by omega,g3]
  rw [Êh]
 ·refine ⟨s*pw ↥9+u,?_,hb⟩
  by_cases a:0<p
  ·have b:¬ pw ↥9 - pw F<u:=fun z=>g1 ⟨a,z⟩
   by_cases c:1<p
   ·have d:¬ u=0:=fun z=>g2 ⟨c,z⟩
    simp_arith [s1,s2,hH,q1,a,b,c,d]
   ·simp_arith [s1,s2,hH,q1,a,b,c]
  ·simp_arith [s1,s2,hH,q1,a,show ¬ 1<p by omega]
theorem cw (w:Wy):bq [.str w.s]=.ok (uW w):=by
 have h:gJ (.str w.s) ↥98=.ok ↥56:=by
  show gJ (.str w.s) (.tup (zS.map D.str))=_
  rw [rH]
  cases w<;>rfl
 unfold bq j9
 simp_arith [h]
 rfl
theorem kG {E F:Int} (h:Sz E F):bI [.tup [.int E,.int F]]=.ok ↥54:=by
 obtain ⟨h1,h2,h3,h4⟩:=h
 unfold bI gx
 simp_arith [kH (k:=E+F) ⋯ ⋯]
theorem zR {E F:Int}:kX [.tup [.int E,.int F]]=.ok (.int (E+F+1)):=by
 unfold kX oG
 simp_arith []
theorem kT {E F b:Int} (h:Sz E F) (hb:In E F b):cf [.tup [.int E,.int F],.int b]=.ok (.tup [.int (sgn E F b),.int (fld E F b),.int (fig F b)]):=by
 obtain ⟨h1,h2,h3,h4⟩:=id h
 obtain ⟨hb0,hb1⟩:=hb
 have d1:iX b (pw ↥9):=⟨ao _,.inl (Ð (gZ (c:=127) ⋯) ↥1)⟩
 have d2:iX (b%pw ↥9) (pw F):=⟨ao _,.inl (Ð (gZ (c:=127) ⋯) ↥1)⟩
 have e0:b / pw ↥9=sgn E F b:=by unfold sgn;rw [bR ⋯ ⋯,part0 ↥104 ↥104]
 have e1:b%pw ↥9 / pw F=fld E F b:=by unfold fld;rw [bR ⋯ ⋯,part1 ↥104 ↥104]
 have e2:b%pw ↥9%pw F=fig F b:=by unfold fig;rw [bR ⋯ ⋯,part2]
 unfold cf kh
 simp_arith [zR,kG h,kH (k:=E+F+1) ⋯ ⋯,kH (k:=F) ⋯ ⋯,show ¬ b<0 by omega,show ¬ pw (E+F+1)<=b by omega,gY d1,gY d2,ao,e0,e1,e2]
theorem eF {E F:Int} (h:Sz E F):aH [.tup [.int E,.int F]]=.ok (.int (pw E - 1)):=by
 obtain ⟨h1,h2,h3,h4⟩:=h
 unfold aH du
 simp_arith [kH (k:=E) ⋯ ⋯]
theorem yp {E F b:Int} (h:Sz E F) (hb:In E F b):cU [.tup [.int E,.int F],.int b]=.ok (.str (kindS E (fld E F b) (fig F b))):=by
 unfold cU uf
 simp_arith [kT h hb,eF h]
 unfold kindS
 (repeat' split)<;>first | rfl | contradiction
theorem sU {E F:Int} {bs:List Int} {f:Int->ų} (hl:bs.length<=1000) (hf:∀ b∈bs,cU [.tup [.int E,.int F],.int b]=.ok (.str (f b))) :
  dJ [.tup [.int E,.int F],.lst (bs.map .int)]=.ok (.bl (decide (Ñ "none"∈bs.map f))):=by
 have st:∀ b∈bs,stC ↥133 (call cU [var 1,var 0]) [0] [some ↥12,some (.lst (bs.map .int)),none] (.int b)=.ok (some (.str (f b))):=fun b hb=>by
  unfold stC inC
  simp_arith [ġ,hf b hb]
  unfold l5
  simp_arith []
 have rc:∀ (l:List Int),(∀ b∈l,b∈bs)->runC (stC ↥133 (call cU [var 1,var 0]) [0] [some ↥12,some (.lst (bs.map .int)),none]) (l.map .int)=.ok ((l.map f).map D.str):=fun l=>by
  induction l with
  | nil=>exact fun _=>rfl
  | cons b r ih =>
   intro h
   rw [Ê]
   unfold runC
   rw [st b (h b (.head _)),ih fun x hx=>h x (.tail _ hx)]
   rfl
 have fr:∀ l:List ų,D.flats (l.map D.str)=true:=fun l=>by
  induction l with
  | nil=>rfl
  | cons a r ih =>
   rw [Ê]
   show (D.flat (.str a)&&D.flats (r.map D.str))=true
   rw [ih]
   rfl
 have fr':dD ((bs.map f).map D.str)=.ok (.lst ((bs.map f).map D.str)):=by unfold dD;rw [if_pos (fr _)]
 have i1:oIn (.str (Ñ "none")) (.lst ((bs.map f).map D.str))=.ok (.bl (decide (Ñ "none"∈bs.map f))):=by
  have sc:∀ l:List ų,(l.map D.str).all D.sc=true:=fun l=>by
   induction l with
   | nil=>rfl
   | cons a r ih=>rw [Ê,ĵ,ih];rfl
  have an:∀ l:List ų,((l.map D.str).any fun y=>D.beq y (.str (Ñ "none")))=decide (Ñ "none"∈l):=fun l=>by
   induction l with
   | nil=>rfl
   | cons a r ih =>
    rw [Ê,ŉ,ih]
    show (decide (a=Ñ "none")||_)=_
    by_cases g:a=Ñ "none"
    ·rw [g];simp
    ·by_cases g':PySem.Str.ofString "none"∈r
     ·simp [g,g']
     ·simp [g,g',ė g,eq_comm]
  unfold oIn isIn
  simp only [D.sc,sc,Àc,if_true,an]
 have pb:∀ (a c:Option D) (ds:List D),pub 2 [a,c,some (.own ds)]=[a,c,some ↥120]:=fun _ _ _=>rfl
 unfold dJ gB
 simp_arith [Á,show bs.length<=100000 by omega,rc bs (fun _ h=>h),fr',i1,dC,Cr,zE,pb,view]
theorem dH {s w p:Int} (hw:nb w<=1000000) (hp : -1000000<=p/\p<=1000000):aV [.tup [.int s,.int w,.int p]]=.ok (.tup [.int s,.int (frT w p),.int (frB p)]):=by
 unfold aV bC
 by_cases g:0<=p
 ·simp_arith [g,bh (i:=w) (j:=p) g ⋯,frT,frB]
 ·simp_arith [g,kH (k := -p) ⋯ ⋯,frT,frB]
theorem uw {t n:Int} (ht:0<=t) (hn:0<n):aX [.int t,.int n]=.ok .non:=by
 unfold aX bE
 simp_arith [show ¬ t<0 by omega,show ¬ n<1 by omega]
theorem kJ {t n p:Int} (h1:nb t<=10000000) (h2:nb n<=10000000) (h3 : -10000000<=p) (h4:p<=10000000):eC [.int t,.int n,.int p]=.ok (.tup [.int (kr p t),.int (gK p n)]):=by
 unfold eC kg kr gK
 by_cases g:0<=p
 ·simp_arith [g,bh (i:=n) (j:=p) g ⋯,a9 (p := -p) ⋯,Ģ]
 ·simp_arith [g,bh (i:=t) (j := -p) ⋯ ⋯,a9 (p:=p) ⋯,Ģ]
theorem Gf {E F:Int} (h:Sz E F):pY [.tup [.int E,.int F]]=.ok (.int (pw (E - 1) - 1)):=by
 obtain ⟨h1,h2,h3,h4⟩:=h
 unfold pY ug
 simp_arith [kH (k:=E - 1) ⋯ ⋯]
theorem jq {E F:Int} (h:Sz E F):kZ [.tup [.int E,.int F]]=.ok (.int (lo E F)):=by
 have e:1 - (pw (E - 1) - 1) - F=lo E F:=by unfold lo;omega
 unfold kZ BF
 simp_arith [Gf h,e]
theorem rq {o a m:Int}:aW [.int o,.int a,.int m]=.ok (.int (if o=0 then 0 else if a<m then 1 else if a=m then 2 else 3)):=by
 unfold aW bD
 simp_arith []
theorem rest_of_ok {o s:Int} (h:nb o<=100000000):fB [.int o,.int s]=.ok (.int (rst o s)):=by
 have m:MulOk 2 o:=by walk_at "mul"
 unfold fB iA
 simp_arith [aK m,rq]
 rfl
theorem yz {t n:Int} (h1:nb t<=1000000) (h2:nb n<=1000000):iq [.int t,.int n]=.ok (.int (hgt t n)):=by
 have e:(kr ((nb t:Int) - nb n) t<gK ((nb t:Int) - nb n) n)=Lt t n ((nb t:Int) - nb n):=rfl
 unfold iq ki hgt
 by_cases g:Lt t n ((nb t:Int) - nb n)
 ·simp_arith [kJ (t:=t) (n:=n) (p:=(nb t:Int) - nb n) ⋯ ⋯ ⋯ ⋯,e,g]
 ·simp_arith [kJ (t:=t) (n:=n) (p:=(nb t:Int) - nb n) ⋯ ⋯ ⋯ ⋯,e,g]
theorem BR {E F n:Int} (h:Sz E F) (hn:0<n):rE [.tup [.int E,.int F],.int 0,.int n]=.ok (.tup [.int 0,.int (lo E F),.int 0]):=by
 unfold rE yD
 simp_arith [uw (í 0) hn,jq h]
theorem Km {E F t n:Int} (h:Sz E F) (ht:0<t) (hn:0<n) (h1:nb t<=1000000) (h2:nb n<=1000000) :
  rE [.tup [.int E,.int F],.int t,.int n]=.ok (.tup [.int (kr ↥23 t / gK ↥23 n),.int ↥23,.int (rst (kr ↥23 t%gK ↥23 n) (gK ↥23 n))]):=by
 obtain ⟨s1,s2,s3,s4⟩:=oM h ht hn
 have l:=lz h
 have hB:=kq (p:=m4 E F t n) hn
 have hA:=sE (p:=m4 E F t n) (Þ ht)
 have d:=JA h hA hB s3
 have eP:max (lo E F) (hgt t n - F - 1)=m4 E F t n:=rfl
 have nB:nb (gK ↥23 n)<=3000000:=by
  have:=ll h2 (gZ (k:=m4 E F t n) (c:=1000000) ⋯)
  unfold gK;omega
 have nr:nb (kr ↥23 t%gK ↥23 n)<=3000000:=CN hB nB
 unfold rE yD
 simp_arith [uw (Þ ht) hn,show ¬ t=0 by omega,jq h,yz h1 h2,eP,kJ (t:=t) (n:=n) (p:=m4 E F t n) ⋯ ⋯ ⋯ ⋯,gY d,hB,rest_of_ok (o:=kr ↥23 t%gK ↥23 n) (s:=gK ↥23 n) ⋯]
theorem bL {E F:Int} (h:Sz E F):bg [.tup [.int E,.int F]]=.ok (.int ((pw E - 1)*pw F)):=by
 obtain ⟨h1,h2,h3,h4⟩:=id h
 have hb:nb (pw E)<=16:=gZ (c:=15) ⋯
 have hb2:nb (pw E - 1)<=17:=by walk_at "nbk"
 unfold bg iB
 simp_arith [eF h,bh (i:=pw E - 1) (j:=F) ⋯ ⋯]
theorem cR {E F s c:Int} (h:Sz E F) (hs:0<=s/\s<=1):bS [.tup [.int E,.int F],.int s,.int c]=.ok (.int ↥90):=by
 have n1:nb (pw ↥9)<=128:=gZ (c:=127) (by have:=h.2.1;have:=h.2.2.2;omega)
 unfold bS kd
 simp_arith [kG h,aK (dM hs.1 hs.2 (Ð n1 ↥1))]
theorem yh {E F c k:Int} (h:Sz E F):ck [.tup [.int E,.int F],.int c,.int k]=.ok (.int (if k=pw ↥9 - pw F then 5 else if c<pw F then 3 else 1)):=by
 obtain ⟨h1,h2,h3,h4⟩:=id h
 unfold ck dm
 simp_arith [bL h,end_is h,kH (k:=F) ⋯ ⋯]
theorem uo (w:Wy) (s:Int):aD [uW w,.int s]=.ok (.bl (w.out s)):=by
 unfold aD aJ uW
 cases w<;>simp_arith [Wy.s,Wy.out]
theorem ud (w:Wy) (s r:Int) (o:Bool) (h:¬ r=0):eD [uW w,.int s,.bl o,.int r]=.ok (.bl (w.grw s o r)):=by
 have f:=uo w s
 have hm:dP "Way" "flees_nought" (uW w)=true:=rfl
 unfold eD cV
 have nm:("flees_nought" != "name")=true:=by decide
 have e1:CK "Way" "name" (uW w)=.ok (.str w.s):=rfl
 unfold uW at *
 cases w
 ·by_cases g:r=3
  ·simp_arith [h,Wy.s,eq_true g]
   simp [Wy.grw,g]
  ·by_cases g2:r=2
   ·simp_arith [h,Wy.s,g,eq_true g2]
    simp [Wy.grw,g2]
   ·simp_arith [h,Wy.s,g,g2]
    simp [Wy.grw,g,g2]
 ·simp_arith [h,Wy.s]
  rfl
 ·simp only [Wy.s] at f
  simp_arith [h,Wy.s,nm,f]
  rfl
 ·simp only [Wy.s] at f
  simp_arith [h,Wy.s,nm,f]
  rfl
 ·simp only [Wy.s] at f
  simp_arith [h,Wy.s,nm,f]
  rfl
theorem qv (w:Wy) (s:Int):di [uW w,.int s]=.ok (.bl (w.brs s)):=by
 have f:=uo w s
 have nm:("flees_nought" != "name")=true:=by decide
 have e2:∀ x:PySem.Str,oIn (.str x) (.tup [.str "even",.str "away"])=.ok (.bl (decide ((Ñ "even")=x\/(Ñ "away")=x))):=fun x=>oo
 unfold di cq
 unfold uW at *
 cases w
 ·simp_arith [Wy.s,e2]
  rfl
 ·simp_arith [Wy.s,e2]
  rfl
 ·simp only [Wy.s] at f
  simp_arith [Wy.s,e2,nm,f]
  rfl
 ·simp only [Wy.s] at f
  simp_arith [Wy.s,e2,nm,f]
  rfl
 ·simp only [Wy.s] at f
  simp_arith [Wy.s,e2,nm,f]
  rfl
theorem mJ {E F s x P r:Int} (w:Wy) (h:Sz E F) (hs:0<=s/\s<=1) (hP:lo E F<=P) (hP2:P<=10000000) (hx:0<=x) :
  fA [.tup [.int E,.int F],.str w.s,.int s,.int x,.int P,.int r]=.ok (.tup [.int (s*pw ↥9+stK w E F s (codeOf E F P x) r),.int (stF w E F s (codeOf E F P x) r)]):=by
 obtain ⟨h1,h2,h3,h4⟩:=id h
 have l:=lz h
 have n1:nb ↥100<=64:=iu ⋯ ⋯
 have c0:0<=codeOf E F P x:=by
  have:=Ĝ (show 0<=P - lo E F by omega) (Þ (ao F))
  unfold codeOf;omega
 have ec:↥100*pw F+x=codeOf E F P x:=rfl
 have mb:dP "Way" "bursts" (uW w)=true:=rfl
 have mg:dP "Way" "grows" (uW w)=true:=rfl
 have vw:∀ (a b c d e f:Option D) (l:Dt),var 6 (a::b::c::d::e::f::some (uW w)::l)=.ok (uW w):=fun _ _ _ _ _ _ _=>rfl
 unfold fA iz stF stK
 by_cases g:pw ↥9 - pw F<=codeOf E F P x
 ·cases gb:w.brs s
  ·simp_arith [cw w,jq h,bh (i:=P - lo E F) (j:=F) ⋯ ⋯,ec,bL h,end_is h,g,vw,mb,qv w s,gb,cR h hs]
  ·simp_arith [cw w,jq h,bh (i:=P - lo E F) (j:=F) ⋯ ⋯,ec,bL h,end_is h,g,vw,mb,qv w s,gb,cR h hs]
 ·by_cases gr:r=0
  ·simp_arith [cw w,jq h,bh (i:=P - lo E F) (j:=F) ⋯ ⋯,ec,bL h,end_is h,g,eq_true gr,cR h hs]
  ·cases gg:w.grw s (decide (codeOf E F P x%2=1)) r
   ·simp_arith [cw w,jq h,bh (i:=P - lo E F) (j:=F) ⋯ ⋯,ec,bL h,end_is h,g,gr,vw,mg,p8 c0,ud w s r _ gr,gg,cR h hs,yh h]
   ·simp_arith [cw w,jq h,bh (i:=P - lo E F) (j:=F) ⋯ ⋯,ec,bL h,end_is h,g,gr,vw,mg,p8 c0,ud w s r _ gr,gg,cR h hs,yh h]
theorem ve {E F s t n:Int} (w:Wy) (h:Sz E F) (hs:0<=s/\s<=1) (ht:0<t) (hn:0<n) (h1:nb t<=1000000) (h2:nb n<=1000000) :
  bT [.tup [.int E,.int F],.str w.s,.int s,.int t,.int n]=.ok (.tup [.int (s*pw ↥9+stK w E F s (codeOf E F ↥23 (kr ↥23 t / gK ↥23 n)) (rst (kr ↥23 t%gK ↥23 n) (gK ↥23 n))),.int (stF w E F s (codeOf E F ↥23 (kr ↥23 t / gK ↥23 n)) (rst (kr ↥23 t%gK ↥23 n) (gK ↥23 n)))]):=by
 obtain ⟨s1,s2,s3,s4⟩:=oM h ht hn
 unfold bT fH
 simp_arith [cw w,Km h ht hn h1 h2,mJ w h hs s1 ⋯ (ĕ (sE (p:=m4 E F t n) (Þ ht)) (Þ (kq (p:=m4 E F t n) hn)))]
theorem pT {E F s n:Int} (w:Wy) (h:Sz E F) (hs:0<=s/\s<=1) (hn:0<n):bT [.tup [.int E,.int F],.str w.s,.int s,.int 0,.int n]=.ok (.tup [.int (s*pw ↥9),.int 0]):=by
 have l:=lz h
 have h5:=eI h
 have hQ:=ao F
 have e0:codeOf E F (lo E F) 0=0:=by unfold codeOf;rw [Çh,ā];rfl
 have e:=mJ (s:=s) (x:=0) (P:=lo E F) (r:=0) w h hs (í _) ⋯ (í 0)
 rw [e0,show stK w E F s 0 0=0 by unfold stK;rw [if_neg ⋯,if_pos rfl],show stF w E F s 0 0=0 by unfold stF;rw [if_neg ⋯,if_pos rfl],Èa] at e
 unfold bT fH
 simp_arith [cw w,BR h hn,e]
theorem vf {E F t n:Int} (h:Sz E F) (ht:0<=t) (hn:0<n) (n1:nb t<=1000000) (n2:nb n<=1000000) :
  ∃ c r,(∀ (w:Wy) (s:Int),0<=s/\s<=1->bT [.tup [.int E,.int F],.str w.s,.int s,.int t,.int n]=.ok (.tup [.int (s*pw ↥9+stK w E F s c r),.int (stF w E F s c r)]))/\0<=c/\vl F c*n<=t*pw ↥87/\t*pw ↥87<vl F (c+1)*n/\lV F (t*pw ↥87) n c r:=by
 have l:=lz h
 have h5:=eI h
 have hQ:=ao F
 by_cases g:t=0
 ·subst g
  refine ⟨0,0,fun w s hs => ?_,í 0,?_,?_,.inl ⟨rfl,?_⟩⟩
  ·rw [pT w h hs hn,show stK w E F s 0 0=0 by unfold stK;rw [if_neg ⋯,if_pos rfl],show stF w E F s 0 0=0 by unfold stF;rw [if_neg ⋯,if_pos rfl],Èa]
  ·rw [qX,ā,ā];exact í 0
  ·rw [ā]
   have:=Hj (F:=F) (c:=0) (c':=0+1) (í 0) ↥1
   rw [qX] at this
   exact ţ this hn
  ·rw [qX,ā,ā]
 have ht':0<t:=⋯
 obtain ⟨s1,s2,s3,s4⟩:=oM h ht' hn
 have hB:=kq (p:=m4 E F t n) hn
 have hA:=sE (p:=m4 E F t n) ht
 have w0:0<=kr ↥23 t / gK ↥23 n:=ĕ hA (Þ hB)
 have w1:kr ↥23 t / gK ↥23 n<2*pw F:=Ļ hB s3
 have w2:lo E F<m4 E F t n->pw F<=kr ↥23 t / gK ↥23 n:=fun q=>ź hB (s4 q)
 have l0:=ä (kr ↥23 t) (show gK ↥23 n≠0 by omega)
 have l1:=ã (kr ↥23 t) hB
 have b:=between h hn s1 w0 w1 w2 l0 l1 (Èe _ _).symm
 have c0:=(ku h s1 w0 w1 w2).1
 exact ⟨_,_,fun w s hs=>ve w h hs ht' hn n1 n2,c0,b.1,b.2.1,Bt b l0⟩
theorem xh {E F t n:Int} (h:Sz E F) (ht:0<=t) (hn:0<n) (n1:nb t<=1000000) (n2:nb n<=1000000) :
  ∃ c r,(∀ (w:Wy) (s:Int),0<=s/\s<=1->bT [.tup [.int E,.int F],.str w.s,.int s,.int t,.int n]=.ok (.tup [.int (s*pw ↥9+stK w E F s c r),.int (stF w E F s c r)]))/\At F (t*pw ↥87) n c r:=by
 obtain ⟨c,r,e,x⟩:=vf h ht hn n1 n2
 exact ⟨c,r,e,x⟩
theorem i6 {l:List D} {p:Int}:∀ {ts:List Tm} {acc:Int} {z3 z4:Option D},(∀ t∈ts,C0 t/\p<=t.2.2/\t.2.2 - p<=450000) ->
  ∃ z3' z4',forL 3 (seq (assign 4 (bin gf (bin oIx ↥140 ⇑1) (bin dY (bin oIx ↥140 ⇑2) (var 1)))) (assign 2 (ife (bin oEq (bin oIx ↥140 ⇑0) ⇑1) (bin dY ↥124 (var 4)) (bin bH ↥124 (var 4))))) (ts.map tD) [some (.lst l),some (.int p),some (.int acc),z3,z4]=.nx [some (.lst l),some (.int p),some (.int (acc+cX p ts)),z3',z4']
 | [],acc,z3,z4,_=>⟨z3,z4,by rw [ő,ui,show cX p []=0 from rfl,Èa]⟩
 | t::r,acc,z3,z4,h=>by
  obtain ⟨⟨a1,a2,a3,a4⟩,a5,a6⟩:=h t (.head _)
  have sh:=bh (i:=t.2.1) (j:=t.2.2 - p) ⋯ ⋯
  by_cases g:t.1=1
  ·obtain ⟨z3',z4',ih⟩:=i6 (l:=l) (p:=p) (ts:=r) (acc:=acc - t.2.1*pw (t.2.2 - p)) (z3:=some (tD t)) (z4:=some (.int (t.2.1*pw (t.2.2 - p)))) fun t ht=>h t (.tail _ ht)
   refine ⟨z3',z4',?_⟩
   have e:cX p (t::r) = -(t.2.1*pw (t.2.2 - p))+cX p r:=by
    show tv p t+_=_
    unfold tv
    rw [if_pos g]
   rw [e,Ê,dQ]
   unfold tD at ih ⊢
   simp_arith [sh,eq_true g,ih]
   rw [Ãh,Êh]
  ·obtain ⟨z3',z4',ih⟩:=i6 (l:=l) (p:=p) (ts:=r) (acc:=acc+t.2.1*pw (t.2.2 - p)) (z3:=some (tD t)) (z4:=some (.int (t.2.1*pw (t.2.2 - p)))) fun t ht=>h t (.tail _ ht)
   refine ⟨z3',z4',?_⟩
   have e:cX p (t::r)=t.2.1*pw (t.2.2 - p)+cX p r:=by
    show tv p t+_=_
    unfold tv
    rw [if_neg g]
   rw [e,Ê,dQ]
   unfold tD at ih ⊢
   simp_arith [sh,g,ih]
   rw [Êh]
theorem sZ {ts:List Tm} (hl:ts.length<=100000) (h:∀ t∈ts,C0 t):kY [.lst (ts.map tD)]=.ok (.tup [.int (if cX (lx ts) ts<0 then 1 else 0),.int (if cX (lx ts) ts<0 then -(cX (lx ts) ts) else cX (lx ts) ts),.int (lx ts)]):=by
 have st:∀ δ,∀ t∈ts,stC ↥133 (bin oIx (var 0) ⇑2) [] δ (tD t)=.ok (some (.int t.2.2)):=fun δ t _=>by
  unfold stC inC tD
  simp_arith [ő]
  unfold l5
  simp_arith []
 have hb:=rO (ts:=ts) (a := -200000) (b:=200000) ↥1 fun t ht=>⟨(h t ht).2.2.1,(h t ht).2.2.2⟩
 obtain ⟨z3',z4',e⟩:=i6 (l:=ts.map tD) (p:=lx ts) (ts:=ts) (acc:=0) (z3:=none) (z4:=none) fun t ht=>⟨h t ht,rN ht,by have:=(h t ht).2.2.2;omega⟩
 rw [Int.zero_add] at e
 unfold kY oH
 by_cases g:cX (lx ts) ts<0
 ·simp_arith [Á,hl,oa (st _),aM,yd,e,g]
 ·simp_arith [Á,hl,oa (st _),aM,yd,e,g]
theorem xI (w:Wy) (bs:List Int):bU [.str w.s,.lst (bs.map .int)]=.ok (.int (nsg w bs)):=by
 unfold bU cI nsg
 by_cases g0:(0:Int)∈bs
 ·by_cases g1:(1:Int)∈bs
  ·by_cases gd:w.s=Ñ "down"
   ·simp_arith [cw w,dk,g0,g1,eq_true gd]
   ·simp_arith [cw w,dk,g0,g1,gd]
  ·simp_arith [cw w,dk,g0,g1]
 ·by_cases g1:(1:Int)∈bs
  ·simp_arith [cw w,dk,g0,g1]
  ·simp_arith [cw w,dk,g0,g1]
theorem Ay {δ:Dt} {ts:List Tm}:∀ t∈ts,stC ↥133 ↥22 [] δ (tD t)=.ok (some (.int t.1)):=fun t _=>by
 unfold stC inC tD
 simp_arith [ő]
 unfold l5
 simp_arith []
theorem hX {E F:Int} {ts:List Tm} (w:Wy) (h:Sz E F) (hl:ts.length<=1000) (hts:∀ t∈ts,C0 t) (z:cX (lx ts) ts=0) :
  av [.tup [.int E,.int F],.str w.s,.lst (ts.map tD)]=.ok (.tup [.int (nsg w (ts.map (·.1))*pw ↥9),.int 0]):=by
 have hb:=rO (ts:=ts) (a := -200000) (b:=200000) ↥1 fun t ht=>⟨(hts t ht).2.2.1,(hts t ht).2.2.2⟩
 have to:=sZ ⋯ hts
 rw [z,if_neg ↥1,if_neg ↥1] at to
 have wf:=dH (s:=0) (w:=0) (p:=lx ts) ↥1 ⟨⋯,⋯⟩
 have f0:frT 0 (lx ts)=0:=by
  unfold frT
  split
  ·exact ā _
  ·rfl
 rw [f0] at wf
 have sg:=cR (c:=0) h (CL w (ts.map (·.1)))
 rw [Èa] at sg
 unfold av bo
 simp_arith [to,wf,Á,show ts.length<=100000 by omega,oa Ay,aM,xI,sg]
theorem jH {E F q:Int} {ts:List Tm} (h:Sz E F) (hl:ts.length<=1000) (hts:∀ t∈ts,C0 t) (hq:q<=0) (hp:∀ t∈ts,q<=t.2.2) (z:cX q ts≠0) :
  ∃ c r,(∀ w:Wy,av [.tup [.int E,.int F],.str w.s,.lst (ts.map tD)]=.ok (.tup [.int ((if cX q ts<0 then 1 else 0)*pw ↥9+stK w E F (if cX q ts<0 then 1 else 0) c r),.int (stF w E F (if cX q ts<0 then 1 else 0) c r)]))/\At F ((if cX q ts<0 then -(cX q ts) else cX q ts)*pw ↥87) (pw (-q)) c r:=by
 have hb:=rO (ts:=ts) (a := -200000) (b:=200000) ↥1 fun t ht=>⟨(hts t ht).2.2.1,(hts t ht).2.2.2⟩
 have to:=sZ ⋯ hts
 have es:=wH hp
 have hq':q<=lx ts:=by
  cases ts with
  | nil=>exact absurd rfl z
  | cons t r=>exact yc ↥80 hp
 have nS:=Ct (p:=lx ts) fun t ht=>⟨hts t ht,rN ht,by have:=(hts t ht).2.2.2;omega⟩
 generalize lx ts=p at *
 have pp:=ao (p - q)
 generalize hS:cX p ts=S at *
 have ez:(cX q ts<0↔S<0):=by
  rw [es]
  constructor
  ·intro g
   refine á fun g' => ?_
   have:=Ĝ (show 0<=S by omega) (Þ pp)
   omega
  ·exact fun g=>Ŀ g pp
 have ea:(if cX q ts<0 then -(cX q ts) else cX q ts)=(if S<0 then -S else S)*pw (p - q):=by
  by_cases g:S<0
  ·rw [if_pos (ez.mpr g),if_pos g,es,Ìa]
  ·rw [if_neg (fun y=>g (ez.mp y)),if_neg g,es]
 have eg:(if cX q ts<0 then (1:Int) else 0)=if S<0 then 1 else 0:=by
  by_cases g:S<0
  ·rw [if_pos (ez.mpr g),if_pos g]
  ·rw [if_neg (fun y=>g (ez.mp y)),if_neg g]
 rw [ea,eg]
 have S0:S≠0:=fun y=>z (by rw [es,y,ā])
 have hg:(0:Int)<=(if S<0 then 1 else 0)/\(if S<0 then (1:Int) else 0)<=1:=by split<;>decide
 have nA:nb (if S<0 then -S else S)<=460000:=by
  split
  ·rw [t5];omega
  ·omega
 have A0:0<(if S<0 then -S else S):=by split<;>omega
 generalize (if S<0 then -S else S)=A at *
 generalize (if S<0 then (1:Int) else 0)=g at *
 have wf:=dH (s:=g) (w:=A) (p:=p) ⋯ ⟨⋯,⋯⟩
 have hn:0<frB p:=by
  unfold frB
  split
  ·decide
  ·exact ao _
 have ht:0<frT A p:=by
  unfold frT
  split
  ·exact ţ A0 ↥104
  ·exact A0
 have n1:nb (frT A p)<=1000000:=by
  unfold frT
  split
  ·have:=ll nA (gZ (k:=p) (c:=200000) ⋯)
   omega
  ·omega
 have n2:nb (frB p)<=1000000:=by
  unfold frB
  split
  ·decide
  ·exact Ð (gZ (c:=200000) ⋯) ↥1
 obtain ⟨c,r,e,a⟩:=xh h (Þ ht) hn n1 n2
 refine ⟨c,r,fun w => ?_,Gs hn ↥104 ?_ a⟩
 ·unfold av bo
  simp_arith [to,wf,show ¬ frT A p=0 by omega,e w g hg]
 ·have u:=BH (w:=A) hq hq'
  have e1:A*pw (p - q)*pw ↥87*frB p=A*pw (p - q)*frB p*pw ↥87:=by ac_rfl
  have e2:frT A p*pw ↥87*pw (-q)=frT A p*pw (-q)*pw ↥87:=by ac_rfl
  rw [e1,e2,u]
theorem fE {E F:Int} (h:Sz E F):bf [.tup [.int E,.int F]]=.ok (.int ((pw E - 1)*pw F+pw (F - 1))):=by
 obtain ⟨h1,h2,h3,h4⟩:=id h
 unfold bf eJ
 simp_arith [bL h,kH (k:=F - 1) ⋯ ⋯]
theorem tj {δ:Dt} (x:Tm ⊕ Int):stC (un rJ ↥11) ↥22 [] δ (xD x)=.ok (match x with | .inl _=>none | .inr s=>some (.int s)):=by
 cases x with
 | inl t =>
  unfold stC inC xD tD
  simp_arith [ő]
  unfold l5
  simp_arith []
 | inr s =>
  unfold stC inC xD
  simp_arith [ő]
  unfold l5
  simp_arith []
theorem i8 {E F:Int} {ts:List Tm} (w:Wy) (hl:ts.length<=1000):aB [.tup [.int E,.int F],.str w.s,.lst (ts.map tD)]=av [.tup [.int E,.int F],.str w.s,.lst (ts.map tD)]:=by
 have rc:∀ δ,runC (stC (un rJ ↥11) ↥22 [] δ) (ts.map tD)=.ok []:=fun δ=>by
  rw [kM (o:=fun _=>none) fun d hd=>by
   obtain ⟨t,_,rfl⟩:=å.mp hd
   exact tj (.inl t)]
  rw [List.filterMap_eq_nil_iff.mpr fun _ _=>rfl]
 have fr:dD []=.ok (.lst []):=rfl
 have pb:∀ (a b c:Option D) (ds:List D),pub 3 [a,b,c,some (.own ds)]=[a,b,c,some ↥120]:=fun _ _ _ _=>rfl
 have i0:∀ x:Int,oIn (.int x) (.lst [])=.ok ↥56:=fun _=>rfl
 unfold aB bp
 generalize hr:av [.tup [.int E,.int F],.str w.s,.lst (ts.map tD)]=r
 cases r with
 | ok d=>simp_arith [Á,show ts.length<=100000 by omega,rc,fr,pb,i0,hr]
 | ex C=>simp_arith [Á,show ts.length<=100000 by omega,rc,fr,pb,i0,hr]
 | bad =>
  simp_arith [Á,show ts.length<=100000 by omega,rc,fr,pb,i0,hr]
  rfl
theorem i7 {E F:Int} {xs:List (Tm ⊕ Int)} (w:Wy) (h:Sz E F) (hl:xs.length<=1000) (hs:∀ s∈qk xs,0<=s/\s<=1) (hn:qk xs≠[]) :
  aB [.tup [.int E,.int F],.str w.s,.lst (xs.map xD)]=.ok (if 0∈qk xs/\1∈qk xs then .tup [.int (pw ↥9 - pw F+pw (F - 1)),.int 16] else .tup [.int ((qk xs).getD 0 0*pw ↥9+↥103),.int 0]):=by
 have rc:∀ δ,runC (stC (un rJ ↥11) ↥22 [] δ) (xs.map xD)=.ok ((qk xs).map D.int):=fun δ=>by
  clear hs hn hl
  induction xs with
  | nil=>rfl
  | cons x r ih =>
   rw [Ê]
   unfold runC
   rw [tj,ih]
   cases x<;>rfl
 have pb:∀ (a b c:Option D) (ds:List D),pub 3 [a,b,c,some (.own ds)]=[a,b,c,some ↥120]:=fun _ _ _ _=>rfl
 have l1:xs.length<=100000:=⋯
 have ee:=bL h
 have e2:=fE h
 rw [end_is h] at ee e2
 generalize qk xs=es at *
 have lp:0<(es.length:Int):=by
  cases es with
  | nil=>exact absurd rfl hn
  | cons a r=>simp only [Ò];omega
 have ix:=A8 (bs:=es) (k:=0) (í 0) lp
 have hm:es.getD (0:Int).toNat 0∈es:=by
  have lt:0<es.length:=⋯
  show es.getD 0 0∈es
  rw [Î,Â lt]
  exact ħ lt
 have sg:=cR (c:=pw ↥9 - pw F) h (hs _ hm)
 have e0:es.getD (0:Int).toNat 0=es.getD 0 0:=rfl
 rw [e0] at ix sg
 unfold aB bp
 by_cases g:0∈es/\1∈es
 ·rw [if_pos g]
  simp_arith [Á,l1,rc,aM,pb,dk,eq_true g,eq_true g.1,eq_true g.2,e2]
 ·rw [if_neg g]
  by_cases g0:0∈es
  ·have g1:¬ 1∈es:=fun z=>g ⟨g0,z⟩
   simp_arith [Á,l1,rc,aM,pb,dk,eq_true g0,g1,lp,ix,ee,sg]
  ·simp_arith [Á,l1,rc,aM,pb,dk,g0,lp,ix,ee,sg]
theorem zQ {E F b:Int} (h:Sz E F) (hb:In E F b) (hf:¬ fld E F b=pw E - 1):kW [.tup [.int E,.int F],.int b]=.ok (.tup [.int (sgn E F b),.int (wh F (fld E F b) (fig F b)),.int (po E F (fld E F b))]):=by
 obtain ⟨h1,h2,h3,h4⟩:=id h
 unfold kW oF
 simp_arith [kT h hb,eF h,jq h,hf,kH (k:=F) ⋯ ⋯]
 unfold wh po
 by_cases g:fld E F b=0
 ·simp only [if_pos g]
 ·simp only [if_neg g]
theorem oq {E F s c:Int} (h:Sz E F) (hs:0<=s/\s<=1) (c0:0<=c) (c1:c<pw ↥9):cU [.tup [.int E,.int F],.int ↥90]=.ok (.str (kindS E (c / pw F) (c%pw F))):=by
 obtain ⟨b1,b2,b3,b4⟩:=aN h hs c0 c1
 have:=yp h b1
 rw [b3,b4] at this
 exact this
theorem xH {E F s c:Int} (h:Sz E F) (hs:0<=s/\s<=1) (c0:0<=c) (c1:c<pw ↥9):cf [.tup [.int E,.int F],.int ↥90]=.ok (.tup [.int s,.int (c / pw F),.int (c%pw F)]):=by
 obtain ⟨b1,b2,b3,b4⟩:=aN h hs c0 c1
 have:=kT h b1
 rw [b2,b3,b4] at this
 exact this
theorem lh {E F s c:Int} (h:Sz E F) (hs:0<=s/\s<=1) (c0:0<=c) (c1:c<pw ↥9 - pw F):ax [.tup [.int E,.int F],.int ↥90]=.ok (tD (wt E F s c)):=by
 have hQ:=ao F
 obtain ⟨b1,b2,b3,b4⟩:=aN (c:=c) h hs c0 ⋯
 have wo:=zQ h b1 (by rw [b3];intro z;have:=(t9 h c0 ⋯).mp z;omega)
 rw [b2,b3,b4] at wo
 have k:=(gq (c:=c) h c0 ⋯).2.1
 have kk:=oq (c:=c) h hs c0 ⋯
 have g:¬ kindS E (c / pw F) (c%pw F)=Ñ "endless":=fun z=>by have:=k.mp z;omega
 unfold ax bY tD wt
 simp_arith [kk,g,wo]
theorem lj {E F s c:Int} (h:Sz E F) (hs:0<=s/\s<=1) (c0:c=pw ↥9 - pw F):ax [.tup [.int E,.int F],.int ↥90]=.ok (.tup [.int s,.non,.int 0]):=by
 have hQ:=ao F
 have h5:=eI h
 have k:=(gq (c:=c) h ⋯ ⋯).2.1
 have kk:=oq (c:=c) h hs ⋯ ⋯
 have pp:=xH (c:=c) h hs ⋯ ⋯
 unfold ax bY
 simp_arith [kk,eq_true (k.mpr c0),pp]
theorem Dn {E F:Int} {x:Int×Int} (h:Sz E F) (hx:dB E F x) (hn:x.2<=pw ↥9 - pw F):ax [.tup [.int E,.int F],.int (nI E F x)]=.ok (xD (xt E F x)):=by
 obtain ⟨a,b,c⟩:=hx
 unfold xt nI
 by_cases g:x.2=pw ↥9 - pw F
 ·rw [if_pos g]
  exact lj h a g
 ·rw [if_neg g]
  exact lh h a b ⋯
theorem kP {E F:Int} {x y:Int×Int} (h:Sz E F) (hx:dB E F x) (hy:dB E F y) (nx:x.2<=pw ↥9 - pw F) (ny:y.2<=pw ↥9 - pw F):aY [.tup [.int E,.int F],.int (nI E F x),.int (nI E F y)]=.ok (xD (pt E F x y)):=by
 have tx:=Dn h hx nx
 have ty:=Dn h hy ny
 have so:=LG hx.1 hy.1
 unfold xt at tx ty
 unfold pt
 unfold aY cg
 by_cases g:x.2=pw ↥9 - pw F
 ·rw [if_pos g] at tx
  rw [if_pos (.inl g)]
  by_cases g':y.2=pw ↥9 - pw F
  ·rw [if_pos g'] at ty
   unfold xD at *
   simp_arith [tx,ty,so]
  ·rw [if_neg g'] at ty
   unfold xD tD wt at *
   simp_arith [tx,ty,so]
 ·rw [if_neg g] at tx
  by_cases g':y.2=pw ↥9 - pw F
  ·rw [if_pos g'] at ty
   rw [if_pos (.inr g')]
   unfold xD tD wt at *
   simp_arith [tx,ty,so]
  ·rw [if_neg g'] at ty
   rw [if_neg (fun z=>z.elim g g')]
   obtain ⟨⟨_,a2,_,_⟩,_,_⟩:=we (s:=0) h hx.2.1 (show x.2<_ by omega)
   obtain ⟨⟨_,b2,_,_⟩,_,_⟩:=we (s:=0) h hy.2.1 (show y.2<_ by omega)
   have mu:=aK (MulOk.of (i:=wh F (x.2 / pw F) (x.2%pw F)) (j:=wh F (y.2 / pw F) (y.2%pw F)) a2 b2 ↥1)
   unfold xD tD wt pm at *
   simp_arith [tx,ty,so,mu]
theorem eV {E F:Int} {x y:Int×Int} (h:Sz E F) (hx:dB E F x) (hy:dB E F y):bb [.tup [.int E,.int F],.int (nI E F x),.int (nI E F y)]=.ok (.bl (decide ((x.2=0\/y.2=0)/\(x.2=pw ↥9 - pw F\/y.2=pw ↥9 - pw F)))):=by
 obtain ⟨kn,ke,k0⟩:=gq (c:=x.2) h hx.2.1 hx.2.2
 obtain ⟨ln,le,l0⟩:=gq (c:=y.2) h hy.2.1 hy.2.2
 have kk:=oq (c:=x.2) h hx.1 hx.2.1 hx.2.2
 have kl:=oq (c:=y.2) h hy.1 hy.2.1 hy.2.2
 simp only [<- ke,<-le,<-k0,<-l0]
 generalize kindS E (x.2 / pw F) (x.2%pw F)=K at *
 generalize kindS E (y.2 / pw F) (y.2%pw F)=L at *
 unfold nI bb bX
 by_cases g:K=Ñ "nought"\/L=Ñ "nought"
 ·simp_arith [kk,kl,oo,eq_true g,true_and]
 ·simp_arith [kk,kl,oo,g,false_and]
theorem ot {E F:Int} {xs:List ↥18} (h:Sz E F) (hx:∀ x∈xs,dB E F x) :
  Ñ "none"∈(xs.map ↥72).map (fun b=>kindS E (fld E F b) (fig F b))↔∃ x∈xs,pw ↥9 - pw F<x.2:=by
 rw [ô,å]
 constructor
 ·rintro ⟨x,m,e⟩
  obtain ⟨a,b,c⟩:=hx x m
  obtain ⟨b1,b2,b3,b4⟩:=aN h a b c
  refine ⟨x,m,(gq h b c).1.mp ?_⟩
  rw [<- b3,<-b4]
  exact e
 ·rintro ⟨x,m,e⟩
  obtain ⟨a,b,c⟩:=hx x m
  obtain ⟨b1,b2,b3,b4⟩:=aN h a b c
  refine ⟨x,m,?_⟩
  have:=(gq h b c).1.mpr e
  rw [<- b3,<-b4] at this
  exact this
theorem rM {E F:Int} {xs:List ↥18} (h:Sz E F) (hx:∀ x∈xs,dB E F x):∀ b∈xs.map ↥72,cU [.tup [.int E,.int F],.int b]=.ok (.str (kindS E (fld E F b) (fig F b))):=fun b hb=>by
 obtain ⟨x,m,rfl⟩:=å.mp hb
 obtain ⟨a,b,c⟩:=hx x m
 exact yp h (aN h a b c).1
theorem qZ {E F:Int} {st:D->R (Option D)} {xs:List ↥18} (hst:∀ x∈xs,st (.int (nI E F x))=.ok (some (xD (xt E F x)))):runC st ↥112=.ok ((xs.map (xt E F)).map xD):=by
 induction xs with
 | nil=>rfl
 | cons x r ih =>
  rw [Ê,Ê]
  unfold runC
  rw [hst x (.head _),ih fun x hx=>hst x (.tail _ hx)]
  rfl
theorem km {E F:Int} {a0 a1 a2 a3 a6:Option D}:∀ {ps:List (↥18×↥18)} {bs:List Int} {z5:Option D},(bs.length+2*ps.length<=100000)->∃ z5',forL 5 (jn 4 (var 5)) ↥81 [a0,a1,a2,a3,some (.own (bs.map .int)),z5,a6]=.nx [a0,a1,a2,a3,some (.own ((bs++(fl ps).map ↥72).map .int)),z5',a6]
 | [],bs,z5,_=>⟨z5,by rw [ő,ui];show _=O.nx [a0,a1,a2,a3,some (D.own ((bs++[]).map .int)),z5,a6];rw [ĭ]⟩
 | p::r,bs,z5,hl=>by
  rw [Ò] at hl
  obtain ⟨z5',ih⟩:=km (E:=E) (F:=F) (a0:=a0) (a1:=a1) (a2:=a2) (a3:=a3) (a6:=a6) (ps:=r) (bs:=bs++[nI E F p.1,nI E F p.2]) (z5:=some (pD E F p)) (by rw [Æ];simp;omega)
  refine ⟨z5',?_⟩
  have e:(bs++(fl (p::r)).map ↥72)=bs++[nI E F p.1,nI E F p.2]++(fl r).map ↥72:=by
   show bs++([nI E F p.1,nI E F p.2]++(fl r).map ↥72)=_
   rw [Ć]
  rw [e,Ê,dQ,<-ih]
  have x:GQ 4 [a0,a1,a2,a3,some (.own (bs.map .int)),some (pD E F p),a6] (bs.map .int) (.ok (pD E F p))=.nx [a0,a1,a2,a3,some (.own ((bs++[nI E F p.1,nI E F p.2]).map .int)),some (pD E F p),a6]:=by
   unfold GQ pD
   simp only
   rw [if_pos ⟨rfl,by simp;omega⟩,ģ]
   rfl
  have y:jn 4 (var 5) [a0,a1,a2,a3,some (.own (bs.map .int)),some (pD E F p),a6]=.nx [a0,a1,a2,a3,some (.own ((bs++[nI E F p.1,nI E F p.2]).map .int)),some (pD E F p),a6]:=by
   rw [Ah,<-x]
   rfl
  show trn (jn 4 (var 5) [a0,a1,a2,a3,some (.own (bs.map .int)),some (pD E F p),a6]) (forL 5 (jn 4 (var 5)) (r.map (pD E F)))=_
  rw [y]
  rfl
theorem kU {E F:Int} {st:D->R (Option D)} {f:↥18×↥18->D} {ps:List (↥18×↥18)} (hst:∀ p∈ps,st (pD E F p)=.ok (some (f p))):runC st ↥81=.ok (ps.map f):=by
 induction ps with
 | nil=>rfl
 | cons p r ih =>
  rw [Ê]
  unfold runC
  rw [hst p (.head _),ih fun x hx=>hst x (.tail _ hx)]
  rfl
theorem any_map {α:Type} {f:α->Bool} {ps:List α}:Gp [.lst (ps.map fun p=>.bl (f p))]=.ok (.bl (ps.any f)):=by
 have:boolsOf (ps.map fun p=>.bl (f p))=some (ps.map f):=by
  induction ps with
  | nil=>rfl
  | cons a r ih =>
   rw [Ê,Ê]
   show (boolsOf _).map _=_
   rw [ih]
   rfl
 unfold Gp
 simp only [this]
 rw [List.any_map]
 rfl
theorem m8 {α:Type} {f:α->Bool} {ps:List α}:dD (ps.map fun p=>.bl (f p))=.ok (.lst (ps.map fun p=>.bl (f p))):=by
 unfold dD
 rw [if_pos]
 induction ps with
 | nil=>rfl
 | cons a r ih =>
  rw [Ê]
  show (D.flat (.bl (f a))&&D.flats _)=true
  rw [ih]
  rfl
def wrP (E F:Int) (p:↥18×↥18):Prop:=(p.1.2=0\/p.2.2=0)/\(p.1.2=pw ↥9 - pw F\/p.2.2=pw ↥9 - pw F)
noncomputable instance (E F:Int) (p:↥18×↥18):Decidable (wrP E F p):=by unfold wrP;exact inferInstance
section
variable {E F:Int} {ps:List (↥18×↥18)} {xs:List ↥18}
theorem ue (w:Wy) (h:Sz E F) (hl:xs.length<=400) (hl2:ps.length<=300) (hx:∀ x∈xs++fl ps,dB E F x) (hn:∃ x∈xs++fl ps,pw ↥9 - pw F<x.2) :
  ai [.tup [.int E,.int F],.str w.s,.lst ↥81,.lst ↥14]=.ok (.tup [.int (pw ↥9 - pw F+pw (F - 1)),.int 0]):=by
 have fll:=uq ps
 have an:=sU (E:=E) (F:=F) (bs:=(xs++fl ps).map ↥72) (by rw [Á,Æ];omega) (rM h hx)
 rw [decide_eq_true ((ot h hx).mpr hn),ģ] at an
 have e2:=fE h
 rw [end_is h] at e2
 have bl:qF [.lst ↥112]=.ok (.lst ↥112):=aM
 obtain ⟨z5,lo⟩:=km (E:=E) (F:=F) (a0:=some ↥12) (a1:=some (.str w.s)) (a2:=some (.lst ↥81)) (a3:=some (.lst ↥14)) (a6:=none) (ps:=ps) (bs:=xs.map ↥72) (z5:=none) (by rw [Á];omega)
 unfold ai br
 simp_arith [cw w,bl,lo,Á,show ps.length<=100000 by omega,an,e2]
theorem yC (w:Wy) (h:Sz E F) (hl:xs.length<=400) (hl2:ps.length<=300) (hx:∀ x∈xs++fl ps,dB E F x) (hn:∀ x∈xs++fl ps,x.2<=pw ↥9 - pw F) :
  (∃ p∈ps,wrP E F p)->ai [.tup [.int E,.int F],.str w.s,.lst ↥81,.lst ↥14]=.ok (.tup [.int (pw ↥9 - pw F+pw (F - 1)),.int 16]):=by
 intro hw
 have fll:=uq ps
 have an:=sU (E:=E) (F:=F) (bs:=(xs++fl ps).map ↥72) (by rw [Á,Æ];omega) (rM h hx)
 rw [decide_eq_false (fun z=>by obtain ⟨x,m,y⟩:=(ot h hx).mp z;have:=hn x m;omega),ģ] at an
 have e2:=fE h
 rw [end_is h] at e2
 have bl:qF [.lst ↥112]=.ok (.lst ↥112):=aM
 obtain ⟨z5,lo⟩:=km (E:=E) (F:=F) (a0:=some ↥12) (a1:=some (.str w.s)) (a2:=some (.lst ↥81)) (a3:=some (.lst ↥14)) (a6:=none) (ps:=ps) (bs:=xs.map ↥72) (z5:=none) (by rw [Á];omega)
 have st:∀ δ:Dt,∀ p∈ps,stC ↥133 ↥95 [0] (some ↥12::δ) (pD E F p)=.ok (some (.bl (decide (wrP E F p)))):=fun δ p m=>by
  have e:=eV h (hx p.1 (È.mpr (.inr (eZ.mpr ⟨p,m,.inl rfl⟩)))) (hx p.2 (È.mpr (.inr (eZ.mpr ⟨p,m,.inr rfl⟩))))
  unfold stC inC pD wrP
  simp_arith [ġ,e]
  unfold l5
  simp_arith []
 have aw:ps.any (fun p=>decide (wrP E F p))=true:=by
  obtain ⟨p,m,q⟩:=hw
  exact List.any_eq_true.mpr ⟨p,m,decide_eq_true q⟩
 unfold ai br
 simp_arith [cw w,bl,lo,Á,show ps.length<=100000 by omega,an,e2,kU (st _),m8,any_map,aw]
theorem qh {d:D} (w:Wy) (h:Sz E F) (hl:xs.length<=400) (hl2:ps.length<=300) (hx:∀ x∈xs++fl ps,dB E F x) (hn:∀ x∈xs++fl ps,x.2<=pw ↥9 - pw F) (hw:∀ p∈ps,¬ wrP E F p) (hd:aB [.tup [.int E,.int F],.str w.s,.lst ((ps.map (ptp E F)++xs.map (xt E F)).map xD)]=.ok d) :
  ai [.tup [.int E,.int F],.str w.s,.lst ↥81,.lst ↥14]=.ok d:=by
 have fll:=uq ps
 have an:=sU (E:=E) (F:=F) (bs:=(xs++fl ps).map ↥72) (by rw [Á,Æ];omega) (rM h hx)
 rw [decide_eq_false (fun z=>by obtain ⟨x,m,y⟩:=(ot h hx).mp z;have:=hn x m;omega),ģ] at an
 have bl:qF [.lst ↥112]=.ok (.lst ↥112):=aM
 obtain ⟨z5,lo⟩:=km (E:=E) (F:=F) (a0:=some ↥12) (a1:=some (.str w.s)) (a2:=some (.lst ↥81)) (a3:=some (.lst ↥14)) (a6:=none) (ps:=ps) (bs:=xs.map ↥72) (z5:=none) (by rw [Á];omega)
 have mem1:∀ p∈ps,p.1∈xs++fl ps:=fun p m=>È.mpr (.inr (eZ.mpr ⟨p,m,.inl rfl⟩))
 have mem2:∀ p∈ps,p.2∈xs++fl ps:=fun p m=>È.mpr (.inr (eZ.mpr ⟨p,m,.inr rfl⟩))
 have st:∀ δ:Dt,∀ p∈ps,stC ↥133 ↥95 [0] (some ↥12::δ) (pD E F p)=.ok (some (.bl (decide (wrP E F p)))):=fun δ p m=>by
  have e:=eV h (hx p.1 (mem1 p m)) (hx p.2 (mem2 p m))
  unfold stC inC pD wrP
  simp_arith [ġ,e]
  unfold l5
  simp_arith []
 have aw:ps.any (fun p=>decide (wrP E F p))=false:=by
  rw [List.any_eq_false]
  exact fun p m=>by rw [decide_eq_true_iff];exact hw p m
 have st2:∀ δ:Dt,∀ p∈ps,stC ↥133 (call aY [var 1,bin oIx (var 0) ⇑0,bin oIx (var 0) ⇑1]) [0] (some ↥12::δ) (pD E F p)=.ok (some (xD (ptp E F p))):=fun δ p m=>by
  have e:=kP h (hx p.1 (mem1 p m)) (hx p.2 (mem2 p m)) (hn p.1 (mem1 p m)) (hn p.2 (mem2 p m))
  unfold stC inC pD ptp
  simp_arith [ġ,e]
  unfold l5
  simp_arith []
 have st3:∀ δ:Dt,∀ x∈xs,stC ↥133 (call ax [var 1,var 0]) [0] (some ↥12::δ) (.int (nI E F x))=.ok (some (xD (xt E F x))):=fun δ x m=>by
  have e:=Dn h (hx x (È.mpr (.inl m))) (hn x (È.mpr (.inl m)))
  unfold stC inC
  simp_arith [ġ,e]
  unfold l5
  simp_arith []
 have f1:dD (ps.map fun p=>xD (ptp E F p))=.ok (.lst (ps.map fun p=>xD (ptp E F p))):=by
  have:=sW (xs:=ps.map (ptp E F))
  rw [ô] at this
  unfold dD
  exact if_pos this
 have f2:dD ((xs.map (xt E F)).map xD)=.ok (.lst ((xs.map (xt E F)).map xD)):=by unfold dD;rw [if_pos sW]
 have pb:∀ (a2 a3 a4 a5 a6 a7:Option D) (ds:List D),pub 6 [a2,a3,a4,a5,a6,a7,some (.own ds)]=[a2,a3,a4,a5,a6,a7,some ↥120]:=fun _ _ _ _ _ _ _=>rfl
 have ad:bH (.lst (ps.map fun p=>xD (ptp E F p))) (.lst ((xs.map (xt E F)).map xD))=.ok (.lst ((ps.map (ptp E F)++xs.map (xt E F)).map xD)):=by
  rw [Bk (by simp;omega),ģ,ô (f:=ptp E F)]
  rfl
 unfold ai br
 simp_arith [cw w,bl,lo,Á,show ps.length<=100000 by omega,show xs.length<=100000 by omega,an,kU (st _),m8,any_map,aw,kU (st2 _),f1,pb,qZ (st3 _),f2,ad,hd]
theorem wJ {V U X:Int} (h:Sz E F) (hl:xs.length<=400) (hl2:ps.length<=300) (hx:∀ x∈xs++fl ps,dB E F x) (hf:∀ x∈xs++fl ps,x.2<pw ↥9 - pw F) (hV:0<V) (eX:cX (2*lo E F) (fts E F ps xs)=X*V) (eU:pw (-(2*lo E F))=U*(V*pw ↥87)) (w:Wy) :
  ∃ x y,ai [.tup [.int E,.int F],.str w.s,.lst ↥81,.lst ↥14]=.ok (.tup [.int x,.int y])/\M1 w E F X U (nsg w ((fts E F ps xs).map (·.1))) x y:=by
 have hQ:=ao F
 have l:=lz h
 have key:∀ d,av [.tup [.int E,.int F],.str w.s,.lst ((fts E F ps xs).map tD)]=.ok d->ai [.tup [.int E,.int F],.str w.s,.lst ↥81,.lst ↥14]=.ok d:=fun d hd=>by
  refine qh w h hl hl2 hx (fun x m=>Þ (hf x m)) (fun p m z => ?_) ?_
  ·have a:=hf _ (K1 (xs:=xs) m)
   have b:=hf _ (K0 (xs:=xs) m)
   unfold wrP at z
   omega
  ·rw [JX hf,i8 w (by rw [yE];omega)]
   exact hd
 have ok:=JY h hx hf
 have len:(fts E F ps xs).length<=1000:=by rw [yE];omega
 generalize fts E F ps xs=ts at *
 by_cases z:X=0
 ·have zz:cX (lx ts) ts=0:=by
   have:=wH (q:=2*lo E F) (ts:=ts) fun t ht=>(ok t ht).2
   rw [eX,z,ā] at this
   rcases Ác.mp this.symm with e | e
   ·exact e
   ·have:=ao (lx ts - 2*lo E F);omega
  exact ⟨_,_,key _ (hX w h len (fun t ht=>(ok t ht).1) zz),fun _=>⟨rfl,rfl⟩,fun y=>absurd z y⟩
 ·have z':cX (2*lo E F) ts≠0:=by
   rw [eX]
   intro y
   rcases Ác.mp y with e | e
   ·exact z e
   ·omega
  obtain ⟨k,r,e,a⟩:=jH (ts:=ts) h len (fun t ht=>(ok t ht).1) (show 2*lo E F<=0 by omega) (fun t ht=>(ok t ht).2) z'
  rw [eX] at e a
  have ni:=rL (X:=X) hV
  have e1:(if X*V<0 then (1:Int) else 0)=if X<0 then 1 else 0:=by
   by_cases g:X<0
   ·rw [if_pos (ni.mpr g),if_pos g]
   ·rw [if_neg (fun y=>g (ni.mp y)),if_neg g]
  have e2:(if X*V<0 then -(X*V) else X*V)=(if X<0 then -X else X)*V:=by
   by_cases g:X<0
   ·rw [if_pos (ni.mpr g),if_pos g,Ìa]
   ·rw [if_neg (fun y=>g (ni.mp y)),if_neg g]
  rw [e1] at e
  rw [e2,eU,Ù] at a
  exact ⟨_,_,key _ (e w),fun y=>absurd y z,fun _=>⟨k,r,rfl,rfl,CY (ţ hV ↥104) a⟩⟩
theorem wI {b:Int} (w:Wy) (h:Sz E F) (hl:xs.length<=400) (hl2:ps.length<=300) (hx:∀ x∈xs++fl ps,dB E F x) (hn:∀ x∈xs++fl ps,x.2<=pw ↥9 - pw F) (hw:∀ p∈ps,¬ wrP E F p) (hs:∀ s∈qk ↥28,0<=s/\s<=1) (hb:b∈qk ↥28) :
  ai [.tup [.int E,.int F],.str w.s,.lst ↥81,.lst ↥14]=.ok (if 0∈qk ↥28/\1∈qk ↥28 then .tup [.int (pw ↥9 - pw F+pw (F - 1)),.int 16] else .tup [.int (b*pw ↥9+↥103),.int 0]):=by
 refine qh w h hl hl2 hx hn hw ?_
 have hne:qk ↥28≠[]:=fun z=>by rw [z] at hb;cases hb
 rw [i7 w h (by rw [Æ,Á,Á];omega) hs hne]
 generalize qk ↥28=es at *
 by_cases g:0∈es/\1∈es
 ·rw [if_pos g,if_pos g]
 ·rw [if_neg g,if_neg g]
  have hm:es.getD 0 0∈es:=by
   cases es with
   | nil=>exact absurd rfl hne
   | cons a r=>exact .head _
  have q1:=hs _ hm
  have q2:=hs _ hb
  have:es.getD 0 0=b:=by
   rcases (by omega:es.getD 0 0=0\/es.getD 0 0=1) with u | u<;>rcases (by omega:b=0\/b=1) with v | v
   ·omega
   ·exact absurd ⟨u▸hm,v▸hb⟩ g
   ·exact absurd ⟨v▸hb,u▸hm⟩ g
   ·omega
  rw [this]
end
theorem sI {ns:List Int} {j:Int} (h0:0<=j):aQ [.lst (ns.map .int),.int j]=.ok (.int (ns.getD j.toNat 0)):=by
 unfold aQ cL
 by_cases h:j<(ns.length:Int)
 ·have e:oIx (.lst (ns.map D.int)) (.int j)=.ok (.int (ns.getD j.toNat 0)):=by
   obtain ⟨k,rfl⟩:=Æg h0
   have hk:k<ns.length:=⋯
   refine dO ?_
   simp [Ë,Â hk,Î]
  simp_arith [h,e]
 ·simp_arith [h,BE h0 h]
theorem wm (i:Int):b8 [.int i]=.ok ↥29:=by
 unfold b8 eK
 simp_arith []
theorem pf {E F:Int}:∀ (ps:List (↥18×↥18)),Ëf (fun x y=>D.tup [x,y]) ↥138 ↥139=ps.map (pD E F)
 | []=>rfl
 | p::r=>by
  rw [Ê,Ê,Ê,Ê,List.zipWith_cons_cons,pf r,Ê]
  rfl
theorem lF {E F:Int} {ps:List (↥18×↥18)} (w:Wy) (hl:ps.length<=300) {r:R D} (hr:ai [.tup [.int E,.int F],.str w.s,.lst ↥81,.lst []]=r) (hk:∃ d,r=.ok d) :
  bK [.tup [.int E,.int F],.str w.s,.lst ↥138,.lst ↥139]=r:=by
 obtain ⟨d,rfl⟩:=hk
 have z:Ky [.lst ↥138,.lst ↥139]=.ok (.lst ↥81):=by
  unfold Ky
  simp only [Á]
  rw [if_pos ⟨⋯,⋯⟩,pf]
 have l1:gG [.lst ↥138]=.ok (.int ps.length):=by unfold gG;simp
 have l2:gG [.lst ↥139]=.ok (.int ps.length):=by unfold gG;simp
 unfold bK gA
 generalize (ps.map fun p=>nI E F p.1).map D.int=A at *
 generalize (ps.map fun p=>nI E F p.2).map D.int=B at *
 simp_arith [cw w,l1,l2,z,hr]
theorem pG {E F:Int} {xs:List ↥18} (w:Wy) {r:R D} (hr:ai [.tup [.int E,.int F],.str w.s,.lst [],.lst ↥14]=r) (hk:∃ d,r=.ok d) :
  eB [.tup [.int E,.int F],.str w.s,.lst ↥14]=r:=by
 obtain ⟨d,rfl⟩:=hk
 unfold eB ka
 simp_arith [hr]
theorem JL {E F:Int} {ys:List ↥18} {k:Int} (h0:0<=k) (h1:k<ys.length):∃ y∈ys,oIx (.lst ↥94) (.int k)=.ok (.int (nI E F y)):=by
 have hj:k.toNat<ys.length:=⋯
 refine ⟨ys[k.toNat],ħ hj,?_⟩
 have:=dO (ds:=(ys.map ↥72).map .int) (k:=k.toNat) (d:=.int (nI E F ys[k.toNat])) (by rw [Ë,Ë,Â hj];rfl)
 rw [show ((k.toNat:Nat):Int)=k by omega] at this
 exact this
theorem Cw {E F:Int} {ys:List ↥18} (h:ys.length<=100000):Gk [.lst ↥94]=.ok (.lst ((ys.reverse.map ↥72).map .int)):=by
 rw [Gj (by rw [Á,Á];exact h),List.map_reverse,List.map_reverse]
theorem tN {E F k:Int} {ys:List ↥18} (h:ys.length<=126) (k0:0<=k/\k<=3):A3 (.lst ((ys.map ↥72).map D.int)) (.int k)=.ok (.lst (((Û k.toNat ys).flatten.map ↥72).map D.int)):=by
 unfold A3
 simp only
 have:ys.length*k.toNat<=126*3:=Nat.mul_le_mul h ⋯
 rw [if_pos ⟨⋯,⋯,by rw [Á,Á];omega⟩]
 congr 2
 rw [List.map_flatten,List.map_flatten,List.map_replicate,List.map_replicate]
def sD (k:Int) (ys:List ↥18):List ↥18:=EV.cut (Û k.toNat ys).flatten none (some 200)
theorem uv {k:Int} {ys:List ↥18} {y:Int×Int} (h:y∈sD k ys):y∈ys:=by
 have m:=yU h
 obtain ⟨l,hl,hb⟩:=List.mem_flatten.mp m
 rw [List.eq_of_mem_replicate hl] at hb
 exact hb
theorem ko {k:Int} {ys:List ↥18}:(sD k ys).length=min 200 (k.toNat*ys.length):=by
 have l2:(Û k.toNat ys).flatten.length=k.toNat*ys.length:=by simp
 unfold sD EV.cut
 have e1:sIx (Û k.toNat ys).flatten.length 0 none=0:=rfl
 have e2:sIx (Û k.toNat ys).flatten.length (Û k.toNat ys).flatten.length (some 200)=min 200 (k.toNat*ys.length):=by
  unfold sIx
  rw [l2]
  rfl
 rw [e1,e2,ĺ,é,l2]
 omega
theorem AK {E F q:Int} {cs:List Int} (h:Sz E F) (hl:cs.length<=63) (hc:∀ c∈cs,nb c<=2^20) :
  ∃ xs ys:List ↥18,bW [.tup [.int E,.int F],.lst (cs.map .int),.int q]=.ok (.tup [.lst ↥14,.lst ↥94])/\(∀ x∈xs,FnOk E F x)/\(∀ x∈ys,FnOk E F x)/\xs.length=ys.length/\xs.length<=200/\xs.length<=3*cs.length:=by
 obtain ⟨k1,k2,k3,k4⟩:=id h
 have hH:=ao ↥9
 have s1:=kH (k:=E+F) ⋯ ⋯
 have n1:nb (pw ↥9)<=128:=gZ (c:=127) ⋯
 have m2:=aK (MulOk.of (i:=2) (j:=pw ↥9) (a:=2) ↥1 n1 ↥1)
 have p2:0<2*pw ↥9:=⋯
 obtain ⟨M,hM⟩:∃ M:Int,(cs.length:Int) / 2=M:=⟨_,rfl⟩
 have aR:=kz (n:=M) ⋯ ⋯
 have ff:∀ j:Int,0<=j->j<cs.length->∃ x,FnOk E F x/\∃ c,oIx ↥20 (.int j)=.ok (.int c)/\aA [.tup [.int E,.int F],.int c]=.ok (.int (nI E F x)):=fun j j0 j1=>by
  have hj:j.toNat<cs.length:=⋯
  obtain ⟨s,u,e,hs,u0,u1⟩:=qi h (hc _ (ħ hj))
  refine ⟨(s,u),⟨hs,u0,u1⟩,cs[j.toNat],?_,e⟩
  have:=dO (ds:=cs.map .int) (k:=j.toNat) (d:=.int cs[j.toNat]) (by rw [Ë,Â hj];rfl)
  rw [show ((j.toNat:Nat):Int)=j by omega] at this
  exact this
 have rl:(iY 0 M).length<=31:=by unfold iY;simp;omega
 have rl':(iY 0 M).length=M.toNat:=by unfold iY;simp
 have mk:∀ k:Int,0<=k->k<40->eY (.int 2) (.int k)=.ok (.int (2*k)):=fun k h0 h1=>aK (MulOk.of (a:=2) (b:=20) ↥1 (iu h0 ⋯) ↥1)
 obtain ⟨xs,ec,hx,hxl⟩:=sk (E:=E) (F:=F) (st:=stC ↥133 (call aA [var 1,bin oIx ↥124 (bin eY ⇑2 (var 0))]) [0,1] [some ↥12,some ↥20,some (.int q),some ↥54,some (.int M),none,none,none,none]) (ds:=iY 0 M) fun d m=>by
  obtain ⟨k,hk0,hk1,rfl⟩:=tG m
  obtain ⟨x,hx,c,e1,e2⟩:=ff (2*k) ⋯ ⋯
  refine ⟨x,hx,?_⟩
  unfold stC inC
  simp_arith [ġ,Êe,mk k hk0 ⋯,e1,e2]
  unfold l5
  simp_arith []
 obtain ⟨ys,ed,hy,hyl⟩:=sk (E:=E) (F:=F) (st:=stC ↥133 (call aA [var 1,bin oIx ↥124 (bin bH (bin eY ⇑2 (var 0)) ⇑1)]) [0,1] [some ↥12,some ↥20,some (.int q),some ↥54,some (.int M),some (.lst ↥14),none,none,none]) (ds:=iY 0 M) fun d m=>by
  obtain ⟨k,hk0,hk1,rfl⟩:=tG m
  obtain ⟨x,hx,c,e1,e2⟩:=ff (2*k+1) ⋯ ⋯
  refine ⟨x,hx,?_⟩
  unfold stC inC
  simp_arith [ġ,Êe,mk k hk0 ⋯,e1,e2]
  unfold l5
  simp_arith []
 have bl:gG [.lst (cs.map .int)]=.ok (.int cs.length):=by unfold gG;simp
 have flr:∀ ys:List Int,dD (ys.map .int)=.ok (.lst (ys.map .int)):=fun ys=>aM
 unfold bW cK
 generalize hbody:ifs (sS _ _) _ _=body
 have loop:∀ (ds:List D),(∀ d∈ds,d∈iY 0 M)->∀ (xs ys:List ↥18) (z:Option D),(∀ x∈xs,FnOk E F x)->(∀ x∈ys,FnOk E F x)->xs.length=ys.length->M.toNat<=xs.length->xs.length+ds.length<=2*(cs.length / 2)->(z=none\/∃ c,z=some (.int c)) ->
   ∃ (xs' ys':List ↥18) (z':Option D),forL 8 body ds [some ↥12,some ↥20,some (.int q),some ↥54,some (.int M),some (.own ↥14),some (.own ↥94),some (.int (1+q / 3%5)),z]=.nx [some ↥12,some ↥20,some (.int q),some ↥54,some (.int M),some (.own ((xs'.map ↥72).map .int)),some (.own ((ys'.map ↥72).map .int)),some (.int (1+q / 3%5)),z']/\(∀ x∈xs',FnOk E F x)/\(∀ x∈ys',FnOk E F x)/\xs'.length=ys'.length/\xs'.length<=2*(cs.length / 2)/\(z'=none\/∃ c,z'=some (.int c)):=by
  intro ds
  induction ds with
  | nil=>exact fun _ xs ys z hx hy e _ hl hz=>⟨xs,ys,z,rfl,hx,hy,e,by simpa using hl,hz⟩
  | cons d r ih =>
   intro hd xs ys z hx hy el hlo hhi hz
   rw [Ò] at hhi
   obtain ⟨k,hk0,hk1,rfl⟩:=tG (hd d (.head _))
   obtain ⟨y,my,ey⟩:=JL (E:=E) (F:=F) (ys:=ys) (k:=k) hk0 ⋯
   have go:∀ (xs2 ys2:List ↥18),(∀ x∈xs2,FnOk E F x)->(∀ x∈ys2,FnOk E F x)->xs2.length=ys2.length->M.toNat<=xs2.length->xs2.length+r.length<=2*(cs.length / 2)->body [some ↥12,some ↥20,some (.int q),some ↥54,some (.int M),some (.own ↥14),some (.own ↥94),some (.int (1+q / 3%5)),some (.int k)]=.nx [some ↥12,some ↥20,some (.int q),some ↥54,some (.int M),some (.own ((xs2.map ↥72).map .int)),some (.own ((ys2.map ↥72).map .int)),some (.int (1+q / 3%5)),some (.int k)] ->
     ∃ (xs' ys':List ↥18) (z':Option D),forL 8 body (.int k::r) [some ↥12,some ↥20,some (.int q),some ↥54,some (.int M),some (.own ↥14),some (.own ↥94),some (.int (1+q / 3%5)),z]=.nx [some ↥12,some ↥20,some (.int q),some ↥54,some (.int M),some (.own ((xs'.map ↥72).map .int)),some (.own ((ys'.map ↥72).map .int)),some (.int (1+q / 3%5)),z']/\(∀ x∈xs',FnOk E F x)/\(∀ x∈ys',FnOk E F x)/\xs'.length=ys'.length/\xs'.length<=2*(cs.length / 2)/\(z'=none\/∃ c,z'=some (.int c)):=fun xs2 ys2 a1 a2 a3 a4 a5 b=>by
    obtain ⟨xs',ys',z',e',rest⟩:=ih (fun x m=>hd x (.tail _ m)) xs2 ys2 (some (.int k)) a1 a2 a3 a4 a5 (.inr ⟨k,rfl⟩)
    refine ⟨xs',ys',z',?_,rest⟩
    rw [dQ]
    show trn (body [some ↥12,some ↥20,some (.int q),some ↥54,some (.int M),some (.own ↥14),some (.own ↥94),some (.int (1+q / 3%5)),some (.int k)]) _=_
    rw [b,wD]
    exact e'
   have ps:0<1+q / 3%5:=⋯
   by_cases g:0<q%3/\(1+q / 3%5=1\/¬ k%(1+q / 3%5)=0)
   ·obtain ⟨x,mx,ex⟩:=JL (E:=E) (F:=F) (ys:=xs++[y]) (k:=k) hk0 (by rw [Æ];simp;omega)
    have fx:FnOk E F x:=by
     rcases È.mp mx with m | m
     ·exact hx x m
     ·have:x=y:=by simpa using m
      rw [this];exact hy y my
    obtain ⟨t1,t2⟩:=turned h fx
    have a1:=fun (δ:Dt)=>hW (δ:=δ) (i:=5) (ds:=(xs.map ↥72).map .int) (d:=.int (nI E F y)) rfl (by rw [Á,Á];omega)
    have a2:=fun (δ:Dt)=>hW (δ:=δ) (i:=6) (ds:=(ys.map ↥72).map .int) (d:=.int (nI E F (1 - x.1,x.2))) rfl (by rw [Á,Á];omega)
    have em1:(xs.map ↥72).map D.int++[D.int (nI E F y)]=((xs++[y]).map ↥72).map D.int:=by simp
    have em2:(ys.map ↥72).map D.int++[D.int (nI E F (1 - x.1,x.2))]=((ys++[(1 - x.1,x.2)]).map ↥72).map D.int:=by simp
    rw [em1] at a1
    rw [em2] at a2
    refine go (xs++[y]) (ys++[(1 - x.1,x.2)]) (fun z m => ?_) (fun z m => ?_) (by rw [Æ,Æ,el];rfl) (by rw [Æ];omega) (by rw [Æ];simp;omega) ?_
    ·rcases È.mp m with m | m
     ·exact hx z m
     ·have:z=y:=by simpa using m
      rw [this];exact hy y my
    ·rcases È.mp m with m | m
     ·exact hy z m
     ·have:z=(1 - x.1,x.2):=by simpa using m
      rw [this];exact t2
    ·rw [<- hbody]
     obtain ⟨g0,g⟩:=g
     generalize ((xs++[y]).map ↥72).map D.int=L1 at *
     generalize ((ys++[(1 - x.1,x.2)]).map ↥72).map D.int=L2 at *
     generalize (xs.map ↥72).map D.int=L3 at *
     generalize (ys.map ↥72).map D.int=L4 at *
     generalize hsp:1+q / 3%5=sp at *
     by_cases g1:sp=1
     ·simp_arith [g0,eq_true g1,ey,a1,ex,m2,p2,t1,a2]
     ·have g2:¬ k%sp=0:=g.resolve_left g1
      simp_arith [g0,g1,ps,g2,ey,a1,ex,m2,p2,t1,a2]
   ·refine go xs ys hx hy el hlo ⋯ ?_
    rw [<- hbody]
    generalize (xs.map ↥72).map D.int=L3 at *
    generalize (ys.map ↥72).map D.int=L4 at *
    generalize hsp:1+q / 3%5=sp at *
    by_cases g0:0<q%3
    ·have g1:¬ sp=1:=fun z=>g ⟨g0,.inl z⟩
     have g2:k%sp=0:=á fun z=>g ⟨g0,.inr z⟩
     simp_arith [g0,g1,ps,eq_true g2]
    ·simp_arith [g0]
 obtain ⟨xs',ys',z,e,hx',hy',el,hl62,hz⟩:=loop (iY 0 M) (fun d m=>m) xs ys none hx hy (by rw [hxl,hyl]) (by rw [hxl,rl'];exact ñ _) ⋯ (.inl rfl)
 have k0:0<=1+q / 30%3/\1+q / 30%3<=3:=⋯
 generalize hk:1+q / 30%3=k at *
 have fin:∀ us vs:List ↥18,us.length=vs.length->us.length<=2*(cs.length / 2)->(∀ x∈us,FnOk E F x)->(∀ x∈vs,FnOk E F x)->(∀ x∈sD k us,FnOk E F x)/\(∀ x∈sD k vs,FnOk E F x)/\(sD k us).length=(sD k vs).length/\(sD k us).length<=200/\(sD k us).length<=3*cs.length:=fun us vs e l a b =>
  have kk:k.toNat*us.length<=3*(2*(cs.length / 2)):=Nat.mul_le_mul ⋯ l
  ⟨fun x m=>a x (uv m),fun x m=>b x (uv m),by rw [ko,ko,e],by rw [ko];omega,by rw [ko];omega⟩
 have lr:(iY 0 M).length<=100000:=⋯
 by_cases g:q / 15%2=1
 ·refine ⟨sD k xs'.reverse,sD k ys'.reverse,?_,fin _ _ (by rw [Ġ,Ġ,el]) (by rw [Ġ];exact hl62) (fun x m=>hx' x (Æa.mp m)) (fun x m=>hy' x (Æa.mp m))⟩
  unfold sD
  rw [<- eS,<-eS,<-eS,<-eS]
  have r1:=tN (E:=E) (F:=F) (k:=k) (ys:=xs'.reverse) (by rw [Ġ];omega) k0
  have r2:=tN (E:=E) (F:=F) (k:=k) (ys:=ys'.reverse) (by rw [Ġ];omega) k0
  have v1:=Cw (E:=E) (F:=F) (ys:=xs') ⋯
  have v2:=Cw (E:=E) (F:=F) (ys:=ys') ⋯
  obtain ⟨z',hv⟩:∃ z',∀ δ,view (z::δ)=z'::view δ:=⟨_,fun _=>rfl⟩
  simp_arith [hv,s1,bl,hM,aR,lr,ec,ed,flr,e,eq_true g,v1,v2,hk,r1,r2]
 ·refine ⟨sD k xs',sD k ys',?_,fin _ _ el hl62 hx' hy'⟩
  unfold sD
  rw [<- eS,<-eS,<-eS,<-eS]
  have r1:=tN (E:=E) (F:=F) (k:=k) (ys:=xs') ⋯ k0
  have r2:=tN (E:=E) (F:=F) (k:=k) (ys:=ys') ⋯ k0
  obtain ⟨z',hv⟩:∃ z',∀ δ,view (z::δ)=z'::view δ:=⟨_,fun _=>rfl⟩
  simp_arith [hv,s1,bl,hM,aR,lr,ec,ed,flr,e,g,hk,r1,r2]
theorem vV {α β:Type}:∀ {xs:List α} {ys:List β},xs.length=ys.length->(xs.zip ys).map (·.1)=xs/\(xs.zip ys).map (·.2)=ys
 | [],[],_=>⟨rfl,rfl⟩
 | x::xs,y::ys,h=>by
  obtain ⟨a,b⟩:=vV (xs:=xs) (ys:=ys) (by simpa using h)
  rw [List.zip_cons_cons,Ê,Ê,a,b]
  exact ⟨rfl,rfl⟩
abbrev Pr:=↥18×↥18
def Lk (p q:Pr):Prop:=((q.1.2=p.1.2/\q.2.2=p.2.2)\/(q.1.2=p.2.2/\q.2.2=p.1.2))/\sx q.1.1 q.2.1=sx p.1.1 p.2.1
theorem JD {E F:Int} {p q:Pr} (h:Lk p q):pm E F q.1 q.2=pm E F p.1 p.2:=by
 obtain ⟨h1,h2⟩:=h
 unfold pm
 rw [h2]
 rcases h1 with ⟨a,b⟩ | ⟨a,b⟩
 ·rw [a,b]
 ·rw [a,b,ö,Ëg]
theorem Mt {E F:Int} {p q:Pr} (h:Lk p q):ptp E F q=ptp E F p:=by
 have hp:=JD (E:=E) (F:=F) h
 obtain ⟨h1,h2⟩:=h
 unfold ptp pt
 rw [hp,h2]
 rcases h1 with ⟨a,b⟩ | ⟨a,b⟩
 ·rw [a,b]
 ·rw [a,b]
  by_cases g:p.1.2=pw ↥9 - pw F
  ·simp [g]
  ·simp [g]
theorem Fv {p q:Pr} (h:Lk p q) (P:Int->Prop):(P q.1.2\/P q.2.2)↔(P p.1.2\/P p.2.2):=by
 rcases h.1 with ⟨a,b⟩ | ⟨a,b⟩
 ·rw [a,b]
 ·rw [a,b];exact Or.comm
def As (ps qs:List Pr):Prop:=∃ zs:List (Pr×Pr),qs=zs.map (·.2)/\(zs.map (·.1)).Perm ps/\∀ z∈zs,Lk z.1 z.2
theorem As.map {ps qs:List Pr} (h:As ps qs) {β:Type} (φ:Pr->β) (hφ:∀ p q,Lk p q->φ q=φ p):(qs.map φ).Perm (ps.map φ):=by
 obtain ⟨zs,rfl,hp,hz⟩:=h
 have e:(zs.map (·.2)).map φ=(zs.map (·.1)).map φ:=by
  rw [ô,ô]
  exact Áf fun z m=>hφ _ _ (hz z m)
 rw [e]
 exact hp.map φ
theorem As.len {ps qs:List Pr} (h:As ps qs):qs.length=ps.length:=by
 have:=(h.map (fun _=>()) fun _ _ _=>rfl).length_eq
 simpa using this
theorem As.ex {ps qs:List Pr} (h:As ps qs) (P:Pr->Prop) (hP:∀ p q,Lk p q->(P q↔P p)):(∃ q∈qs,P q)↔∃ p∈ps,P p:=by
 have:=h.map P fun p q l=>propext (hP p q l)
 constructor
 ·rintro ⟨q,m,hq⟩
  obtain ⟨p,m',e⟩:=å.mp (this.mem_iff.mp (å.mpr ⟨q,m,rfl⟩))
  exact ⟨p,m',e▸hq⟩
 ·rintro ⟨p,m,hp⟩
  obtain ⟨q,m',e⟩:=å.mp (this.mem_iff.mpr (å.mpr ⟨p,m,rfl⟩))
  exact ⟨q,m',e▸hp⟩
theorem wK {q:Int} {a b:List Tm} (h:a.Perm b):cX q a=cX q b:=by
 induction h with
 | nil=>rfl
 | cons x _ ih=>show tv q x+_=tv q x+_;rw [ih]
 | swap x y l=>show tv q y+(tv q x+_)=tv q x+(tv q y+_);omega
 | trans _ _ h1 h2=>rw [h1,h2]
theorem Bm {w:Wy} {a b:List Int} (h:∀ x,x∈a↔x∈b):nsg w a=nsg w b:=by
 unfold nsg
 simp only [h]
def Good2 (E F:Int) (d:D):Prop:=∃ x y:Int,d=.tup [.int x,.int y]/\(0<=x/\x<2*pw ↥9)/\0<=y/\y<32
theorem Cu {E F:Int} {ps qs:List Pr} {xs ys:List ↥18} (w:Wy) (h:Sz E F) (hl:xs.length<=400) (hl2:ps.length<=300) (hx:∀ x∈xs++fl ps,dB E F x) (hy:∀ x∈ys++fl qs,dB E F x) (ha:As ps qs) (hp:ys.Perm xs) :
  ∃ d,Good2 E F d/\ai [.tup [.int E,.int F],.str w.s,.lst ↥81,.lst ↥14]=.ok d/\ai [.tup [.int E,.int F],.str w.s,.lst (qs.map (pD E F)),.lst ↥94]=.ok d:=by
 have hQ:=kN h.2.2.1
 have hH:=eI h
 have hF1:=gX h.2.2.1
 have kl:ys.length<=400:=by rw [hp.length_eq];exact hl
 have kl2:qs.length<=300:=by rw [ha.len];exact hl2
 have some2:∀ P:Int->Prop,(∃ x∈ys++fl qs,P x.2)↔∃ x∈xs++fl ps,P x.2:=fun P=>by
  have e1:=ha.ex (fun p=>P p.1.2\/P p.2.2) fun p q l=>Fv l P
  have key:∀ (xs:List ↥18) (ps:List Pr),(∃ x∈xs++fl ps,P x.2)↔(∃ x∈xs,P x.2)\/∃ p∈ps,P p.1.2\/P p.2.2:=fun xs ps=>by
   constructor
   ·rintro ⟨x,m,hx⟩
    rcases È.mp m with m | m
    ·exact .inl ⟨x,m,hx⟩
    ·obtain ⟨p,m',e | e⟩:=eZ.mp m
     ·exact .inr ⟨p,m',.inl (e▸hx)⟩
     ·exact .inr ⟨p,m',.inr (e▸hx)⟩
   ·rintro (⟨x,m,hx⟩ | ⟨p,m,hx | hx⟩)
    ·exact ⟨x,ð _ m,hx⟩
    ·exact ⟨p.1,Ç _ (eZ.mpr ⟨p,m,.inl rfl⟩),hx⟩
    ·exact ⟨p.2,Ç _ (eZ.mpr ⟨p,m,.inr rfl⟩),hx⟩
  rw [key,key,e1]
  constructor
  ·rintro (⟨x,m,hx⟩ | z)
   ·exact .inl ⟨x,hp.mem_iff.mp m,hx⟩
   ·exact .inr z
  ·rintro (⟨x,m,hx⟩ | z)
   ·exact .inl ⟨x,hp.mem_iff.mpr m,hx⟩
   ·exact .inr z
 by_cases gn:∃ x∈xs++fl ps,pw ↥9 - pw F<x.2
 ·exact ⟨_,⟨_,_,rfl,⟨⋯,⋯⟩,⋯⟩,ue w h hl hl2 hx gn,ue w h kl kl2 hy ((some2 _).mpr gn)⟩
 have hn:∀ x∈xs++fl ps,x.2<=pw ↥9 - pw F:=fun x m=>á fun z=>gn ⟨x,m,⋯⟩
 have kn:∀ x∈ys++fl qs,x.2<=pw ↥9 - pw F:=fun x m=>á fun z=>gn ((some2 _).mp ⟨x,m,⋯⟩)
 have wr:=ha.ex (wrP E F) fun p q l=>and_congr (Fv l fun z=>z=0) (Fv l fun z=>z=pw ↥9 - pw F)
 by_cases gw:∃ p∈ps,wrP E F p
 ·exact ⟨_,⟨_,_,rfl,⟨⋯,⋯⟩,⋯⟩,yC w h hl hl2 hx hn gw,yC w h kl kl2 hy kn (wr.mpr gw)⟩
 have hw:∀ p∈ps,¬ wrP E F p:=fun p m z=>gw ⟨p,m,z⟩
 have kw:∀ p∈qs,¬ wrP E F p:=fun p m z=>gw (wr.mp ⟨p,m,z⟩)
 have hpt:(qs.map (ptp E F)++ys.map (xt E F)).Perm ↥28:=(ha.map _ fun p q l=>Mt l).append (hp.map _)
 have es:=hpt.filterMap (fun x=>match x with | .inl _=>none | .inr s=>some s)
 have es':(qk (qs.map (ptp E F)++ys.map (xt E F))).Perm (qk ↥28):=es
 have e01:∀ (ps:List Pr) (xs:List ↥18),(∀ x∈xs++fl ps,dB E F x)->∀ s∈qk ↥28,0<=s/\s<=1:=fun ps xs hx s m=>by
  obtain ⟨t,mt,e⟩:=Ĺ.mp m
  rcases È.mp mt with z | z
  ·obtain ⟨p,mp,rfl⟩:=å.mp z
   unfold ptp pt at e
   split at e
   ·cases e
   ·rename_i g
    split at g
    ·cases g;cases e;exact LH
    ·cases g
  ·obtain ⟨x,mx,rfl⟩:=å.mp z
   unfold xt at e
   split at e
   ·cases e
   ·rename_i g
    split at g
    ·cases g;cases e;exact (hx x (ð _ mx)).1
    ·cases g
 by_cases ge:∃ b,b∈qk ↥28
 ·obtain ⟨b,hb⟩:=ge
  have b01:=e01 ps xs hx b hb
  have r1:=wI w h hl hl2 hx hn hw (e01 ps xs hx) hb
  have r2:=wI w h kl kl2 hy kn kw (e01 qs ys hy) (es'.mem_iff.mpr hb)
  simp only [es'.mem_iff] at r2
  refine ⟨_,?_,r1,r2⟩
  split
  ·exact ⟨_,_,rfl,⟨⋯,⋯⟩,⋯⟩
  ·refine ⟨_,_,rfl,?_,⋯⟩
   rcases (show b=0\/b=1 by omega) with e | e<;>subst e<;>omega
 ·have hf:∀ x∈xs++fl ps,x.2<pw ↥9 - pw F:=fun x m=>by
   have:=hn x m
   refine á fun z=>ge ?_
   have e:x.2=pw ↥9 - pw F:=⋯
   rcases È.mp m with m | m
   ·refine ⟨x.1,Ĺ.mpr ⟨_,Ç _ (å.mpr ⟨x,m,rfl⟩),?_⟩⟩
    unfold xt
    rw [if_pos e]
   ·obtain ⟨p,mp,e'⟩:=eZ.mp m
    refine ⟨sx p.1.1 p.2.1,Ĺ.mpr ⟨_,ð _ (å.mpr ⟨p,mp,rfl⟩),?_⟩⟩
    unfold ptp pt
    rw [if_pos (by rcases e' with e' | e'<;>subst e';exact .inl e;exact .inr e)]
  have kf:∀ x∈ys++fl qs,x.2<pw ↥9 - pw F:=fun x m=>á fun z=>by
   obtain ⟨y,my,ey⟩:=(some2 fun c=>¬ c<pw ↥9 - pw F).mp ⟨x,m,z⟩
   exact ey (hf y my)
  have ft:(fts E F qs ys).Perm (fts E F ps xs):=(ha.map _ fun p q l=>JD l).append (hp.map _)
  have pL:=ao ↥87
  obtain ⟨x,y,r1,o1⟩:=wJ (V:=1) (U:=pw ↥87) (X:=cX (2*lo E F) (fts E F ps xs)) h hl hl2 hx hf ↥1 (by rw [Ģ]) (by rw [Ĥ,Cy h]) w
  obtain ⟨x',y',r2,o2⟩:=wJ (V:=1) (U:=pw ↥87) (X:=cX (2*lo E F) (fts E F ps xs)) h kl kl2 hy kf ↥1 (by rw [Ģ,wK ft]) (by rw [Ĥ,Cy h]) w
  rw [Bm (w:=w) (a:=(fts E F qs ys).map (·.1)) (b:=(fts E F ps xs).map (·.1)) fun z=>(ft.map _).mem_iff] at o2
  obtain ⟨rfl,rfl⟩:=BK pL o1 o2
  refine ⟨_,⟨x,y,rfl,?_⟩,r1,r2⟩
  by_cases g:cX (2*lo E F) (fts E F ps xs)=0
  ·obtain ⟨a,b⟩:=o1.1 g
   have:=CL w ((fts E F ps xs).map (·.1))
   generalize nsg w ((fts E F ps xs).map (·.1))=sg at *
   subst a b
   rcases (show sg=0\/sg=1 by omega) with e | e<;>subst e<;>omega
  ·obtain ⟨k,r,a,b,c⟩:=o1.2 g
   have i1:=HU (w:=w) (s:=if cX (2*lo E F) (fts E F ps xs)<0 then 1 else 0) (r:=r) h c.1
   have i2:=Aw (w:=w) (E:=E) (F:=F) (s:=if cX (2*lo E F) (fts E F ps xs)<0 then 1 else 0) (c:=k) (r:=r)
   rw [<- b] at i2
   refine ⟨?_,⋯⟩
   rw [a]
   clear a b c i2
   split at i1<;>split<;>first | omega | contradiction
theorem yB {E F:Int} {d:D} (h:Sz E F) (hd:Good2 E F d):cP [.tup [.int E,.int F],d]=.ok ↥29:=by
 obtain ⟨x,y,rfl,⟨x0,x1⟩,y0,y1⟩:=hd
 obtain ⟨k1,k2,k3,k4⟩:=id h
 have s2:=bh (i:=2) (j:=E+F) ⋯ (by have:nb 2=2:=rfl;omega)
 unfold cP gy
 simp_arith [wm,s2,x0,x1,y0,y1]
theorem HF {E F:Int} {x:Int×Int} (hx:dB E F x):(nI E F x+pw ↥9)%(2*pw ↥9)=nI E F (1 - x.1,x.2)/\dB E F (1 - x.1,x.2):=by
 obtain ⟨⟨s0,s1⟩,u0,u1⟩:=hx
 refine ⟨?_,⟨⋯,⋯⟩,u0,u1⟩
 unfold nI
 simp only
 rcases (show x.1=0\/x.1=1 by omega) with e | e
 ·rw [e,Ğ ⋯ ⋯];omega
 ·rw [e,show 1*pw ↥9+x.2+pw ↥9=x.2+2*pw ↥9 by omega,Int.add_emod_right,Ğ u0 ⋯];omega
theorem xn {E F t:Int} {p:Pr} (h:Sz E F) (h1:dB E F p.1) (h2:dB E F p.2) (t0:0<=t) (t1:t<4):∃ q:Pr,bJ [.tup [.int E,.int F],.int (nI E F p.1),.int (nI E F p.2),.int t]=.ok (.tup [.int (nI E F q.1),.int (nI E F q.2)])/\Lk p q/\dB E F q.1/\dB E F q.2:=by
 obtain ⟨k1,k2,k3,k4⟩:=id h
 have hH:=ao ↥9
 have s1:=kH (k:=E+F) ⋯ ⋯
 have n1:nb (pw ↥9)<=128:=gZ (c:=127) ⋯
 have m2:=aK (MulOk.of (i:=2) (j:=pw ↥9) (a:=2) ↥1 n1 ↥1)
 have p2:0<2*pw ↥9:=⋯
 obtain ⟨e1,c1⟩:=HF h1
 obtain ⟨e2,c2⟩:=HF h2
 have sxx:sx (1 - p.1.1) (1 - p.2.1)=sx p.1.1 p.2.1:=by
  unfold sx
  by_cases g:p.1.1=p.2.1
  ·rw [if_pos g,if_pos ⋯]
  ·rw [if_neg g,if_neg ⋯]
 unfold bJ dt
 rcases (show t=0\/t=1\/t=2\/t=3 by omega) with e | e | e | e<;>subst e
 ·refine ⟨p,?_,⟨.inl ⟨rfl,rfl⟩,rfl⟩,h1,h2⟩
  simp_arith [s1]
 ·refine ⟨(p.2,p.1),?_,⟨.inr ⟨rfl,rfl⟩,wG⟩,h2,h1⟩
  simp_arith [s1]
 ·refine ⟨((1 - p.1.1,p.1.2),(1 - p.2.1,p.2.2)),?_,⟨.inl ⟨rfl,rfl⟩,sxx⟩,c1,c2⟩
  simp_arith [s1,m2,p2,e1,e2]
 ·refine ⟨((1 - p.2.1,p.2.2),(1 - p.1.1,p.1.2)),?_,⟨.inr ⟨rfl,rfl⟩,wG.trans sxx⟩,c2,c1⟩
  simp_arith [s1,m2,p2,e1,e2]
theorem yH {i:Nat} {body:S} (I:Nat->Dt->Prop):∀ (ds:List D) (n:Nat) (δ:Dt),(∀ d∈ds,∀ m δ,m<n+ds.length->I m δ->∃ δ',body ↥108=.nx δ'/\I (m+1) δ')->I n δ->∃ δ',forL i body ds δ=.nx δ'/\I (n+ds.length) δ'
 | [],n,δ,_,h=>⟨δ,rfl,h⟩
 | d::ds,n,δ,hs,h=>by
  obtain ⟨δ1,e,h1⟩:=hs d (.head _) n δ (by simp only [Ò];omega) h
  obtain ⟨δ2,e2,h2⟩:=yH I ds (n+1) δ1 (fun d' hd m δ' hm=>hs d' (.tail _ hd) m δ' (by simp only [Ò];omega)) h1
  refine ⟨δ2,?_,by rw [Ò,show n+(ds.length+1)=n+1+ds.length by omega];exact h2⟩
  rw [dQ,e]
  exact e2
theorem ixc {cs:List Int} {j:Int} (j0:0<=j) (j1:j<cs.length):∃ c∈cs,oIx ↥20 (.int j)=.ok (.int c):=by
 have hj:j.toNat<cs.length:=⋯
 refine ⟨cs[j.toNat],ħ hj,?_⟩
 have:=dO (ds:=cs.map .int) (k:=j.toNat) (d:=.int cs[j.toNat]) (by rw [Ë,Â hj];rfl)
 rw [show ((j.toNat:Nat):Int)=j by omega] at this
 exact this
def fsD (E F:Int) (ps:List Pr):List D:=(ps.map fun p=>nI E F p.1).map D.int
def snD (E F:Int) (ps:List Pr):List D:=(ps.map fun p=>nI E F p.2).map D.int
theorem BW {E F q:Int} {cs:List Int} (h:Sz E F) (hl:cs.length<=63) (hc:∀ c∈cs,nb c<=2^20):∃ ps:List Pr,cT [.tup [.int E,.int F],.lst (cs.map .int),.int q]=.ok (.tup [.lst (fsD E F ps),.lst (snD E F ps)])/\(∀ p∈ps,dB E F p.1/\dB E F p.2)/\ps.length<=200/\ps.length<=3*cs.length:=by
 obtain ⟨k1,k2,k3,k4⟩:=id h
 have hH:=ao ↥9
 have hw:=qV h
 have s1:=kH (k:=E+F) ⋯ ⋯
 have n1:nb (pw ↥9)<=128:=gZ (c:=127) ⋯
 unfold cT eR
 by_cases g2:q%4=2
 ·obtain ⟨xs,ys,er,hx,hy,el,hxl,hx3⟩:=AK (q:=q / 4) h hl hc
  obtain ⟨zf,zs⟩:=vV el
  refine ⟨xs.zip ys,?_,fun p m=>⟨J9 (hx _ (by rw [<- zf];exact å.mpr ⟨p,m,rfl⟩)),J9 (hy _ (by rw [<- zs];exact å.mpr ⟨p,m,rfl⟩))⟩,by rw [Èb];omega,by rw [Èb];omega⟩
  have e1:fsD E F (xs.zip ys)=(xs.map ↥72).map .int:=by
   have:(xs.zip ys).map (fun p=>nI E F p.1)=((xs.zip ys).map (·.1)).map ↥72:=by rw [ô];rfl
   unfold fsD
   rw [this,zf]
  have e2:snD E F (xs.zip ys)=(ys.map ↥72).map .int:=by
   have:(xs.zip ys).map (fun p=>nI E F p.2)=((xs.zip ys).map (·.2)).map ↥72:=by rw [ô];rfl
   unfold snD
   rw [this,zs]
  rw [e1,e2]
  simp_arith [s1,g2,er]
 obtain ⟨M,hM⟩:∃ M:Int,(cs.length:Int) / 2=M:=⟨_,rfl⟩
 have aR:=kz (n:=M) ⋯ ⋯
 have bl:gG [.lst (cs.map .int)]=.ok (.int cs.length):=by unfold gG;simp
 have rl:(iY 0 M).length=M.toNat:=by unfold iY;simp
 have dv:∀ i,oDiv ↥123 ↥54=.ok (.int (i / pw ↥9)):=fun i=>gY (iX.small hH ⋯)
 have key:∀ b,In E F b->∃ z:Int×Int,dB E F z/\aO [.tup [.int E,.int F],.int b,.int (q%4%3)]=.ok (.int (nI E F z)):=fun b hb=>by
  obtain ⟨x,ex,hx⟩:=BU (p:=q%4%3) h hb
  obtain ⟨s,u,hs,u0,u1,rfl⟩:=nK h hx
  exact ⟨(s,u),⟨hs,u0,u1⟩,ex⟩
 have low:∀ b,In E F b->In E F (b / pw ↥9*pw ↥9)/\MulOk (b / pw ↥9) (pw ↥9):=fun b hb=>by
  obtain ⟨s,u,hs,u0,u1,rfl⟩:=nK h hb
  have q2:=(pJ (E:=E) (F:=F) hs u0 u1).2
  rw [q2]
  refine ⟨?_,dM hs.1 hs.2 (Ð n1 ↥1)⟩
  unfold In
  rcases (show s=0\/s=1 by omega) with e | e<;>subst e<;>omega
 generalize hbody:seq (assign 7 (call aS _)) _=body
 obtain ⟨δ',e,ps,z6,z7,z8,rfl,hps,hpl⟩:=yH (i:=6) (body:=body) (fun m δ=>∃ (ps:List Pr) (z6 z7 z8:Option D),δ=[some ↥12,some ↥20,some (.int q),some ↥54,some (.own (fsD E F ps)),some (.own (snD E F ps)),z6,z7,z8]/\(∀ p∈ps,dB E F p.1/\dB E F p.2)/\ps.length=m) (iY 0 M) 0 [some ↥12,some ↥20,some (.int q),some ↥54,some (.own []),some (.own []),none,none,none] (fun d hd m δ hm ⟨ps,z6,z7,z8,eδ,hps,hpl⟩=>by
  subst eδ
  obtain ⟨k,hk0,hk1,rfl⟩:=tG hd
  rw [rl] at hm
  obtain ⟨c1,m1,e1⟩:=ixc (cs:=cs) (j:=2*k) ⋯ ⋯
  obtain ⟨c2,m2,e2⟩:=ixc (cs:=cs) (j:=2*k+1) ⋯ ⋯
  have b1:=m9 h (hc c1 m1)
  have b2:=m9 h (hc c2 m2)
  have i1:In E F (iE E F c1):=zc c1 h
  have i2:In E F (iE E F c2):=zc c2 h
  have mk:eY (.int 2) (.int k)=.ok (.int (2*k)):=aK (MulOk.of (a:=2) (b:=20) ↥1 (iu hk0 ⋯) ↥1)
  generalize iE E F c1=x1 at *
  generalize iE E F c2=x2 at *
  have fin:∀ y1 y2,In E F y1->In E F y2->∃ z w:Int×Int,dB E F z/\dB E F w/\seq (dj 4 (call aO [var 0,var 7,bin oMod ↥145 ⇑3])) (dj 5 (call aO [var 0,var 8,bin oMod ↥145 ⇑3])) [some ↥12,some ↥20,some (.int q),some ↥54,some (.own (fsD E F ps)),some (.own (snD E F ps)),some (.int k),some (.int y1),some (.int y2)]=.nx [some ↥12,some ↥20,some (.int q),some ↥54,some (.own (fsD E F (ps++[(z,w)]))),some (.own (snD E F (ps++[(z,w)]))),some (.int k),some (.int y1),some (.int y2)]:=fun y1 y2 j1 j2=>by
   obtain ⟨z,hz,ez⟩:=key y1 j1
   obtain ⟨w,hw,ew⟩:=key y2 j2
   refine ⟨z,w,hz,hw,?_⟩
   have l1:(fsD E F ps).length<100000:=by unfold fsD;rw [Á,Á];omega
   have l2:(snD E F ps).length<100000:=by unfold snD;rw [Á,Á];omega
   have a1:=fun (δ:Dt)=>hW (δ:=δ) (i:=4) (ds:=fsD E F ps) (d:=.int (nI E F z)) rfl l1
   have a2:=fun (δ:Dt)=>hW (δ:=δ) (i:=5) (ds:=snD E F ps) (d:=.int (nI E F w)) rfl l2
   rw [show fsD E F ps++[D.int (nI E F z)]=fsD E F (ps++[(z,w)]) by simp [fsD]] at a1
   rw [show snD E F ps++[D.int (nI E F w)]=snD E F (ps++[(z,w)]) by simp [snD]] at a2
   generalize fsD E F (ps++[(z,w)])=L1 at *
   generalize snD E F (ps++[(z,w)])=L2 at *
   simp_arith [ez,ew,a1,a2]
  subst hbody
  generalize hK:seq (dj 4 _) _=K at *
  have done:∀ z w:Int×Int,dB E F z->dB E F w->∀ y1 y2:Int,∃ (ps':List Pr) (z6 z7 z8:Option D),[some (D.tup [.int E,.int F]),some ↥20,some (.int q),some ↥54,some (.own (fsD E F (ps++[(z,w)]))),some (.own (snD E F (ps++[(z,w)]))),some (.int k),some (.int y1),some (.int y2)]=[some (D.tup [.int E,.int F]),some ↥20,some (.int q),some ↥54,some (.own (fsD E F ps')),some (.own (snD E F ps')),z6,z7,z8]/\(∀ p∈ps',dB E F p.1/\dB E F p.2)/\ps'.length=m+1:=fun z w hz hw y1 y2=>⟨ps++[(z,w)],_,_,_,rfl,fun p mp=>by
   rcases È.mp mp with mp | mp
   ·exact hps p mp
   ·rw [ï.mp mp];exact ⟨hz,hw⟩,by rw [Æ,hpl];rfl⟩
  by_cases g3:q%4=3
  ·obtain ⟨j1,o1⟩:=low x1 i1
   obtain ⟨j2,o2⟩:=low x2 i2
   obtain ⟨z,w,hz,hw,ef⟩:=fin _ _ j1 j2
   refine ⟨_,?_,done z w hz hw (x1 / pw ↥9*pw ↥9) (x2 / pw ↥9*pw ↥9)⟩
   have t1:=aK o1
   have t2:=aK o2
   generalize x1 / pw ↥9*pw ↥9=y1 at *
   generalize x2 / pw ↥9*pw ↥9=y2 at *
   simp_arith [mk,e1,e2,b1,b2,g3,dv,t1,t2,ef]
  ·obtain ⟨z,w,hz,hw,ef⟩:=fin _ _ i1 i2
   refine ⟨_,?_,done z w hz hw x1 x2⟩
   simp_arith [mk,e1,e2,b1,b2,g3,ef]) ⟨[],none,none,none,rfl,fun p m=>absurd m ž,rfl⟩
 rw [rl] at hpl
 refine ⟨ps,?_,hps,⋯,⋯⟩
 simp_arith [s1,g2,bl,hM,aR,e]
theorem mV {α:Type} {d:α} {ps:List α}:((č ps.length).map fun (k:Nat)=>(0:Int)+k).map (fun k=>ps.getD k.toNat d)=ps:=by
 rw [ô]
 refine List.ext_getElem ↥80 fun j h1 h2 => ?_
 simp only [List.getElem_map,List.getElem_range,Function.comp_apply]
 rw [show ((0:Int)+(j:Nat)).toNat=j by omega,Î,Â h2]
 rfl
theorem ixp {E F k:Int} {ps:List Pr} (k0:0<=k) (k1:k<ps.length):oIx ↥126 (.int k)=.ok (.int (nI E F (ps.getD k.toNat ((0,0),(0,0))).1))/\oIx (.lst (snD E F ps)) (.int k)=.ok (.int (nI E F (ps.getD k.toNat ((0,0),(0,0))).2))/\ps.getD k.toNat ((0,0),(0,0))∈ps:=by
 have hj:k.toNat<ps.length:=⋯
 have e:ps.getD k.toNat ((0,0),(0,0))=ps[k.toNat]:=by rw [Î,Â hj];rfl
 rw [e]
 have a:=dO (ds:=fsD E F ps) (k:=k.toNat) (d:=.int (nI E F ps[k.toNat].1)) (by unfold fsD;rw [Ë,Ë,Â hj];rfl)
 have b:=dO (ds:=snD E F ps) (k:=k.toNat) (d:=.int (nI E F ps[k.toNat].2)) (by unfold snD;rw [Ë,Ë,Â hj];rfl)
 rw [show ((k.toNat:Nat):Int)=k by omega] at a b
 exact ⟨a,b,ħ hj⟩
theorem Ew {E F:Int} {cs os:List Int} {ps:List Pr} {scr:List D} (w:Wy) (h:Sz E F) (hps:∀ p∈ps,dB E F p.1/\dB E F p.2) (hpl:ps.length<=200) (hp3:ps.length<=3*cs.length) (hcl:cs.length<=63)
  (hp:os.Perm ((č ps.length).map fun (k:Nat)=>(0:Int)+k)) {body:S}
  (hbody:body=(seq (jk 12 13 (call bJ [var 1,bin oIx (var 10) (var 7),bin oIx (var 11) (var 7),bin oMod (bin oDiv (bin oIx ↥140 (bin oMod (var 7) (call gG [var 3]))) ⇑7) ⇑4]))
 (seq (dj 5 (var 12))
 (dj 6 (var 13))))) :
  ∃ (qs:List Pr) (z7 z12 z13:Option D),forL 7 body (os.map .int) [some (.lst scr),some ↥12,some (.str w.s),some ↥20,some (.lst (os.map .int)),some (.own []),some (.own []),none,none,none,some ↥126,some (.lst (snD E F ps)),none,none]=.nx [some (.lst scr),some ↥12,some (.str w.s),some ↥20,some (.lst (os.map .int)),some (.own (fsD E F qs)),some (.own (snD E F qs)),z7,none,none,some ↥126,some (.lst (snD E F ps)),z12,z13]/\As ps qs/\(∀ p∈qs,dB E F p.1/\dB E F p.2)/\((z7=none/\z12=none/\z13=none)\/∃ a b c:Int,z7=some (.int a)/\z12=some (.int b)/\z13=some (.int c)):=by
 have bl:gG [.lst (cs.map .int)]=.ok (.int cs.length):=by unfold gG;simp
 have hin:∀ k∈os,0<=k/\k<ps.length:=fun k m=>by
  obtain ⟨j,mj,rfl⟩:=å.mp (hp.mem_iff.mp m)
  have:=ŝ.mp mj
  omega
 have loop:∀ (ks:List Int),(∀ k∈ks,0<=k/\k<ps.length)->∀ (zs:List (Pr×Pr)) (z7 z12 z13:Option D),zs.length+ks.length<=200->(∀ z∈zs,Lk z.1 z.2/\dB E F z.2.1/\dB E F z.2.2)->((z7=none/\z12=none/\z13=none)\/∃ a b c:Int,z7=some (.int a)/\z12=some (.int b)/\z13=some (.int c)) ->
   ∃ (zs':List (Pr×Pr)) (z7' z12' z13':Option D),forL 7 body (ks.map .int) [some (.lst scr),some ↥12,some (.str w.s),some ↥20,some (.lst (os.map .int)),some (.own (fsD E F (zs.map (·.2)))),some (.own (snD E F (zs.map (·.2)))),z7,none,none,some ↥126,some (.lst (snD E F ps)),z12,z13]=.nx [some (.lst scr),some ↥12,some (.str w.s),some ↥20,some (.lst (os.map .int)),some (.own (fsD E F (zs'.map (·.2)))),some (.own (snD E F (zs'.map (·.2)))),z7',none,none,some ↥126,some (.lst (snD E F ps)),z12',z13']/\zs'.map (·.1)=zs.map (·.1)++ks.map (fun k=>ps.getD k.toNat ((0,0),(0,0)))/\(∀ z∈zs',Lk z.1 z.2/\dB E F z.2.1/\dB E F z.2.2)/\((z7'=none/\z12'=none/\z13'=none)\/∃ a b c:Int,z7'=some (.int a)/\z12'=some (.int b)/\z13'=some (.int c)):=by
  intro ks
  induction ks with
  | nil=>exact fun _ zs z7 z12 z13 _ hz hc=>⟨zs,z7,z12,z13,rfl,by simp,hz,hc⟩
  | cons k r ih =>
   intro hk zs z7 z12 z13 hl hz hc
   rw [Ò] at hl
   obtain ⟨k0,k1⟩:=hk k (.head _)
   have L0:0<(cs.length:Int):=⋯
   have m0:=ä k (show (cs.length:Int)≠0 by omega)
   have m1:=ã k L0
   obtain ⟨c,mc,ec⟩:=ixc (cs:=cs) (j:=k%(cs.length:Int)) m0 m1
   obtain ⟨e1,e2,mp⟩:=ixp (E:=E) (F:=F) (ps:=ps) k0 k1
   generalize hpk:ps.getD k.toNat ((0,0),(0,0))=p at *
   obtain ⟨q,eq,lk,q1,q2⟩:=xn (t:=c / 7%4) h (hps p mp).1 (hps p mp).2 ⋯ ⋯
   obtain ⟨zs',z7',z12',z13',e',f1,f2,f3⟩:=ih (fun x m=>hk x (.tail _ m)) (zs++[(p,q)]) (some (.int k)) (some (.int (nI E F q.1))) (some (.int (nI E F q.2))) (by rw [Æ];simp;omega) (fun z m=>by
    rcases È.mp m with m | m
    ·exact hz z m
    ·rw [ï.mp m];exact ⟨lk,q1,q2⟩) (.inr ⟨_,_,_,rfl,rfl,rfl⟩)
   refine ⟨zs',z7',z12',z13',?_,?_,f2,f3⟩
   ·rw [Ê,dQ]
    have hlen:(zs.map (·.2)).length<100000:=by rw [Á];omega
    have l1:(fsD E F (zs.map (·.2))).length<100000:=by unfold fsD;rw [Á,Á];exact hlen
    have l2:(snD E F (zs.map (·.2))).length<100000:=by unfold snD;rw [Á,Á];exact hlen
    have a1:=fun (δ:Dt)=>hW (δ:=δ) (i:=5) (ds:=fsD E F (zs.map (·.2))) (d:=.int (nI E F q.1)) rfl l1
    have a2:=fun (δ:Dt)=>hW (δ:=δ) (i:=6) (ds:=snD E F (zs.map (·.2))) (d:=.int (nI E F q.2)) rfl l2
    rw [show fsD E F (zs.map (·.2))++[D.int (nI E F q.1)]=fsD E F ((zs++[(p,q)]).map (·.2)) by simp [fsD]] at a1
    rw [show snD E F (zs.map (·.2))++[D.int (nI E F q.2)]=snD E F ((zs++[(p,q)]).map (·.2)) by simp [snD]] at a2
    have bd:body ([some (.lst scr),some ↥12,some (.str w.s),some ↥20,some (.lst (os.map .int)),some (.own (fsD E F (zs.map (·.2)))),some (.own (snD E F (zs.map (·.2)))),z7,none,none,some ↥126,some (.lst (snD E F ps)),z12,z13].set 7 (some (.int k)))=.nx [some (.lst scr),some ↥12,some (.str w.s),some ↥20,some (.lst (os.map .int)),some (.own (fsD E F ((zs++[(p,q)]).map (·.2)))),some (.own (snD E F ((zs++[(p,q)]).map (·.2)))),some (.int k),none,none,some ↥126,some (.lst (snD E F ps)),some (.int (nI E F q.1)),some (.int (nI E F q.2))]:=by
     rw [hbody]
     clear e' ih f1 f2 f3
     generalize fsD E F ((zs++[(p,q)]).map (·.2))=L1 at *
     generalize snD E F ((zs++[(p,q)]).map (·.2))=L2 at *
     generalize fsD E F (zs.map (·.2))=L3 at *
     generalize snD E F (zs.map (·.2))=L4 at *
     obtain ⟨N,hN⟩:∃ N:Int,(cs.length:Int)=N:=⟨_,rfl⟩
     rw [hN] at L0 ec
     simp_arith [bl,hN,L0,ec,e1,e2,eq,pF,zq,a1,a2]
    rw [bd,wD]
    exact e'
   ·rw [f1,ģ,Ć]
    show _++(p::r.map _)=_++(ps.getD k.toNat ((0,0),(0,0))::r.map _)
    rw [hpk]
 obtain ⟨zs',z7',z12',z13',e',f1,f2,f3⟩:=loop os hin [] none none none (by have:=hp.length_eq;simp at this;simp;omega) (fun z m=>absurd m ž) (.inl ⟨rfl,rfl,rfl⟩)
 have e0:fsD E F (([]:List (Pr×Pr)).map (·.2))=[]:=rfl
 have e1:snD E F (([]:List (Pr×Pr)).map (·.2))=[]:=rfl
 rw [e0,e1] at e'
 refine ⟨zs'.map (·.2),z7',z12',z13',e',⟨zs',rfl,?_,fun z m=>(f2 z m).1⟩,fun p m => ?_,f3⟩
 ·rw [f1,ő,Ł]
  have:=hp.map (fun k=>ps.getD k.toNat ↥31)
  rwa [mV] at this
 ·obtain ⟨z,mz,rfl⟩:=å.mp m
  exact (f2 z mz).2
theorem Bu:Good AV:=by
 intro ns hl hb
 have h:=LF (ns.getD 0 0)
 have q0:=sI (ns:=ns) (j:=0) ↥1
 have q1:=sI (ns:=ns) (j:=1) ↥1
 have q2:=sI (ns:=ns) (j:=2) ↥1
 have z:=El (ns.getD 0 0)
 simp only [show (0:Int).toNat=0 from rfl,show (1:Int).toNat=1 from rfl,show (2:Int).toNat=2 from rfl] at q0 q1 q2
 generalize szE (ns.getD 0 0)=E at *
 generalize szF (ns.getD 0 0)=F at *
 generalize ns.getD 0 0=x0 at *
 generalize ns.getD 1 0=x1 at *
 generalize ns.getD 2 0=x2 at *
 obtain ⟨w,ew⟩:=wq x1
 have cc:=eS D.int ns (some 3) (some 203)
 have hcl:(EV.cut ns (some 3) (some 203)).length<=63:=by have:=F6 ns (some 3) (some 203);omega
 have hcb:∀ c∈EV.cut ns (some 3) (some 203),nb c<=2^20:=fun c m=>hb c (yU m)
 generalize EV.cut ns (some 3) (some 203)=cs at *
 obtain ⟨ps,eb,hps,hpl,hp3⟩:=BW (q:=x2) h hcl hcb
 unfold AV BG
 generalize hrest:vR 4 _ _=rest
 simp_arith [q0,z,q1,ew,q2,cc,eb,pF,zq]
 subst hrest
 have bl:gG [.lst (cs.map .int)]=.ok (.int cs.length):=by unfold gG;simp
 have blA:gG [.lst (fsD E F ps)]=.ok (.int ps.length):=by unfold gG fsD;simp
 obtain ⟨N,hN⟩:∃ N:Int,(ps.length:Int)=N:=⟨_,rfl⟩
 have aR:=kz (n:=N) ⋯ ⋯
 obtain ⟨L,hL⟩:∃ L:Int,(cs.length:Int)=L:=⟨_,rfl⟩
 rw [Ax (ns:=(č ps.length).map fun (k:Nat)=>(0:Int)+k) (fun k=>cs.getD (k%L).toNat 0*(48271+2*k*k)%2147483647) ?_ (by simp;omega) ?_ ?_]
 ·simp_arith []
 ·show ((call gG [var 10] _).bind CZ:R (List D))=_
  generalize fsD E F ps=A at *
  generalize snD E F ps=B at *
  simp_arith [blA,hN,aR]
  unfold iY
  rw [ô,Ëe,<-hN,Int.toNat_natCast]
  rfl
 ·intro k mk
  obtain ⟨j,mj,rfl⟩:=å.mp mk
  have hj:=ŝ.mp mj
  generalize hk:(0:Int)+(j:Nat)=k at *
  have L0:0<L:=⋯
  have m0:=ä k (show L≠0 by omega)
  have m1:=ã k L0
  have ek:oIx ↥20 (.int (k%L))=.ok (.int (cs.getD (k%L).toNat 0))/\nb (cs.getD (k%L).toNat 0)<=2^20:=by
   have hx:(k%L).toNat<cs.length:=⋯
   have:=dO (ds:=cs.map .int) (k:=(k%L).toNat) (d:=.int cs[(k%L).toNat]) (by rw [Ë,Â hx];rfl)
   rw [show (((k%L).toNat:Nat):Int)=k%L by omega] at this
   rw [Î,Â hx]
   exact ⟨this,hcb _ (ħ hx)⟩
  have nk:nb k<=8:=iu ⋯ ⋯
  have n2:nb (2*k)<=9:=iu ⋯ ⋯
  have kk:0<=k*k/\k*k<=200*200:=⟨Ĝ ⋯ ⋯,Int.mul_le_mul ⋯ ⋯ ⋯ ↥1⟩
  have e3:2*k*k=2*(k*k):=Ù _ _ _
  have n3:nb (48271+2*k*k)<=17:=iu ⋯ ⋯
  have o1:=aK (MulOk.of (i:=2) (j:=k) (a:=2) ↥1 nk ↥1)
  have o2:=aK (MulOk.of (i:=2*k) (j:=k) n2 nk ↥1)
  have o3:=aK (MulOk.of (i:=cs.getD (k%L).toNat 0) (j:=48271+2*k*k) ek.2 n3 ↥1)
  show bin oMod (bin eY (bin oIx (var 1) (bin oMod (var 0) (call gG [var 1]))) (bin bH ⇑48271 (bin eY (bin eY ⇑2 (var 0)) (var 0)))) ⇑2147483647 [some (.int k),some ↥20]=_
  simp_arith [bl,hL,L0,ek.1,o1,o2,o3]
 ·intro os hp _
  generalize hbody:seq (jk 12 13 _) _=body
  obtain ⟨qs,z7,z12,z13,e,ha,hqs,hz⟩:=Ew (scr:=ns.map .int) w h hps hpl hp3 hcl hp hbody.symm
  have hfx:∀ x∈[]++fl ps,dB E F x:=fun x m=>by
   obtain ⟨p,mp,hx⟩:=eZ.mp (by simpa using m)
   rcases hx with e | e<;>rw [e]
   ·exact (hps p mp).1
   ·exact (hps p mp).2
  have hfq:∀ x∈[]++fl qs,dB E F x:=fun x m=>by
   obtain ⟨p,mp,hx⟩:=eZ.mp (by simpa using m)
   rcases hx with e | e<;>rw [e]
   ·exact (hqs p mp).1
   ·exact (hqs p mp).2
  obtain ⟨d,gd,r1,r2⟩:=Cu (xs:=[]) (ys:=[]) w h ↥1 ⋯ hfx hfq ha .nil
  have ga1:bK [.tup [.int E,.int F],.str w.s,.lst (fsD E F ps),.lst (snD E F ps)]=.ok d:=lF w ⋯ r1 ⟨_,rfl⟩
  have ga2:bK [.tup [.int E,.int F],.str w.s,.lst (fsD E F qs),.lst (snD E F qs)]=.ok d:=lF w (by rw [ha.len];omega) r2 ⟨_,rfl⟩
  have hperm:(os.map fun k=>(ps.getD k.toNat ↥31).1).Perm (ps.map (·.1)):=by
   have:=(hp.map (fun k=>ps.getD k.toNat ↥31)).map (·.1)
   rw [mV,ô] at this
   exact this
  have as0:As [] []:=⟨[],rfl,.nil,fun z m=>absurd m ž⟩
  obtain ⟨d',gd',r3,r4⟩:=Cu (ps:=[]) (qs:=[]) (xs:=ps.map (·.1)) (ys:=os.map fun k=>(ps.getD k.toNat ↥31).1) w h (by rw [Á];omega) ↥1 (fun x m=>by
   obtain ⟨p,mp,rfl⟩:=å.mp ((È.mp m).elim id (fun z=>absurd z (by simp [fl])))
   exact (hps p mp).1) (fun x m=>by
   obtain ⟨p,mp,rfl⟩:=å.mp (hperm.mem_iff.mp ((È.mp m).elim id (fun z=>absurd z (by simp [fl]))))
   exact (hps p mp).1) as0 hperm
  have su1:eB [.tup [.int E,.int F],.str w.s,.lst (fsD E F ps)]=.ok d':=by
   have:fsD E F ps=((ps.map (·.1)).map ↥72).map .int:=by unfold fsD;congr 1;rw [ô];rfl
   rw [this]
   exact pG w r3 ⟨_,rfl⟩
  have su2:=pG w r4 ⟨_,rfl⟩
  have hin:∀ k∈os,0<=k/\k<ps.length:=fun k m=>by
   obtain ⟨j,mj,rfl⟩:=å.mp (hp.mem_iff.mp m)
   have:=ŝ.mp mj
   omega
  have g1:=yB h gd
  have g2:=yB h gd'
  obtain ⟨a,b,rfl,_⟩:=gd
  obtain ⟨a',b',rfl,_⟩:=gd'
  have ol:os.length<=100000:=by have:=hp.length_eq;simp at this;omega
  have rc:∀ δ:Dt,δ.getD 10 none=some ↥126->runC (stC ↥133 (bin oIx (var 1) (var 0)) [10] δ) (os.map .int)=.ok (((os.map fun k=>(ps.getD k.toNat ↥31).1).map ↥72).map .int):=fun δ eδ=>by
   rw [tw (f:=fun d=>match d with | .int k=>.int (nI E F (ps.getD k.toNat ↥31).1) | d=>d) fun d hd => ?_]
   ·rw [ô,ô,ô];rfl
   ·obtain ⟨k,mk,rfl⟩:=å.mp hd
    obtain ⟨k0,k1⟩:=hin k mk
    obtain ⟨e1,_⟩:=ixp (E:=E) (F:=F) (ps:=ps) k0 k1
    unfold stC inC
    rw [Ê,eδ]
    generalize fsD E F ps=A at *
    simp_arith [e1]
    unfold l5
    simp_arith []
  have rc':=fun (c0 c1 c2 c3 c4 c5 c6 c7 c8 c9 c11 c12 c13:Option D)=>rc [c0,c1,c2,c3,c4,c5,c6,c7,c8,c9,some ↥126,c11,c12,c13] rfl
  clear rc
  generalize hY:((os.map fun k=>(ps.getD k.toNat ↥31).1).map ↥72).map D.int=Y at *
  have flY:dD Y=.ok (.lst Y):=by rw [<- hY];exact aM
  have ol':(os.map D.int).length<=100000:=by rw [Á];exact ol
  generalize os.map D.int=O at *
  generalize fsD E F ps=A at *
  generalize snD E F ps=B at *
  generalize fsD E F qs=A2 at *
  generalize snD E F qs=B2 at *
  obtain ⟨y7,v7⟩:∃ y,∀ δ,view (z7::δ)=y::view δ:=⟨_,fun _=>rfl⟩
  obtain ⟨y12,v12⟩:∃ y,∀ δ,view (z12::δ)=y::view δ:=⟨_,fun _=>rfl⟩
  obtain ⟨y13,v13⟩:∃ y,∀ δ,view (z13::δ)=y::view δ:=⟨_,fun _=>rfl⟩
  simp_arith [e,ga1,ga2,g1,su1,g2,ol',rc',flY,su2,v7,v12,v13]
end T
open PySem PySem.W PyProof.Rows
set_option maxHeartbeats 0 in
theorem PySem.Challenge.cw_roundmill_k37_gathered_in_any_order_holds : PySem.Challenge.rw_roundmill_k37_gathered_in_any_order.Holds := by
 w_on;o_law
 refine holds_open (q:=H.q) (loose:=[]) (Xt:=H.Xt) (XP:=XL H.q []) (Yf:=(kHook H.K H.as H.he).obs) (Ya:=(kHook H.K H.as H.he).val) (YP:=(kHook H.K H.as H.he).says) (N:=6314) H.left (kHook H.K H.as H.he).of (kHook H.K H.as H.he).keeps (fun s e=>xl_of s (Éf.mp e).1) XL.keeps (by rfl) (by rfl) (by rfl) (fun s e=>recFacts_of (Éf.mp e).2) (by rfl) (by first | assumption | decide +kernel) ↥41 ⟨rfl,rfl,rfl,rfl,rfl,by decide +kernel⟩ ?hw ?hc
 (case hw=>w_witness2)
 k_fill
 refine ES.wu (l:=PySem.Challenge.rw_roundmill_k37_gathered_in_any_order) (k:=10) (x:="_law_script") (f:=T.AV) T.Bu rfl rfl ⟨rfl,by decide,by decide⟩ (ê (i:=44) (by kernel_rfl)) (fun w h Y=>PySem.W.kIn_of Y) ?F
 case F =>
  intro w mg fa h KX GG hmg
  refine' T.all_mk KX GG hmg ?n_Way ?pg_Way ?hd_Way ?po_Way ?sa_Way ?na_Way ?aIWay ?uIWay ?mm_Way ?kc_Way ?lIWay ?eIWay ?kIWay ?q1 ?q2 ?q3 ?q4 ?q5 ?q6 ?q7 ?q8 ?q9 ?q10 ?q11 ?q12 ?q13 ?q14 ?q15 ?q16 ?q17 ?q18 ?q19 ?q20 ?q21 ?q22 ?q23 ?q24 ?q25 ?q26 ?a27 ?u27 ?l27 ?e27 ?k27 ?a28 ?u28 ?l28 ?e28 ?k28 ?a29 ?u29 ?l29 ?e29 ?k29 ?q30 ?q31 ?q32 ?q33 ?q34 ?q35 ?q36 ?q37 ?q38 ?q39 ?q40 ?q41 ?q42 ?q43 ?q44 ?q45 ?q46 ?q47 ?a48 ?l48 ?e48 ?k48 ?z_min ?z_max ?z_len ?z_range ?z_list ?z_reversed ?z_abs ?z_any ?z_zip ?z_int ?z_isinstance ?z_bool ?z_tuple ?z_sorted ?y_NAMES ?yl_NAMES ?y_INEXACT ?y_GREAT ?y_SMALL ?y_WRONG ?n_MillError ?n_NoBits ?n_NotFinite ?n_NoWay ?n_NoFraction ?n_Unlike ?xi_NoWay ?xi_NoBits ?xi_NoFraction ?xi_NotFinite ?xi_Unlike ?v_MillError ?w_NoSize ?v_NoBits ?w_NoParts ?w_NoRank ?v_NotFinite ?v_NoWay ?w_NoFlags ?v_NoFraction ?v_Unlike ?w_Empty ?w_NoLeft ?w_NoText ?w_NoRow ?w_NoName ?w_Stopped ?i_int_NoneType ?i_int_bool ?i_int_int ?i_int_str ?i_int_tuple ?i_int_list ?i_bool_NoneType ?i_bool_bool ?i_bool_int ?i_bool_str ?i_bool_tuple ?i_bool_list ?i_tuple_NoneType ?i_tuple_bool ?i_tuple_int ?i_tuple_str ?i_tuple_tuple ?i_tuple_list ?tb
  (case n_Way | pg_Way | hd_Way | po_Way | sa_Way | na_Way | aIWay | uIWay | mm_Way | kc_Way | lIWay | eIWay | kIWay=>k_is)
  (case q1 | q2 | q3 | q4 | q5 | q6 | q7 | q8 | q9 | q10 | q11 | q12 | q13 | q14 | q15 | q16 | q17 | q18 | q19 | q20 | q21 | q22 | q23 | q24 | q25 | q26=>exact ES.Kl (by k_is) (by k_is) (by k_is) (by k_is))
  (case a27 | u27 | l27 | e27 | k27 | a28 | u28 | l28 | e28 | k28 | a29 | u29 | l29 | e29 | k29=>k_is)
  (case q30 | q31 | q32 | q33 | q34 | q35 | q36 | q37 | q38 | q39 | q40 | q41 | q42 | q43 | q44 | q45 | q46 | q47=>exact ES.Kl (by k_is) (by k_is) (by k_is) (by k_is))
  (case a48 | l48 | e48 | k48 | z_min | z_max | z_len | z_range | z_list | z_reversed | z_abs | z_any | z_zip | z_int | z_isinstance | z_bool | z_tuple | z_sorted | y_NAMES | yl_NAMES | y_INEXACT | y_GREAT | y_SMALL | y_WRONG | n_MillError | n_NoBits | n_NotFinite | n_NoWay | n_NoFraction | n_Unlike=>k_is)
  (case xi_NoWay | xi_NoBits | xi_NoFraction | xi_NotFinite | xi_Unlike=>k_exc)
  (case v_MillError=>exact ⟨by k_is,by k_is,by k_is,by k_is,by k_is,⟨_,by k_is⟩⟩)
  (case w_NoSize=>k_is)
  (case v_NoBits=>exact ⟨by k_is,by k_is,by k_is,by k_is,by k_is,⟨_,by k_is⟩⟩)
  (case w_NoParts | w_NoRank=>k_is)
  (case v_NotFinite | v_NoWay=>exact ⟨by k_is,by k_is,by k_is,by k_is,by k_is,⟨_,by k_is⟩⟩)
  (case w_NoFlags=>k_is)
  (case v_NoFraction | v_Unlike=>exact ⟨by k_is,by k_is,by k_is,by k_is,by k_is,⟨_,by k_is⟩⟩)
  (case w_Empty | w_NoLeft | w_NoText | w_NoRow | w_NoName | w_Stopped=>k_is)
  (case i_int_NoneType | i_int_bool | i_int_int | i_int_str | i_int_tuple | i_int_list | i_bool_NoneType | i_bool_bool | i_bool_int | i_bool_str | i_bool_tuple | i_bool_list | i_tuple_NoneType | i_tuple_bool | i_tuple_int | i_tuple_str | i_tuple_tuple | i_tuple_list=>kit_is)
  (case tb=>kernel_rfl)
#print axioms PySem.Challenge.cw_roundmill_k37_gathered_in_any_order_holds
