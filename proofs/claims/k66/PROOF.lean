import PyProof.Rows.All
import KE.KSortTup
import KE.KSortAsk
import OpenK.KLine
import KE.KPar
import KE.IntBitsLaws
import PyProof.Fits
import KE.KIsAll
import KE.KItem
import KE.KxBytes
import Wide.FinOn
import PyProof.EqAt
import PyProof.EqKinds
import PyProof.TupleCall
import PyProof.ZipIter
import PyProof.EnumMake
import PyProof.EnumFor
import PyProof.Rows.EnumRows
import PyProof.CompMap
import PyProof.CompUse
import KE.KRevSl
import KE.KRevIter
import PyProof.ListRange
import PyProof.AutoRange
import PyProof.FactsAll.range_2
import PyProof.MaxThree
import KE.RegKTryMore
import PyProof.Rows.SumAny
import KE.KMinBuiltin
import PyProof.Rows.CallKwBuiltin
import PyProof.JoinWalk
import PyProof.StrBlockL
import PyProof.StrCalls2
import PyProof.CallStr
import PyProof.Rows.StrWeight2
import PyProof.FitsInt
import PyProof.FactsAll.range_1
import PyProof.SeqRoads2
import KE.RegKIsAll
import PyProof.ExcArgsOwn
import PyProof.NsDelKeeps
import PyProof.RulesAs
import KE.KIntText
import PyProof.Rows.StrNews2
import PyProof.StrBlockH
import PyProof.Rows.RuleDivmod
import KE.IntTextText
import OpenK.KTop
import Lean
import PySem.Challenge.RW_roundglass_k66_whole_what_comes_out
noncomputable section
open PySem.W renaming Frag→Iy
open PySem renaming wpAny_bind→Iz,wpAny_pure→IM
open List renaming length_cons→IA,mem_cons_of_mem→IC,length_map→ID,mem_cons→IE,mem_cons_self→IG,mem_map→IJ,getD_eq_getElem?_getD→IQ,getElem?_eq_getElem→IS,mem_of_getElem?→IU,mem_append_right→IW,length_append→IX,size_toArray→IY,mem_singleton→Ja,getElem?_map→Jb,mem_append→Jc,getElem?_eq_some_iff→Jd,length_take→Jg,not_mem_nil→Ji,map_cons→Jj,mem_of_mem_take→Jm,map_append→Jn,filter_cons_of_pos→Jp,length_drop→Jq,map_map→Js,map_inj_right→Ju,foldl_append→Jw,filter_cons_of_neg→Jz,length_zip→JB,getElem?_append_right→JC,take_of_length_le→JD,range→JK,pairwise_cons→JL,mem_append_left→JM,getElem?_replicate→JN,length_range→JR,getElem_cons_succ→JX,take_length→JY,getElem?_append_left→Kb,append_nil→Kc,pairwise_map→Ke,take_add_one→Kg,map_nil→Ki,length_pos_iff→Kj,ext_getElem→Kk,all_eq_true→Kl,replicate→Km,of_mem_zip→Ko,reverse_cons→Kp,mem_of_mem_drop→Kq,getElem_append_right→Ks,lookup_cons→Ku,getElem_mem→Kw,getElem_zip→Kx,length_reverse→Ky,map_congr_left→KA,getElem_append_left→KD,mem_filterMap→KH,zip_cons_cons→KJ,take_succ_eq_append_getElem→KR,mem_range→KW,length_replicate→KY,take_append_drop→Lb,getElem?_append→Ld,pairwise_append→Le,reverse_reverse→Lf,filterMap_cons→Lg,nodup_cons→Lh,length_nil→Li,take_succ_cons→Lj,pairwise_iff_getElem→Lv,getElem?_take_of_lt→Lw,append_assoc→LA,length→LC,getElem?_set_self→LL,drop_of_length_le→LO,drop_eq_nil_of_le→LP,mem_filter→LQ,forIn_cons→LU,map→Mi,getElem?_set_ne→Mj,getElem?_mapIdx→Mk,mem_iff_getElem→Ml,getElem?_range→Mu,map_drop→MA,map_take→MB,all_map→MH,toArray→MI,getElem_inj→MQ,zipIdx_cons→MS,cons_append→MU,getElem_map→MV,zipIdx_nil→MW,nil_append→Na,foldl_cons→Nc,forIn_nil→Ni,drop_zero→Nj
open PySem.Heap renaming get?_push_of_some→IB,lt_size→II,get?_push_size→IP,size_push→JH,get?_update_other→KS,get?_update_self→KZ,get?_push_ne→MC
open Nat renaming lt_of_lt_of_le→IF,le_refl→IL,le_trans→IT,pow_le_pow_right→Jh,ne_of_lt→Jk,lt_of_le_of_lt→Jl,zero_le→Jr,mod_eq_of_lt→Jt,gcd→JP,lt_irrefl→JZ,lt_or_eq_of_le→Ka,div_le_self→Kd,mod_lt→Kf,ne_of_gt→Kh,le_add_right→Kv,gcd_pos_of_pos_right→KC,mul_ne_zero→KO,dvd_lcm_left→Lc,pow_succ→Lo,gcd_comm→Lq,add_comm→Ls,dvd_lcm_right→LB,dvd_trans→LG,mul_div_cancel_left→LH,min_le_right→LI,mul_lt_mul''→LJ,le_max_right→LK,le_of_lt→LR,le_max_left→LS,lt_succ_iff→LX,not_lt_zero→Mc,lt_trans→Mf,zero_add→Mg,max_le→Mh,log2_lt→Mn,pos_iff_ne_zero→Mo,pow_add→Mp,lcm_pos→Mt,eq_zero_or_pos→Mv,pos_of_ne_zero→My,mod_eq_sub_mod→Mz,add_mod_right→ME,gcd_dvd_right→MF,le_of_eq→MG,mul_comm→MM,mod_self→MN,min_eq_right→MT,two_pow_pos→MZ,min_eq_left→Nd,mod_add_mod→Nf,lcm→Nm
open Rat renaming mul_nonneg→IH,intCast_mul→IV,intCast_natCast→Jf,div_mul_cancel→Jo,divInt→Jv,num_divInt_den→Jx,natCast_mul→Jy,mul_pos→JU,le_refl→JV,divInt_nonneg_iff_of_pos_right→KG,intCast_sub→KP,divInt_eq_div→KU,intCast_inj→Ll,sub_eq_add_neg→Lp,mul_comm→Lr,neg_num→LD,neg_den→LF,intCast_le_intCast→LN,intCast_neg→LV,intCast_add→LW,divInt_mul_divInt→LY,divInt_add_divInt→LZ,mul_zero→Md,add_zero→Me,divInt_mul_right→Mm,neg_neg→Mr,num_intCast→MX,den_intCast→MY,div_def→Ng
open Int renaming natAbs_natCast→IK,natCast_inj→IZ,natAbs_mul→JF,mul_ne_zero→JJ,natAbs_neg→JQ,mul_nonneg→Kr,mul_pos→Kz,emod_lt_of_pos→KN,mul_eq_zero→KQ,mul_le_mul_of_nonneg_right→La,emod_nonneg→Lk,natCast_mul→Lm,sign_eq_neg_one_of_neg→Ln,natAbs_ediv_le_natAbs→Lu,toNat_natCast→Ly,natAbs_add_le→Lz,sign_eq_one_of_pos→LM,lt_or_le→Ma,zero_mul→Mb,neg_ediv_of_dvd→Mq,mul_neg→Ms,natAbs_eq_zero→Mx,natAbs_sub_le→MD,le_of_lt→MJ,mul_zero→ML,zero_sub→MP,neg_neg→Nb,toNat→Nk,gcd→Nl
open Bool renaming false_ne_true→Je,false_eq_true→Kn,and_eq_true→Kt,eq_iff_iff→KI,true_and→Mw,false_and→Nh
open Option renaming getD_none→MR
set_option compiler.extract_closed false
set_option Elab.async false
set_option linter.all false
set_option maxRecDepth 100000
section
namespace L2
open PySem PySem.Spec PyProof.Rows
noncomputable abbrev Key:=Sum Int Str
noncomputable def Ad:Key→Value→Bool
 | .inl k,v=>Value.isInt k v
 | .inr x,v=>Value.isStrOf x v
noncomputable def Gf(w:World):Key→Int
 | .inl k=>hashInt k
 | .inr x=>hashStr w x
theorem p9:∀{k:Key} {v:Value},Ad k v=true→(∃ i t,k=Sum.inl i∧v=Value.int i t)∨(∃ x t,k=Sum.inr x∧v=Value.str x t)
 | .inl i,v,h=>by
  obtain⟨t,e⟩:=Value.isInt_shape (k:=i) (v:=v) h
  exact .inl ⟨i,t,rfl,e⟩
 | .inr x,v,h=>by
  obtain⟨t,e⟩:=Value.isStrOf_shape (x:=x) (v:=v) h
  exact .inr ⟨x,t,rfl,e⟩
theorem Co(a b:Int):decide ((Sum.inl a:Key)=Sum.inl b)=(a == b):=by
 by_cases e:a=b
 ·subst e;simp
 ·have h:¬ (Sum.inl a:Key)=Sum.inl b:=fun q=>e (Sum.inl.inj q)
  rw[decide_eq_false h]
  exact(beq_eq_false_iff_ne.mpr e).symm
theorem Ck(a b:Str):decide ((Sum.inr a:Key)=Sum.inr b)=decide (a=b):=by
 by_cases e:a=b
 ·subst e;simp
 ·have h:¬ (Sum.inr a:Key)=Sum.inr b:=fun q=>e (Sum.inr.inj q)
  rw[decide_eq_false h,decide_eq_false e]
theorem Cn(a:Int)(b:Str):decide ((Sum.inl a:Key)=Sum.inr b)=false:=decide_eq_false (fun q=>nomatch q)
theorem Cm(a:Str)(b:Int):decide ((Sum.inr a:Key)=Sum.inl b)=false:=decide_eq_false (fun q=>nomatch q)
noncomputable def oa(prog:Program)(w:World):PySem.KeyKind prog w Key where
 is:=Ad
 hash:=Gf w
 inj:=fun v a b ha hb=>by
  rcases p9 ha with⟨i,t,rfl,rfl⟩|⟨x,t,rfl,rfl⟩
  ·rcases p9 hb with⟨j,u,rfl,e⟩|⟨y,u,rfl,e⟩
   ·injection e with e1 _;rw[e1]
   ·exact nomatch e
  ·rcases p9 hb with⟨j,u,rfl,e⟩|⟨y,u,rfl,e⟩
   ·exact nomatch e
   ·injection e with e1 _;rw[e1]
 byValue:=fun k v h=>by
  rcases p9 h with⟨i,t,rfl,rfl⟩|⟨x,t,rfl,rfl⟩<;>rfl
 pyHash:=fun hv h=>by
  rcases p9 hv with⟨i,t,rfl,rfl⟩|⟨x,t,rfl,rfl⟩
  ·exact wpAny_pyHash_int h
  ·exact wpAny_pyHash_str h
 eqBool:=fun hu hv h=>by
  rcases p9 hu with⟨i,t,rfl,rfl⟩|⟨x,t,rfl,rfl⟩
  ·rcases p9 hv with⟨j,u,rfl,rfl⟩|⟨y,u,rfl,rfl⟩
   ·rw[Co]at h;exact wpAny_eqBool_int h
   ·rw[Cn]at h;exact SeqAt.EqAt.int_str i t y u _ _ _ _ h
  ·rcases p9 hv with⟨j,u,rfl,rfl⟩|⟨y,u,rfl,rfl⟩
   ·rw[Cm]at h;exact SeqAt.EqAt.str_int x t j u _ _ _ _ h
   ·rw[Ck]at h;exact wpAny_eqBool_str h
 «strs»:=fun k x t v h=>by
  rcases p9 h with⟨i,u,rfl,e⟩|⟨y,u,rfl,e⟩
  ·exact nomatch e
  ·injection e with e1 _
   subst e1
   cases v<;>rfl
inductive V where
 | non|bl (b:Bool)|int (i:Int)|str (x:Str)|byt (b:Array UInt8)|flt (b:UInt64)|ref (a:Addr)|ty (n:String)
 deriving DecidableEq
noncomputable def j6:V→Value→Prop
 | .non,u=>u=Value.none
 | .bl b,u=>u=Value.bool b
 | .int i,u=>∃ t,u=Value.int i t
 | .str x,u=>∃ t,u=Value.str x t
 | .byt b,u=>∃ t,u=Value.bytes b t
 | .flt b,u=>∃ t,u=Value.float b t
 | .ref a,u=>u=Value.ref a
 | .ty n,u=>u=Value.type n
noncomputable abbrev i5:List V→List Value→Prop:=Paired j6
theorem i5.length{xs:List V}{us:List Value}(r:i5 xs us):xs.length=us.length:=Paired.length r
theorem i5.get:∀{xs:List V} {us:List Value} {i:Nat} {x:V},i5 xs us→xs[i]? = some x→∃ u,us[i]? = some u∧j6 x u
 | _,_,_,_,.nil,e=>by simp at e
 | _,_,0,_,.cons r _,e=>by simp at e;subst e;exact⟨_,rfl,r⟩
 | _,_,i+1,x,.cons _ t,e=>by
  obtain⟨u,h1,h2⟩:=i5.get (i:=i) (x:=x) t (by simpa using e)
  exact⟨u,by simpa using h1,h2⟩
theorem i5.set{x:V}{u:Value}(r:j6 x u):∀{xs:List V} {us:List Value} (i:Nat),i5 xs us→i5 (xs.set i x) (us.set i u)
 | _,_,_,.nil=>.nil
 | _,_,0,.cons _ t=>.cons r t
 | _,_,i+1,.cons q t=>.cons q (i5.set r i t)
theorem i5.append:∀{xs ys:List V} {us ws:List Value},i5 xs us→i5 ys ws→i5 (xs++ys) (us++ws)
 | _,_,_,_,.nil,s=>s
 | _,_,_,_,.cons r t,s=>.cons r (i5.append t s)
theorem i5.take:∀{xs:List V} {us:List Value} (n:Nat),i5 xs us→i5 (xs.take n) (us.take n)
 | _,_,0,_=>.nil
 | _,_,_+1,.nil=>.nil
 | _,_,n+1,.cons r t=>.cons r (i5.take n t)
theorem i5.drop:∀{xs:List V} {us:List Value} (n:Nat),i5 xs us→i5 (xs.drop n) (us.drop n)
 | _,_,0,r=>r
 | _,_,_+1,.nil=>.nil
 | _,_,n+1,.cons _ t=>i5.drop n t
noncomputable def CY:Option V→Option Value→Prop
 | some v,some u=>j6 v u
 | none,none=>True
 | _,_=>False
noncomputable def KV{κ:Type}:List (κ × V)→List (κ × Value)→Prop:=Paired fun(p:κ × V) (q:κ × Value)=>p.1=q.1∧j6 p.2 q.2
noncomputable def kV:Key→V
 | .inl i=>.int i
 | .inr x=>.str x
inductive HO where
 | lst (xs:List V)
 | tup (xs:List V)
 | dK (kvs:List (Key × V))|dT (kvs:List (List Key × V))
 | set (S:Int→Bool) (n:Nat)
 | ins (C dx:Addr) (fs:List (Str × V))
 | own (x:Addr)
 | xd (fs:List (Str × V))
 | met (f x:Addr)
 | rng (lo hi:Int)
 | frz (o:Obj) (u:HO)
 | tbl (ps:Array Value)
 | ext (φ:Heap→Prop)
noncomputable abbrev Hp:=Addr→Option HO
noncomputable def upd(H:Hp)(a:Addr)(o:HO):Hp:=fun b=>if b=a then some o else H b
theorem h7{H:Hp}{a:Addr}{o:HO}:upd H a o a=some o:=by unfold upd;rw[if_pos rfl]
theorem f9{H:Hp}{a b:Addr}{o:HO}(h:b≠a):upd H a o b=H b:=by unfold upd;rw[if_neg h]
theorem S5{H:Hp}{a:Addr}{o u:HO}:upd (upd H a o) a u=upd H a u:=by
 funext b;unfold upd;split<;>rfl
theorem B3{H:Hp}{a b:Addr}{o:HO}(h:H a=some o)(h':H b=none):a≠b:=by
 intro e;subst e;rw[h]at h';cases h'
section
variable (P:Program) (w:World)
noncomputable def v8(H:Hp)(h:Heap)(a:Addr):HO→Prop
 | .lst xs=>xs.length≤sizeLine∧∃(its:List Value) (n:Nat),i5 xs its∧h.get? a=some { cls:=.type "list",data:=.seq its.toArray n }
 | .tup xs=>xs.length≤sizeLine∧∃ its:List Value,i5 xs its∧IsTup h a its.toArray
 | .dK kvs=>kvs.length≤sizeLine∧(a == sysModules)=false∧∃ vs,KV kvs vs∧h.DictOf (oa P w) a vs
 | .dT kvs=>kvs.length≤sizeLine∧(a == sysModules)=false∧∃ xs:List (List Key × Addr × Value),
   Paired (fun(p:List Key × V) (q:List Key × Addr × Value)=>p.1=q.1∧H q.2.1=some (.tup (p.1.map kV))∧j6 p.2 q.2.2) kvs xs ∧
   ∃ o es ep,h.get? a=some o∧o.ExactDict∧o.data = .dict es ep∧es.toList=xs.map (entryOfKey (tupleKind (oa P w)))∧(xs.map (·.1)).Nodup
 | .set S n=>h.SetOf (intKind P w) a S n
 | .ins C dx fs=>H dx=some (.own a)∧fs.length≤1000∧dx≠a∧h.get? a=some (PySem.W.instObj C dx) ∧
   ∃ mA,h.Ns1 dx mA∧(∀ f,CY (fs.lookup f) (mA f))∧PySem.Within mA (fs.map (·.1))
 | .own _=>∃ o,h.get? a=some o
 | .xd fs=>∃ mA,h.Ns1 a mA∧∀ f,CY (fs.lookup f) (mA f)
 | .rng lo hi=>∃ t u v,h.get? a=some { cls:=.type "range",data:=.fields #[.int lo t,.int hi u,.int 1 v] }
 | .frz o u=>h.get? a=some o∧v8 H h a u
 | .tbl ps=>h.get? a=some { cls:=.none,data:=.fields ps }
 | .met f x=>h.get? a=some (PySem.W.methodObj (.ref f) (.ref x))
 | .ext φ=>φ h∧(∃ o,h.get? a=some o)∧∀ h1 h2:Heap,φ h1→(∀ o,h1.get? a=some o→h2.get? a=some o)→φ h2
def HOk(H:Hp)(h:Heap):Prop:=∀ a o,H a=some o→v8 P w H h a o
end
section
variable {P:Program} {w:World} {H H':Hp} {h h':Heap} {a:Addr} {o:HO}
theorem v8.lt(x:v8 P w H h a o):a<h.objs.size:=by
 cases o with
 | lst xs=>obtain⟨_,_,_,_,e⟩:=x;exact II e
 | tup xs=>obtain⟨_,_,_,p⟩:=x;exact p.lt
 | dK kvs=>obtain⟨_,_,_,_,o,_,_,e,_⟩:=x;exact II e
 | dT kvs=>obtain⟨_,_,_,_,o,_,_,e,_⟩:=x;exact II e
 | set S n=>obtain⟨o,_,_,_,e,_⟩:=x;exact II e
 | ins C dx fs=>obtain⟨_,_,_,e,_⟩:=x;exact II e
 | own y=>obtain⟨_,e⟩:=x;exact II e
 | xd fs=>obtain⟨_,⟨_,_,_,e,_⟩,_⟩:=x;exact II e
 | rng lo hi=>obtain⟨_,_,_,e⟩:=x;exact II e
 | frz ob u=>obtain⟨e,_⟩:=x;exact II e
 | tbl ps=>exact II (show h.get? a=some _ from x)
 | met f y=>exact II (show h.get? a=some _ from x)
 | ext φ=>obtain⟨_,⟨_,e⟩,_⟩:=x;exact II e
theorem Paired.mapP{α β:Type}{F G:α→β→Prop}:∀{l₁:List α} {l₂:List β},Paired F l₁ l₂→(∀ a b,F a b→G a b)→Paired G l₁ l₂
 | _,_,.nil,_=>.nil
 | _,_,.cons r t,f=>.cons (f _ _ r) (Paired.mapP t f)
theorem v8.stay(x:v8 P w H h a o)(k:∀ b u,(b=a∨H b=some (.own a))→h.get? b=some u→h'.get? b=some u)
  (ho:∀ b,H b=some (.own a)→H' b=some (.own a)) (ht:∀ b xs,H b=some (.tup xs)→H' b=some (.tup xs)):v8 P w H' h' a o:=by
 induction o with
 | lst xs=>obtain⟨z,its,n,r,e⟩:=x;exact⟨z,its,n,r,k _ _ (.inl rfl) e⟩
 | tup xs=>obtain⟨z,its,r,ob,e,c⟩:=x;exact⟨z,its,r,ob,k _ _ (.inl rfl) e,c⟩
 | dK kvs=>obtain⟨z,y,vs,r,ob,es,ep,e,c⟩:=x;exact⟨z,y,vs,r,ob,es,ep,k _ _ (.inl rfl) e,c⟩
 | dT kvs =>
  obtain⟨z,y,xs,r,ob,es,ep,e,c⟩:=x
  exact⟨z,y,xs,Paired.mapP r fun p q z=>⟨z.1,ht _ _ z.2.1,z.2.2⟩,ob,es,ep,k _ _ (.inl rfl) e,c⟩
 | set S n=>obtain⟨ob,es,ep,t,e,c⟩:=x;exact⟨ob,es,ep,t,k _ _ (.inl rfl) e,c⟩
 | ins C dx fs =>
  obtain⟨d,z,ne,e,mA,⟨od,es,ep,e2,c⟩,r⟩:=x
  exact⟨ho _ d,z,ne,k _ _ (.inl rfl) e,mA,⟨od,es,ep,k _ _ (.inr d) e2,c⟩,r⟩
 | own y=>obtain⟨ob,e⟩:=x;exact⟨ob,k _ _ (.inl rfl) e⟩
 | xd fs=>obtain⟨mA,⟨od,es,ep,e,c⟩,r⟩:=x;exact⟨mA,⟨od,es,ep,k _ _ (.inl rfl) e,c⟩,r⟩
 | rng lo hi=>obtain⟨t,u,v,e⟩:=x;exact⟨t,u,v,k _ _ (.inl rfl) e⟩
 | frz ob u ih=>obtain⟨e,q⟩:=x;exact⟨k _ _ (.inl rfl) e,ih q⟩
 | tbl ps =>
  have e:h.get? a=some { cls:=.none,data:=.fields ps }:=x
  show h'.get? a=some { cls:=.none,data:=.fields ps }
  exact k a _ (.inl rfl) e
 | met f y =>
  have e:h.get? a=some (PySem.W.methodObj (.ref f) (.ref y)):=x
  show h'.get? a=some (PySem.W.methodObj (.ref f) (.ref y))
  exact k a _ (.inl rfl) e
 | ext φ=>obtain⟨p,⟨o,e⟩,st⟩:=x;exact⟨st _ _ p fun o q=>k _ _ (.inl rfl) q,⟨o,k _ _ (.inl rfl) e⟩,st⟩
theorem HOk.lt(x:HOk P w H h)(e:H a=some o):a<h.objs.size:=(x a o e).lt
theorem HOk.fresh(x:HOk P w H h)(e:h.objs.size≤a):H a=none:=by
 cases q:H a with
 | none=>rfl
 | some u=>exact absurd (IF (x.lt q) e) (JZ _)
theorem HOk.kept(x:HOk P w H h)(k:∀ b u,h.get? b=some u→h'.get? b=some u):HOk P w H h':=fun a o e =>
 (x a o e).stay (fun b u _ q=>k b u q) (fun _ q=>q) fun _ _ q=>q
theorem HOk.laid(x:HOk P w H h)(k:∀ b u,h.get? b=some u→h'.get? b=some u)(hp:h.objs.size≤a)(new:v8 P w (upd H a o) h' a o):HOk P w (upd H a o) h':=fun b u e=>by
 have hn:=x.fresh hp
 by_cases hb:b=a
 ·subst hb;rw[h7]at e;cases e;exact new
 ·rw[f9 hb]at e
  exact(x b u e).stay (fun c v _ q=>k c v q) (fun c q=>by rw[f9 (B3 q hn)];exact q) fun c xs q=>by rw[f9 (B3 q hn)];exact q
end
def Rd(H:Hp)(a:Addr)(u:HO):Prop:=H a=some u ∨ ∃ o,H a=some (.frz o u)
theorem Rd.of{H:Hp}{a:Addr}{u:HO}(h:H a=some u):Rd H a u:=.inl h
theorem Rd.ok{P:Program}{w:World}{H:Hp}{h:Heap}{a:Addr}{u:HO}(r:Rd H a u)(x:HOk P w H h):v8 P w H h a u:=by
 rcases r with r|⟨o,r⟩
 ·exact x a u r
 ·obtain⟨_,q⟩:=x a _ r
  exact q
noncomputable def Mut:Option HO→Prop
 | some (.lst _)=>True
 | some (.dK _)=>True
 | some (.dT _)=>True
 | some (.set _ _)=>True
 | some (.ins _ _ _)=>True
 | some (.ext _)=>True
 | _=>False
section
variable {P:Program} {w:World} {H:Hp} {h h':Heap} {x e:Addr} {o':HO}
theorem HOk.write(ok:HOk P w H h)(mu:Mut (H x))(he:e=x∨H e=some (.own x))(k:∀ b u,b≠e→h.get? b=some u→h'.get? b=some u)(heo:∃ u,h'.get? e=some u)
  (new:v8 P w (upd H x o') h' x o'):HOk P w (upd H x o') h':=fun b u q=>by
 have nown:∀ c y,H c=some (.own y)→c≠x:=fun c y r z=>by subst z;rw[r]at mu;exact mu
 have ntup:∀ c xs,H c=some (.tup xs)→c≠x:=fun c xs r z=>by subst z;rw[r]at mu;exact mu
 by_cases hb:b=x
 ·subst hb;rw[h7]at q;cases q;exact new
 ·rw[f9 hb]at q
  by_cases hbe:b=e
  ·have q':H b=some (.own x):=by
    rcases he with z|z
    ·exact absurd (hbe.trans z) hb
    ·rw[hbe];exact z
   rw[q]at q';cases q'
   obtain⟨v,hv⟩:=heo
   exact⟨v,by rw[hbe];exact hv⟩
  ·refine(ok b u q).stay (fun c v hc r=>k c v ?_ r) (fun c r=>by rw[f9 (nown c b r)];exact r) fun c xs r=>by rw[f9 (ntup c xs r)];exact r
   rcases hc with rfl|hc
   ·exact hbe
   ·rintro rfl
    rcases he with z|z
    ·exact nown c b hc z
    ·rw[hc]at z;cases z;exact hb rfl
end
structure Un(fs ex:List Addr)(H H':Hp)(h h':Heap):Prop where
 keep:∀ b o,h.get? b=some o→H b=none→b∉fs→b∉ex→h'.get? b=some o
 slot:∀ b o,h.get? b=some o→H b=none→b∈fs→b∉ex→∃ sl,h'.get? b=some { o with slots:=sl }
 free:∀ b o,h.get? b=some o→H b=none→b∉ex→H' b=none
 there:∀ b o,h.get? b=some o→b∉ex→∃ o',h'.get? b=some o'
 tups:∀ b xs,H b=some (.tup xs)→H' b=some (.tup xs)
 frzs:∀ b o u,H b=some (.frz o u)→H' b=some (.frz o u)
 tbls:∀ b ps,H b=some (.tbl ps)→∃ more,H' b=some (.tbl (ps++more))
section
variable {fs fs' ex ex':List Addr} {H H1 H2:Hp} {h h1 h2 h':Heap} {a x e:Addr} {o:HO}
theorem Un.any(u:Un fs ex H H1 h h1){b:Addr}{ob:Obj}(q:h.get? b=some ob)(n:H b=none)(hx:b∉ex):∃ sl,h1.get? b=some { ob with slots:=sl }:=by
 by_cases hb:b∈fs
 ·exact u.slot b ob q n hb hx
 ·exact⟨ob.slots,u.keep b ob q n hb hx⟩
theorem Un.trans(a:Un fs ex H H1 h h1)(b:Un fs ex H1 H2 h1 h2):Un fs ex H H2 h h2 where
 keep:=fun c ob q n hc hx=>b.keep c ob (a.keep c ob q n hc hx) (a.free c ob q n hx) hc hx
 slot:=fun c ob q n hc hx=>by
  obtain⟨sl,e1⟩:=a.slot c ob q n hc hx
  obtain⟨sl',e2⟩:=b.slot c _ e1 (a.free c ob q n hx) hc hx
  exact⟨sl',e2⟩
 free:=fun c ob q n hx=>by
  obtain⟨o',e1⟩:=a.there c ob q hx
  exact b.free c o' e1 (a.free c ob q n hx) hx
 there:=fun c ob q hx=>by
  obtain⟨o',e1⟩:=a.there c ob q hx
  exact b.there c o' e1 hx
 tups:=fun c xs q=>b.tups c xs (a.tups c xs q)
 frzs:=fun c ob xs q=>b.frzs c ob xs (a.frzs c ob xs q)
 tbls:=fun c ps q=>by
  obtain⟨m1,e1⟩:=a.tbls c ps q
  obtain⟨m2,e2⟩:=b.tbls c _ e1
  exact⟨m1++m2,by rw[e2,Array.append_assoc]⟩
theorem Un.kept(k:∀ b u,h.get? b=some u→h'.get? b=some u):Un fs ex H H h h' :=
 ⟨fun b ob q _ _ _=>k b ob q,fun b ob q _ _ _=>⟨ob.slots,k b ob q⟩,fun _ _ _ n _=>n,fun b ob q _=>⟨ob,k b ob q⟩,fun _ _ q=>q,fun _ _ _ q=>q,fun _ ps q=>⟨#[],by rw[q];simp⟩⟩
theorem Un.refl:Un fs ex H H h h:=Un.kept fun _ _ q=>q
theorem Un.laid(k:∀ b u,h.get? b=some u→h'.get? b=some u)(hp:h.objs.size≤a)(hn:H a=none):Un fs ex H (upd H a o) h h' where
 keep:=fun b u q _ _ _=>k b u q
 slot:=fun b u q _ _ _=>⟨u.slots,k b u q⟩
 free:=fun b u q n _=>by rw[f9 (Jk (IF (II q) hp))];exact n
 there:=fun b u q _=>⟨u,k b u q⟩
 tups:=fun b xs q=>by rw[f9 (B3 q hn)];exact q
 frzs:=fun b u xs q=>by rw[f9 (B3 q hn)];exact q
 tbls:=fun b ps q=>⟨#[],by rw[f9 (B3 q hn),q];simp⟩
theorem Un.write(mu:Mut (H x))(he:e=x∨H e=some (.own x))(k:∀ b u,b≠e→h.get? b=some u→h'.get? b=some u)(heo:∃ u,h'.get? e=some u):Un fs ex H (upd H x o) h h':=by
 have hx:∀ b,H b=none→b≠x:=fun b n z=>by subst z;rw[n]at mu;exact mu
 have hb:∀ b,H b=none→b≠e:=fun b n z=>by
  subst z
  rcases he with r|r
  ·exact hx b n r
  ·rw[n]at r;cases r
 have hm:∀ b u,H b=some u→¬ Mut (some u)→b≠x:=fun b u q nm z=>by subst z;rw[q]at mu;exact nm mu
 refine⟨fun b u q n _ _=>k b u (hb b n) q,fun b u q n _ _=>⟨u.slots,k b u (hb b n) q⟩,fun b u q n _=>by rw[f9 (hx b n)];exact n,fun b u q _=>?_,
  fun b xs q=>by rw[f9 (hm b _ q fun z=>z)];exact q,fun b u xs q=>by rw[f9 (hm b _ q fun z=>z)];exact q,fun b ps q=>⟨#[],by rw[f9 (hm b _ q fun z=>z),q];simp⟩⟩
 by_cases hbe:b=e
 ·subst hbe;exact heo
 ·exact⟨u,k b u hbe q⟩
theorem Un.mono(u:Un fs ex H H1 h h1)(hs:∀ b∈fs,b∈fs')(hx:∀ b∈ex,b∈ex'):Un fs' ex' H H1 h h1 :=
 ⟨fun b ob q n hb he=>u.keep b ob q n (fun z=>hb (hs b z)) fun z=>he (hx b z),fun _ _ q n _ he=>u.any q n fun z=>he (hx _ z),fun b ob q n he=>u.free b ob q n fun z=>he (hx b z),fun b ob q he=>u.there b ob q fun z=>he (hx b z),u.tups,u.frzs,u.tbls⟩
end
noncomputable def trk(h:Heap)(H:Hp):List Addr:=(JK h.objs.size).filter fun a=>(H a).isSome
noncomputable def gL(h:Heap)(H:Hp):Heap:=PySem.W.hideAll h (trk h H)
theorem qj(h:Heap)(H:Hp):(gL h H).objs.size=h.objs.size:=PySem.W.hideAll_size _ _
theorem uJ{h:Heap}{H:Hp}{b:Addr}{o:Obj}(e:h.get? b=some o)(n:H b=none):(gL h H).get? b=some o :=
 PySem.W.hideAll_get _ e fun hm=>by
  have q:(H b).isSome=true:=(LQ.mp hm).2
  rw[n]at q;simp at q
theorem yh{h:Heap}{H:Hp}{b:Addr}{o:Obj}(e:(gL h H).get? b=some o):h.get? b=some o∧H b=none:=by
 have e':h.get? b=some o:=PySem.W.of_hideAll (trk h H) e
 refine⟨e',?_⟩
 cases q:H b with
 | none=>rfl
 | some x =>
  have hm:b∈trk h H:=LQ.mpr ⟨KW.mpr (II e'),by simp[q]⟩
  have z:(gL h H).get? b=none:=PySem.W.hideAll_none (trk h H) hm
  rw[z]at e;cases e
noncomputable def br(g h:Heap)(L:Addr):List (Addr × Obj):=(JK h.objs.size).filterMap fun a=>if a=L∨(g.get? a).isSome=true then none else(h.get? a).map fun o=>(a,o)
theorem O0{g h:Heap}{L a:Addr}{o:Obj}(h1:a≠L)(h2:g.get? a=none)(h3:h.get? a=some o):(a,o)∈br g h L :=
 KH.mpr ⟨a,KW.mpr (II h3),by simp[h1,h2,h3]⟩
theorem cB{g h:Heap}{L:Addr}{p:Addr × Obj}(hp:p∈br g h L):p.1≠L∧g.get? p.1=none∧h.get? p.1=some p.2:=by
 obtain⟨b,_,e⟩:=KH.mp hp
 split at e
 ·cases e
 ·rename_i hn
  cases q:h.get? b with
  | none=>rw[q]at e;simp at e
  | some u =>
   rw[q]at e
   simp only[Option.map_some,Option.some.injEq]at e
   subst e
   refine⟨fun z=>hn (.inl z),?_,q⟩
   show g.get? b=none
   cases r:g.get? b with
   | none=>rfl
   | some v=>exact(hn (.inr (by simp[r]))).elim
noncomputable def m9(g h:Heap)(L d:Addr):List (Addr × Obj):=(br g h L).filter fun p=>decide (p.1≠d)
theorem uq{g h:Heap}{L:Addr}:News g L h (br g h L):=fun p hp=>let ⟨a,b,c⟩:=cB hp;⟨c,a,b⟩
structure Mod(K:Iy)(mg:Str→Option Value)(base:Heap):Prop where
 kin:K.In base
 glob:base.Ns mainGlobals mg
 blt:∃ mb,base.Ns builtinsNs mb∧∀ x:Str,x ≠ "__name__" → mb x=bootBuiltins x
 nolimit:base.NoLimit
structure Cx where
 prog:Program
 w:World
 K:Iy
 mg:Str→Option Value
 base:Heap
 A:Around
 N:List Str
 s₀:Shared
 H₀:Hp
 env:Env
 outer:List Env
 stack:List Env
 ex:List Addr
 fn:Str→Bool
 calm:Bool
 pn:List (Addr × Obj)
 xe:Value→Shared→Prop
noncomputable def frs(l:List Env):List Addr:=l.filterMap (·.frame)
noncomputable abbrev Cx.fs(X:Cx):List Addr:=frs X.outer
def Vis(sc:Scope)(x:Str):Prop:=sc.names.lookup x=some .local∨sc.names.lookup x=some .cell∨sc.names.lookup x=some .free
def Loc(sc:Scope)(x:Str):Prop:=sc.names.lookup x=some .local∨sc.names.lookup x=some .cell
def Gu(env:Env)(h:Heap)(m:Str→Option Value)(x:Str)(u:Value):Prop :=
 (env.kindOf x=some .local∧m x=some u)∨((env.kindOf x=some .cell∨env.kindOf x=some .free)∧∃ c,env.cells.lookup x=some c∧h.IsCell c (some u))
structure Cx.Ok(X:Cx):Prop where
 mod:Mod X.K X.mg X.base
 kind:X.env.scope.kind = .function
 glob:X.env.globals=mainGlobals
 blt:X.env.builtins=builtinsNs
 above:X.s₀.heap.objs.size≤X.env.locals
 inj:∀ x y c,X.env.cells.lookup x=some c→X.env.cells.lookup y=some c→x=y
 has:∀ x,(X.env.kindOf x=some .cell∨X.env.kindOf x=some .free)→∃ c,X.env.cells.lookup x=some c
 cab:∀ x c,X.fn x=true→X.env.cells.lookup x=some c→X.s₀.heap.objs.size≤c
 hd:X.calm=true→X.A.handled=none
 frames:X.A.frames=some X.stack
 stk:X.stack=X.outer∨(X.stack=X.env :: X.outer∧X.env.frame=some X.env.locals)
 exf:∀ b∈X.ex,b≠X.env.locals∧∀ x c,X.env.cells.lookup x=some c→c≠b
 bs:∀ b o,X.base.get? b=some o→X.s₀.heap.get? b=some o∧X.H₀ b=none
 bsz:X.base.objs.size≤X.s₀.heap.objs.size
 noex:∀ b o,X.base.get? b=some o→b∉X.ex
 exfs:∀ b∈X.ex,b∉X.fs
 funs:X.s₀.heap.FunFrames X.base X.outer
 frf:∀ b∈X.fs,X.H₀ b=none
structure Inv(X:Cx)(pins:List (Addr × Obj))(σ:List (Option V))(H:Hp)(s:Shared):Prop where
 ok:X.Ok
 os:s.os=X.s₀.os
 bare:AllBare s.gens
 base:Un X.fs X.ex X.H₀ H X.s₀.heap s.heap
 loc:∃ m,s.heap.Ns X.env.locals m∧∀(i:Nat) (x:Str) (v:V),X.N[i]? = some x→σ[i]? = some (some v)→Vis X.env.scope x→∃ u,j6 v u∧Gu X.env s.heap m x u
 cell:∀ x c,X.env.cells.lookup x=some c→∃ v,s.heap.IsCell c v
 free:H X.env.locals=none
 freeC:∀ x c,X.env.cells.lookup x=some c→H c=none
 pin:∀ p∈X.pn++pins,s.heap.get? p.1=some p.2∧H p.1=none∧p.1≠X.env.locals∧p.1∉X.fs∧∀ v,p.2.data ≠ .cell v
 hok:HOk X.prog X.w H s.heap
 len:σ.length=X.N.length
section
variable {X:Cx} {pins:List (Addr × Obj)} {σ:List (Option V)} {H H':Hp} {s:Shared} {h':Heap}
theorem Cx.Ok.nofr(ok:X.Ok){b:Addr}{o:Obj}(e:X.base.get? b=some o):b∉X.fs:=fun hb=>by
 have:=(ok.funs.mem hb).1
 rw[e]at this;cases this
theorem Inv.bs(I:Inv X pins σ H s):∀ b o,X.base.get? b=some o→s.heap.get? b=some o∧H b=none:=fun b o e =>
 ⟨I.base.keep b o (I.ok.bs b o e).1 (I.ok.bs b o e).2 (I.ok.nofr e) (I.ok.noex b o e),I.base.free b o (I.ok.bs b o e).1 (I.ok.bs b o e).2 (I.ok.noex b o e)⟩
theorem Inv.bk(I:Inv X pins σ H s):∀ b o,X.base.get? b=some o→s.heap.get? b=some o:=fun b o e=>(I.bs b o e).1
theorem Inv.mod(I:Inv X pins σ H s):Mod X.K X.mg X.base:=I.ok.mod
theorem Inv.kIn(I:Inv X pins σ H s):X.K.In s.heap:=I.ok.mod.kin.keeps I.bk
theorem Inv.nolimit(I:Inv X pins σ H s):s.heap.NoLimit:=I.ok.mod.nolimit.keeps I.bk
theorem Inv.fr(I:Inv X pins σ H s):∃ m,Fr X.base X.env.locals s.heap m :=
 let ⟨m,hn,_⟩:=I.loc
 ⟨m,hn,I.bk,IT I.ok.bsz I.ok.above⟩
theorem Inv.lt(I:Inv X pins σ H s):X.env.locals<s.heap.objs.size:=let ⟨_,hn,_⟩:=I.loc;hn.lt
theorem Inv.sz(I:Inv X pins σ H s):X.s₀.heap.objs.size≤s.heap.objs.size:=IT I.ok.above (LR I.lt)
theorem Inv.nofs(I:Inv X pins σ H s){a:Addr}(h:s.heap.objs.size≤a):a∉X.fs:=fun hb=>by
 obtain⟨_,o,ho,_⟩:=I.ok.funs.mem hb
 exact absurd (IF (II ho) (IT I.sz h)) (JZ _)
theorem Inv.cne(I:Inv X pins σ H s):∀ x c,X.env.cells.lookup x=some c→c≠X.env.locals:=fun x c e z=>by
 obtain⟨v,o,ho,hd⟩:=I.cell x c e
 obtain⟨m,⟨o',es,ep,ho',hd',_⟩,_⟩:=I.loc
 rw[z,ho']at ho;cases ho;rw[hd']at hd;cases hd
theorem Inv.funs(I:Inv X pins σ H s):s.heap.FunFrames X.base X.outer:=by
 have all:∀(l:List Env),(∀ b∈frs l,b∈X.fs)→X.s₀.heap.FunFrames X.base l→s.heap.FunFrames X.base l:=by
  intro l
  induction l with
  | nil=>intro _ _;trivial
  | cons env r ih =>
   intro hs hl
   obtain⟨hk,⟨L,o,hf,hn,ho,hd⟩,hr⟩:=hl
   have hL:L∈X.fs:=hs L (by unfold frs;rw[Lg,hf];exact IG)
   obtain⟨sl,e⟩:=I.base.slot L o ho (I.ok.frf L hL) hL fun z=>I.ok.exfs L z hL
   exact⟨hk,⟨L,_,hf,hn,e,hd⟩,ih (fun b hb=>hs b (by unfold frs;rw[Lg,hf];exact IC _ hb)) hr⟩
 exact all X.outer (fun _ hb=>hb) I.ok.funs
theorem Inv.stack(I:Inv X pins σ H s):s.heap.FunFrames X.base X.stack:=by
 rcases I.ok.stk with e|⟨e,hf⟩
 ·rw[e];exact I.funs
 ·rw[e]
  obtain⟨m,hn,_⟩:=I.loc
  refine .cons (by rw[I.ok.kind];decide) hf hn ?_ I.funs
  exact Heap.get?_none_of_le (IT I.ok.bsz I.ok.above)
theorem Inv.stkSub(I:Inv X pins σ H s):∀ b∈frs X.stack,b∈X.env.locals :: X.fs:=fun b hb=>by
 rcases I.ok.stk with e|⟨e,hf⟩
 ·rw[e]at hb;exact IC _ hb
 ·rw[e]at hb
  unfold frs at hb
  rw[Lg,hf]at hb
  exact hb
theorem Inv.stkFree(I:Inv X pins σ H s):∀ b∈frs X.stack,H b=none:=fun b hb=>by
 rcases IE.mp (I.stkSub b hb)with e|hb
 ·rw[e];exact I.free
 ·obtain⟨_,o,ho,_⟩:=I.ok.funs.mem hb
  exact I.base.free b o ho (I.ok.frf b hb) fun z=>I.ok.exfs b z hb
theorem Inv.step{g':Array GenState}{t':Nat}{d':Drawn}{ch:List Addr}(I:Inv X pins σ H s)
  (hch:∀ b∈ch,(b∈X.ex∨X.s₀.heap.objs.size≤b)∧b≠X.env.locals∧(∀ x c,X.env.cells.lookup x=some c→c≠b)∧∀ p∈X.pn++pins,p.1≠b)
  (keep:∀ b o,b≠X.env.locals→b∉X.fs→b∉ch→s.heap.get? b=some o→H b=none→h'.get? b=some o)
  (slot:∀ b o,b≠X.env.locals→b∈X.fs→b∉ch→s.heap.get? b=some o→H b=none→∃ sl,h'.get? b=some { o with slots:=sl }) (free:∀ b o,b∉ch→s.heap.get? b=some o→H b=none→H' b=none)
  (there:∀ b o,b∉ch→s.heap.get? b=some o→∃ o',h'.get? b=some o')
  (tups:∀ b xs,H b=some (.tup xs)→H' b=some (.tup xs)) (frzs:∀ b o u,H b=some (.frz o u)→H' b=some (.frz o u)) (tbls:∀ b ps,H b=some (.tbl ps)→∃ more,H' b=some (.tbl (ps++more)))
  (ns:∀ m,s.heap.Ns X.env.locals m→h'.Ns X.env.locals m) (hok:HOk X.prog X.w H' h') (hg:AllBare g') :
  Inv X pins σ H' { s with heap:=h',gens:=g',drawn:=d',toks:=t' }:=by
 have neL:∀ b o,X.s₀.heap.get? b=some o→b≠X.env.locals:=fun b o e=>Jk (IF (II e) I.ok.above)
 have neC:∀ b o,X.s₀.heap.get? b=some o→b∉X.ex→b∉ch:=fun b o e hx hb=>by
  rcases(hch b hb).1 with z|z
  ·exact hx z
  ·exact absurd (IF (II e) z) (JZ _)
 have cellK:∀ x c,X.env.cells.lookup x=some c→∀ v,s.heap.IsCell c v→h'.IsCell c v:=fun x c e v zz=>by
  obtain⟨o,ho,hd⟩:=zz
  have nch:c∉ch:=fun z=>(hch c z).2.2.1 x c e rfl
  by_cases hc:c∈X.fs
  ·obtain⟨sl,q⟩:=slot c o (I.cne x c e) hc nch ho (I.freeC x c e)
   exact⟨_,q,hd⟩
  ·exact⟨o,keep c o (I.cne x c e) hc nch ho (I.freeC x c e),hd⟩
 refine⟨I.ok,I.os,hg,⟨fun b o e n hb hx=>?_,fun b o e n hb hx=>?_,fun b o e n hx=>?_,fun b o e hx=>?_,fun b xs e=>tups b xs (I.base.tups b xs e),fun b o xs e=>frzs b o xs (I.base.frzs b o xs e),fun b ps e=>?_⟩,?_,fun x c e=>?_,?_,fun x c e=>?_,fun p hp=>?_,hok,I.len⟩
 ·exact keep b o (neL b o e) hb (neC b o e hx) (I.base.keep b o e n hb hx) (I.base.free b o e n hx)
 ·obtain⟨sl,e1⟩:=I.base.slot b o e n hb hx
  obtain⟨sl',e2⟩:=slot b _ (neL b o e) hb (neC b o e hx) e1 (I.base.free b o e n hx)
  exact⟨sl',e2⟩
 ·obtain⟨o',e1⟩:=I.base.there b o e hx
  exact free b o' (neC b o e hx) e1 (I.base.free b o e n hx)
 ·obtain⟨o',e1⟩:=I.base.there b o e hx
  exact there b o' (neC b o e hx) e1
 ·obtain⟨m1,e1⟩:=I.base.tbls b ps e
  obtain⟨m2,e2⟩:=tbls b _ e1
  exact⟨m1++m2,by rw[e2,Array.append_assoc]⟩
 ·obtain⟨m,hn,hl⟩:=I.loc
  refine⟨m,ns m hn,fun i x v e1 e2 e3=>?_⟩
  obtain⟨u,r,l⟩:=hl i x v e1 e2 e3
  refine⟨u,r,?_⟩
  rcases l with l|⟨k,c,e,z⟩
  ·exact .inl l
  ·exact .inr ⟨k,c,e,cellK x c e _ z⟩
 ·obtain⟨v,z⟩:=I.cell x c e
  exact⟨v,cellK x c e v z⟩
 ·obtain⟨m,⟨o,_,_,ho,_⟩,_⟩:=I.loc
  exact free _ o (fun z=>(hch _ z).2.1 rfl) ho I.free
 ·obtain⟨v,o,ho,hd⟩:=I.cell x c e
  exact free c o (fun z=>(hch c z).2.2.1 x c e rfl) ho (I.freeC x c e)
 ·obtain⟨e,n,ne,nf,d⟩:=I.pin p hp
  have nch:p.1∉ch:=fun z=>(hch p.1 z).2.2.2 p hp rfl
  exact⟨keep p.1 p.2 ne nf nch e n,free p.1 p.2 nch e n,ne,nf,d⟩
theorem Inv.un{t':Nat}(I:Inv X pins σ H s)(u:Un X.fs [] H H' s.heap h')(hok:HOk X.prog X.w H' h'):Inv X pins σ H' { s with heap:=h',toks:=t' }:=by
 obtain⟨m,⟨o,es,ep,ho,r⟩,_⟩:=id I.loc
 obtain⟨sl,hL⟩:=u.any ho I.free (by simp)
 exact I.step (g':=s.gens) (d':=s.drawn) (ch:=[]) (fun _ z=>nomatch z) (fun b o _ hb _ e n=>u.keep b o e n hb (by simp)) (fun b o _ hb _ e n=>u.slot b o e n hb (by simp)) (fun b o _ e n=>u.free b o e n (by simp)) (fun b o _ e=>u.there b o e (by simp)) u.tups u.frzs u.tbls (fun m' hm=>by
  obtain⟨o',es',ep',ho',r'⟩:=hm
  rw[ho]at ho';cases ho'
  exact⟨_,es',ep',hL,r'⟩) hok I.bare
theorem Inv.call{g':Array GenState}{t':Nat}{d':Drawn}{ch:List Addr}(I:Inv X pins σ H s)(u:Un (frs X.stack) ch H H' s.heap h')(hok:HOk X.prog X.w H' h')(hg:AllBare g')
  (hch:∀ b∈ch,(b∈X.ex∨X.s₀.heap.objs.size≤b)∧b≠X.env.locals∧(∀ x c,X.env.cells.lookup x=some c→c≠b)∧∀ p∈X.pn++pins,p.1≠b) :
  Inv X pins σ H' { s with heap:=h',gens:=g',drawn:=d',toks:=t' }:=by
 obtain⟨m,⟨o,es,ep,ho,r⟩,_⟩:=id I.loc
 obtain⟨sl,hL⟩:=u.any ho I.free fun z=>(hch _ z).2.1 rfl
 exact I.step (ch:=ch) hch (fun b o hL hb hc e n=>u.keep b o e n (fun z=>(IE.mp (I.stkSub b z)).elim hL hb) hc) (fun b o _ _ hc e n=>u.any e n hc) (fun b o hc e n=>u.free b o e n hc) (fun b o hc e=>u.there b o e hc) u.tups u.frzs u.tbls (fun m' hm=>by
  obtain⟨o',es',ep',ho',r'⟩:=hm
  rw[ho]at ho';cases ho'
  exact⟨_,es',ep',hL,r'⟩) hok hg
theorem Inv.turned{t':Nat}{it:Addr}(I:Inv X pins σ H s)(k:∀ b o,b≠it→s.heap.get? b=some o→h'.get? b=some o)(hn:H it=none)(hL:it≠X.env.locals)
  (h1:it∈X.ex∨X.s₀.heap.objs.size≤it) (h2:∀ x c,X.env.cells.lookup x=some c→c≠it) (h3:∀ p∈X.pn++pins,p.1≠it):Inv X pins σ H { s with heap:=h',toks:=t' }:=by
 have nit:∀ b u,H b=some u→b≠it:=fun b u e z=>by rw[z,hn]at e;cases e
 refine I.step (g':=s.gens) (d':=s.drawn) (ch:=[it]) (fun b hb=>?_) (fun b o _ _ hc e _=>k b o (fun z=>hc (by simp[z])) e) (fun b o _ _ hc e _=>⟨o.slots,k b o (fun z=>hc (by simp[z])) e⟩) (fun _ _ _ _ n=>n)
  (fun b o hc e=>⟨o,k b o (fun z=>hc (by simp[z])) e⟩) (fun _ _ e=>e) (fun _ _ _ e=>e) (fun b ps e=>⟨#[],by rw[e];simp⟩) (fun m hm=>?_) (fun b u e=>?_) I.bare
 ·have e:b=it:=by simpa using hb
  subst e
  exact⟨h1,hL,h2,h3⟩
 ·obtain⟨o,es,ep,ho,r⟩:=hm
  exact⟨o,es,ep,k _ o (Ne.symm hL) ho,r⟩
 ·refine(I.hok b u e).stay (fun c v hc q=>k c v ?_ q) (fun _ q=>q) fun _ _ q=>q
  rcases hc with z|z
  ·rw[z];exact nit b u e
  ·exact nit c _ z
theorem Inv.tok(I:Inv X pins σ H s)(t:Nat):Inv X pins σ H { s with toks:=t }:=I.un (h':=s.heap) (t':=t) Un.refl I.hok
theorem Inv.kept{t':Nat}(I:Inv X pins σ H s)(k:∀ b u,s.heap.get? b=some u→h'.get? b=some u):Inv X pins σ H { s with heap:=h',toks:=t' }:=I.un (Un.kept k) (I.hok.kept k)
theorem Inv.laid{a:Addr}{o:HO}{t':Nat}(I:Inv X pins σ H s)(k:∀ b u,s.heap.get? b=some u→h'.get? b=some u)(hp:s.heap.objs.size≤a)(new:v8 X.prog X.w (upd H a o) h' a o) :
  Inv X pins σ (upd H a o) { s with heap:=h',toks:=t' }:=I.un (Un.laid k hp (I.hok.fresh hp)) (I.hok.laid k hp new)
theorem Inv.write{x e:Addr}{o:HO}{t':Nat}(I:Inv X pins σ H s)(mu:Mut (H x))(he:e=x∨H e=some (.own x))(k:∀ b u,b≠e→s.heap.get? b=some u→h'.get? b=some u)(heo:∃ u,h'.get? e=some u)
  (new:v8 X.prog X.w (upd H x o) h' x o):Inv X pins σ (upd H x o) { s with heap:=h',toks:=t' }:=I.un (Un.write mu he k heo) (I.hok.write mu he k heo new)
theorem Inv.pins_of{pins':List (Addr × Obj)}(I:Inv X pins σ H s)(h:∀ p∈pins',s.heap.get? p.1=some p.2∧H p.1=none∧p.1≠X.env.locals∧p.1∉X.fs∧∀ v,p.2.data ≠ .cell v):Inv X pins' σ H s :=
 ⟨I.ok,I.os,I.bare,I.base,I.loc,I.cell,I.free,I.freeC,fun p hp=>(Jc.mp hp).elim (fun z=>I.pin p (JM _ z)) (h p),I.hok,I.len⟩
theorem jQ{N:List Str}(hN:N.Nodup){i j:Nat}{x:Str}(a:N[i]? = some x)(b:N[j]? = some x):i=j:=by
 obtain⟨h1,e1⟩:=Jd.mp a
 obtain⟨h2,e2⟩:=Jd.mp b
 exact(MQ hN).mp (e1.trans e2.symm)
theorem eC{M:Model}{A:Around}{E:Value→Shared→Prop}{i:Nat}{x:Str}{v:V}{u:Value}{Q:Unit→Shared→Prop}(I:Inv X pins σ H s)(hN:X.N.Nodup)(hi:X.N[i]? = some x)(hx:Loc X.env.scope x)(r:j6 v u)
  (h:∀ s',Inv X pins (σ.set i (some v)) H s'→(∃ a,Heap.SameBut a s.heap s'.heap∧(a=X.env.locals∨X.env.cells.lookup x=some a))→Q () s') (hf:X.fn x=true∨X.env.scope.names.lookup x=some .local:=by first|exact .inl rfl|exact .inr rfl|assumption):wpAny M A (storeName X.env x u) Q E s:=by
 obtain⟨m,hn,hl⟩:=id I.loc
 have hcls:(X.env.scope.kind == .class || (X.env.scope.kind == .module && X.env.locals != X.env.globals))=false:=by rw[I.ok.kind];rfl
 have hiσ:i<σ.length:=by rw[I.len];exact(Jd.mp hi).1
 have cne:=I.cne
 have tracked:∀{a:Addr} {h':Heap},(∃ o,s.heap.get? a=some o∧H a=none)→Heap.SameBut a s.heap h'→HOk X.prog X.w H h':=fun{a h'} ha hs b ob e=>by
  obtain⟨_,_,hfree⟩:=ha
  refine(I.hok b ob e).stay (fun c w' hc q=>(hs.2 c ?_).trans q) (fun _ q=>q) fun _ _ q=>q
  rintro rfl
  rcases hc with rfl|hc
  ·rw[hfree]at e;cases e
  ·rw[hfree]at hc;cases hc
 rcases hx with hk|hk
 ·refine wpAny_storeName_local hk hn (fun h' hn' hs=>?_) hcls
  obtain⟨oL,_,_,hoL,_⟩:=id hn
  refine h _ ⟨I.ok,I.os,I.bare,⟨fun b o e n hb hx=>?_,fun b o e n hb hx=>?_,I.base.free,fun b o e hx=>?_,I.base.tups,I.base.frzs,I.base.tbls⟩,⟨_,hn',fun j y v' e1 e2 e3=>?_⟩,fun y c e=>?_,I.free,I.freeC,fun p hp=>?_,tracked ⟨oL,hoL,I.free⟩ hs,by simpa using I.len⟩ ⟨_,hs,.inl rfl⟩
  ·exact(hs.2 b (Jk (IF (II e) I.ok.above))).trans (I.base.keep b o e n hb hx)
  ·obtain⟨sl,e1⟩:=I.base.slot b o e n hb hx
   exact⟨sl,(hs.2 b (Jk (IF (II e) I.ok.above))).trans e1⟩
  ·obtain⟨o',e1⟩:=I.base.there b o e hx
   exact⟨o',(hs.2 b (Jk (IF (II e) I.ok.above))).trans e1⟩
  ·by_cases hj:j=i
   ·subst hj
    rw[hi]at e1;cases e1
    rw[LL hiσ]at e2
    cases e2
    exact⟨u,r,.inl ⟨hk,by simp⟩⟩
   ·rw[Mj (Ne.symm hj)]at e2
    obtain⟨u',r',q⟩:=hl j y v' e1 e2 e3
    refine⟨u',r',?_⟩
    rcases q with⟨k,e⟩|⟨k,c,e,z⟩
    ·refine .inl ⟨k,?_⟩
     have:y≠x:=fun e=>hj (jQ hN e1 (e▸hi))
     simp[this,e]
    ·exact .inr ⟨k,c,e,z.sameBut hs (cne y c e)⟩
  ·obtain⟨w',z⟩:=I.cell y c e
   exact⟨w',z.sameBut hs (cne y c e)⟩
  ·obtain⟨e,n,ne,nf,d⟩:=I.pin p hp
   exact⟨(hs.2 p.1 ne).trans e,n,ne,nf,d⟩
 ·have hfn:X.fn x=true:=by
   rcases hf with z|z
   ·exact z
   ·rw[z]at hk;cases hk
  obtain⟨c,hc⟩:=I.ok.has x (.inl hk)
  obtain⟨w',z⟩:=I.cell x c hc
  refine wpAny_storeName_cell I.ok.kind hk hc z (fun h' hc' hs=>?_)
  obtain⟨oc,hoc,hocd⟩:=id z
  refine h { s with heap:=h' } ⟨I.ok,I.os,I.bare,⟨fun b o e n hb hx=>?_,fun b o e n hb hx=>?_,I.base.free,fun b o e hx=>?_,I.base.tups,I.base.frzs,I.base.tbls⟩,⟨m,hn.sameBut hs (Ne.symm (cne x c hc)),fun j y v' e1 e2 e3=>?_⟩,fun y c' e=>?_,I.free,I.freeC,fun p hp=>?_,tracked ⟨oc,hoc,I.freeC x c hc⟩ hs,by simpa using I.len⟩ ⟨c,hs,.inr hc⟩
  ·exact(hs.2 b (Jk (IF (II e) (I.ok.cab x c hfn hc)))).trans (I.base.keep b o e n hb hx)
  ·obtain⟨sl,e1⟩:=I.base.slot b o e n hb hx
   exact⟨sl,(hs.2 b (Jk (IF (II e) (I.ok.cab x c hfn hc)))).trans e1⟩
  ·obtain⟨o',e1⟩:=I.base.there b o e hx
   exact⟨o',(hs.2 b (Jk (IF (II e) (I.ok.cab x c hfn hc)))).trans e1⟩
  ·by_cases hj:j=i
   ·subst hj
    rw[hi]at e1;cases e1
    rw[LL hiσ]at e2
    cases e2
    exact⟨u,r,.inr ⟨.inl hk,c,hc,hc'⟩⟩
   ·rw[Mj (Ne.symm hj)]at e2
    obtain⟨u',r',q⟩:=hl j y v' e1 e2 e3
    refine⟨u',r',?_⟩
    rcases q with q|⟨k,c',e,z'⟩
    ·exact .inl q
    ·refine .inr ⟨k,c',e,z'.sameBut hs ?_⟩
     rintro rfl
     exact hj (jQ hN e1 (I.ok.inj _ _ _ e hc▸hi))
  ·by_cases hcc:c'=c
   ·subst hcc;exact⟨_,hc'⟩
   ·obtain⟨w2,z2⟩:=I.cell y c' e
    exact⟨w2,z2.sameBut hs hcc⟩
  ·obtain⟨e,n,ne,nf,d⟩:=I.pin p hp
   refine⟨(hs.2 p.1 ?_).trans e,n,ne,nf,d⟩
   intro q
   rw[q,hoc]at e
   have q':oc=p.2:=Option.some.inj e
   exact d w' (by rw[← q'];exact hocd)
theorem S9{M:Model}{A:Around}{E:Value→Shared→Prop}{i:Nat}{x:Str}{v:V}{u:Value}{Q:Unit→Shared→Prop}(I:Inv X pins σ H s)(hN:X.N.Nodup)(hi:X.N[i]? = some x)(hx:Loc X.env.scope x)(r:j6 v u)
  (h:∀ s',Inv X pins (σ.set i (some v)) H s'→Q () s') (hf:X.fn x=true∨X.env.scope.names.lookup x=some .local:=by first|exact .inl rfl|exact .inr rfl|assumption):wpAny M A (storeName X.env x u) Q E s :=
 eC I hN hi hx r (fun s' I' _=>h s' I') hf
theorem Inv.call'{s':Shared}{ch:List Addr}(I:Inv X pins σ H s)(ho:s'.os=s.os)(u:Un (frs X.stack) ch H H' s.heap s'.heap)(hok:HOk X.prog X.w H' s'.heap)(hg:AllBare s'.gens)
  (hch:∀ b∈ch,(b∈X.ex∨X.s₀.heap.objs.size≤b)∧b≠X.env.locals∧(∀ x c,X.env.cells.lookup x=some c→c≠b)∧∀ p∈X.pn++pins,p.1≠b):Inv X pins σ H' s':=by
 obtain⟨h',g',d',t',o'⟩:=s'
 have e:o'=s.os:=ho
 subst e
 exact I.call (g':=g') (t':=t') (d':=d') u hok hg hch
end
noncomputable abbrev XK:=Value→Option Addr→Hp→Prop
noncomputable abbrev St:=List (Option V)
noncomputable abbrev VK:=V→Hp→Prop
noncomputable abbrev TE:=St→Hp→VK→Prop
noncomputable abbrev TT:=St→Hp→(Bool→Hp→Prop)→Prop
noncomputable abbrev TA:=St→Hp→(List V→Hp→Prop)→Prop
structure kH where
 nx:St→Hp→Prop
 rt:VK
 bk:St→Hp→Prop:=fun _ _=>False
 ct:St→Hp→Prop:=fun _ _=>False
noncomputable abbrev TS:=kH→St→Hp→Prop
def EP(X:Cx)(pins:List (Addr × Obj))(σ:St)(Q:VK)(u:Value)(s':Shared):Prop:=∃ v H',Inv X pins σ H' s'∧j6 v u∧Q v H'
def TP(X:Cx)(pins:List (Addr × Obj))(σ:St)(Q:Bool→Hp→Prop)(b:Bool)(s':Shared):Prop:=∃ H',Inv X pins σ H' s'∧Q b H'
def AP(X:Cx)(pins:List (Addr × Obj))(σ:St)(Q:List V→Hp→Prop)(us:List Value)(s':Shared):Prop:=∃ vs H',Inv X pins σ H' s'∧i5 vs us∧Q vs H'
def SP(X:Cx)(pins:List (Addr × Obj))(D:kH)(f:Flow)(s':Shared):Prop :=
 match f with
 | .next=>∃ σ' H',Inv X pins σ' H' s'∧D.nx σ' H'
 | .brk=>∃ σ' H',Inv X pins σ' H' s'∧D.bk σ' H'
 | .cont=>∃ σ' H',Inv X pins σ' H' s'∧D.ct σ' H'
 | .ret u=>∃ v σ' H',Inv X pins σ' H' s'∧j6 v u∧D.rt v H'
def PE(X:Cx)(e:Expr)(t:TE):Prop :=
 ∀(pins:List (Addr × Obj)) (s:Shared) (σ:St) (H:Hp) (Q:VK),Inv X pins σ H s→t σ H Q→wpAny (model X.prog X.w) X.A (eval e X.env) (EP X pins σ Q) X.xe s
def PT(X:Cx)(e:Expr)(t:TT):Prop :=
 ∀(pins:List (Addr × Obj)) (s:Shared) (σ:St) (H:Hp) (Q:Bool→Hp→Prop),Inv X pins σ H s→t σ H Q→wpAny (model X.prog X.w) X.A (isTrue e X.env (eval e X.env)) (TP X pins σ Q) X.xe s
def PW(X:Cx)(e:Expr)(t:TT):Prop :=
 ∀(whole:Sem Value) (pins:List (Addr × Obj)) (s:Shared) (σ:St) (H:Hp) (Q:Bool→Hp→Prop),Inv X pins σ H s→t σ H Q→wpAny (model X.prog X.w) X.A (isTrue e X.env whole) (TP X pins σ Q) X.xe s
theorem PW.pt{X:Cx}{e:Expr}{t:TT}(h:PW X e t):PT X e t:=h _
def PA(X:Cx)(es:List Expr)(t:TA):Prop :=
 ∀(pos:Pos) (pins:List (Addr × Obj)) (s:Shared) (σ:St) (H:Hp) (Q:List V→Hp→Prop),Inv X pins σ H s→t σ H Q→wpAny (model X.prog X.w) X.A (spliced (backTo pos (starEach es X.env))) (AP X pins σ Q) X.xe s
def PS(X:Cx)(st:Stmt)(t:TS):Prop :=
 ∀(pins:List (Addr × Obj)) (s:Shared) (σ:St) (H:Hp) (D:kH),Inv X pins σ H s→t D σ H→wpAny (model X.prog X.w) X.A (exec st X.env) (SP X pins D) X.xe s
def PSs(X:Cx)(st:List Stmt)(t:TS):Prop :=
 ∀(pins:List (Addr × Obj)) (s:Shared) (σ:St) (H:Hp) (D:kH),Inv X pins σ H s→t D σ H→wpAny (model X.prog X.w) X.A (execs st X.env) (SP X pins D) X.xe s
theorem thn{α:Type}{t:Sem α}{Q Q':α→Shared→Prop}{M:Model}{A:Around}{E:Value→Shared→Prop}{s:Shared}(h:wpAny M A t Q E s)(hQ:∀ a s,Q a s→Q' a s):wpAny M A t Q' E s:=wpAny_mono h hQ fun _ _ x=>x
section
variable {X:Cx}
def DT(i:Nat):TE:=fun σ H Q=>∃ v,σ[i]? = some (some v)∧Q v H
def tC(v:V):TE:=fun _ H Q=>Q v H
theorem tR{i:Nat}{x:Str}{pos:Pos}(hN:X.N[i]? = some x)(hv:Vis X.env.scope x)(hd:(x == ("__debug__" : Str))=false:=by decide)(hcd:(x == ("__classdict__" : Str))=false:=by decide):PE X (.Name x pos) (DT i):=by
 intro pins s σ H Q I h
 obtain⟨v,e,h⟩:=h
 obtain⟨m,hn,hl⟩:=I.loc
 obtain⟨u,r,l⟩:=hl i x v hN e hv
 have fin:EP X pins σ Q u s:=⟨v,H,I,r,h⟩
 rcases l with⟨hk,hm⟩|⟨hk,c,hc,hcell⟩
 ·exact wpAny_Name (wpAny_loadName_local I.ok.kind hk hn hm fin) hd
 ·rcases hk with hk|hk
  ·exact wpAny_Name (wpAny_loadName_cell I.ok.kind hk hc hcell fin) hd
  ·exact wpAny_Name (wpAny_loadName_free I.ok.kind hk hc hcell fin hcd) hd
theorem BN{i j pos}:PE X (.Constant (.int i) j pos) (tC (.int i)):=fun _ _ _ H _ I h=>wpAny_Constant_int ⟨.int i,H,I.tok _,⟨_,rfl⟩,h⟩
theorem Eo{b j pos}:PE X (.Constant (.bool b) j pos) (tC (.bl b)):=fun _ _ _ H _ I h=>Constant_bool ⟨.bl b,H,I,rfl,h⟩
theorem BM{j pos}:PE X (.Constant .none j pos) (tC .non):=fun _ _ _ H _ I h=>Constant_none ⟨.non,H,I,rfl,h⟩
theorem BJ{x j pos}:PE X (.Constant (.str x) j pos) (tC (.str x)):=fun _ _ _ H _ I h=>Calls.Constant_str ⟨.str x,H,I.tok _,⟨_,rfl⟩,h⟩
def Gl(X:Cx)(x:Str):Prop:=X.env.kindOf x=some .globalImplicit
theorem oo{E:Value→Shared→Prop}{pins:List (Addr × Obj)}{s:Shared}{σ:St}{H:Hp}{x:Str}{u:Value}{pos:Pos}{Q:Value→Shared→Prop}(I:Inv X pins σ H s)(hg:Gl X x)(hm:X.mg x=some u)(h:Q u s)
  (hd:(x == ("__debug__" : Str))=false:=by decide):wpAny (model X.prog X.w) X.A (eval (.Name x pos) X.env) Q E s :=
 Calls.Name_function_global I.ok.kind hg (Calls.loadGlobal_global (by rw[I.ok.glob];exact I.mod.glob.keeps I.bk) hm h) hd
theorem Z2{E:Value→Shared→Prop}{pins:List (Addr × Obj)}{s:Shared}{σ:St}{H:Hp}{x:Str}{u:Value}{pos:Pos}{Q:Value→Shared→Prop}(I:Inv X pins σ H s)(hg:Gl X x)(hm:X.mg x=none)(hv:bootBuiltins x=some u)(h:Q u s)
  (hn:x ≠ "__name__" := by decide) (hd:(x == ("__debug__" : Str))=false:=by decide):wpAny (model X.prog X.w) X.A (eval (.Name x pos) X.env) Q E s:=by
 obtain⟨mb,h1,h2⟩:=I.mod.blt
 exact Calls.Name_function_global I.ok.kind hg (Calls.loadGlobal_builtin (by rw[I.ok.glob];exact I.mod.glob.keeps I.bk) hm (by rw[I.ok.blt];exact h1.keeps I.bk) ((h2 x hn).trans hv) h) hd
theorem xU{x:Str}{v:V}{u:Value}{pos:Pos}(hg:Gl X x)(hm:X.mg x=some u)(r:j6 v u)(hd:(x == ("__debug__" : Str))=false:=by decide):PE X (.Name x pos) (tC v) :=
 fun _ _ _ H _ I h=>oo I hg hm ⟨v,H,I,r,h⟩ hd
theorem xY{x:Str}{v:V}{u:Value}{pos:Pos}(hg:Gl X x)(hm:X.mg x=none)(hv:bootBuiltins x=some u)(r:j6 v u)(hn:x ≠ "__name__" := by decide)(hd:(x == ("__debug__" : Str))=false:=by decide):PE X (.Name x pos) (tC v) :=
 fun _ _ _ H _ I h=>Z2 I hg hm hv ⟨v,H,I,r,h⟩ hn hd
variable {a b:Expr} {ta tb:TE} {pos:Pos}
theorem j6.none_iff{x:V}{v:Value}(r:j6 x v):(v == Value.none)=decide (x = .non):=by
 cases x with
 | non=>cases r;rfl
 | bl _=>cases r;rfl
 | int _=>obtain⟨t,rfl⟩:=r;rfl
 | str _=>obtain⟨t,rfl⟩:=r;rfl
 | byt _=>obtain⟨t,rfl⟩:=r;rfl
 | flt _=>obtain⟨t,rfl⟩:=r;rfl
 | ref _=>cases r;rfl
 | ty _=>cases r;rfl
def tB(t:TE):TT:=fun σ H Q=>t σ H fun x H1=>∃ c,x = .bl c∧Q c H1
theorem Bx{e:Expr}{t:TE}(h:PE X e t)(he:∀ whole,isTrue e X.env whole=(do let v ← whole;standAt e.pos;holding [v] (truthy v)):=by intro _;rfl):PT X e (tB t):=by
 intro pins s σ H Q I hw
 refine isTrue_plain (thn (h pins s σ H _ I hw) fun v s1 ⟨x,H1,I1,r1,q1⟩=>?_) (he _)
 obtain⟨d,rfl,q⟩:=q1
 cases r1
 exact wpAny_truthy_bool ⟨H1,I1,q⟩
variable {tA tB':TT} {m9:List Expr}
def FT(t u:TT):TT:=fun σ H Q=>t σ H fun c H1=>if c=true then u σ H1 Q else Q false H1
def tOr(t u:TT):TT:=fun σ H Q=>t σ H fun c H1=>if c=true then Q true H1 else u σ H1 Q
def FN(t:TT):TT:=fun σ H Q=>t σ H fun c H1=>Q (!c) H1
theorem xF(ha:PT X a tA):PW X (.BoolOp .And [a] pos) tA:=by
 intro wh pins s σ H Q I h
 refine isTrue_and (thn (ha pins s σ H Q I h) fun c s1 e=>?_)
 cases c with
 | true=>exact isTrue_and_nil e
 | false=>exact e
theorem Bu(ha:PT X a tA):PW X (.BoolOp .Or [a] pos) tA:=by
 intro wh pins s σ H Q I h
 refine isTrue_or (thn (ha pins s σ H Q I h) fun c s1 e=>?_)
 cases c with
 | false=>exact isTrue_or_nil e
 | true=>exact e
theorem Bv(ha:PT X a tA)(hb:PW X (.BoolOp .And (b :: m9) pos) tB'):PW X (.BoolOp .And (a :: b :: m9) pos) (FT tA tB'):=by
 intro wh pins s σ H Q I h
 refine isTrue_and (thn (ha pins s σ H _ I h) fun c s1 zz=>?_)
 obtain⟨H1,I1,q1⟩:=zz
 cases c with
 | true=>exact hb wh pins s1 σ H1 Q I1 q1
 | false=>exact⟨H1,I1,q1⟩
theorem Ej(ha:PT X a tA)(hb:PW X (.BoolOp .Or (b :: m9) pos) tB'):PW X (.BoolOp .Or (a :: b :: m9) pos) (tOr tA tB'):=by
 intro wh pins s σ H Q I h
 refine isTrue_or (thn (ha pins s σ H _ I h) fun c s1 zz=>?_)
 obtain⟨H1,I1,q1⟩:=zz
 cases c with
 | true=>exact⟨H1,I1,q1⟩
 | false=>exact hb wh pins s1 σ H1 Q I1 q1
theorem By(ha:PT X a tA):PT X (.UnaryOp .Not a pos) (FN tA):=by
 intro pins s σ H Q I h
 exact isTrue_not (ha pins s σ H (fun c H1=>Q (!c) H1) I h)
def Ed(ta tb:TE):TE:=fun σ H Q=>ta σ H fun x H1=>∃ c,x = .bl c∧if c=true then tb σ H1 Q else Q (.bl false) H1
def DW(ta:TE):TE:=fun σ H Q=>ta σ H fun x H1=>∃ c,x = .bl c∧Q (.bl (!c)) H1
theorem BK{op}{t:TE}(h:PE X a t):PE X (.BoolOp op [a] pos) t:=fun pins s σ H Q I hw=>BoolOp_one (h pins s σ H Q I hw)
theorem BO(ha:PE X a ta)(hb:PE X (.BoolOp .And (b :: m9) pos) tb):PE X (.BoolOp .And (a :: b :: m9) pos) (Ed ta tb):=by
 intro pins s σ H Q I h
 refine BoolOp_and (thn (ha pins s σ H _ I h) fun v s1 zz=>?_)
 obtain⟨x,H1,I1,r1,q1⟩:=zz
 obtain⟨c,rfl,q1⟩:=q1
 cases r1
 refine wpAny_truthy_bool ?_
 cases c with
 | true=>exact hb pins s1 σ H1 Q I1 q1
 | false=>exact⟨.bl false,H1,I1,rfl,q1⟩
theorem BL(ha:PE X a ta):PE X (.UnaryOp .Not a pos) (DW ta):=by
 intro pins s σ H Q I h
 refine UnaryOp_ (thn (ha pins s σ H _ I h) fun v s1 zz=>?_)
 obtain⟨x,H1,I1,r1,q1⟩:=zz
 obtain⟨c,rfl,q1⟩:=q1
 cases r1
 exact not_of (wpAny_truthy_bool ⟨.bl (!c),H1,I1,rfl,q1⟩)
def tIf(t:TT)(ta tb:TE):TE:=fun σ H Q=>t σ H fun c H1=>if c=true then ta σ H1 Q else tb σ H1 Q
theorem tU{c:Expr}(hc:PT X c tA)(ha:PE X a ta)(hb:PE X b tb):PE X (.IfExp c a b pos) (tIf tA ta tb):=by
 intro pins s σ H Q I h
 refine wpAny_IfExp (thn (hc pins s σ H _ I h) fun d s1 zz=>?_)
 obtain⟨H1,I1,q1⟩:=zz
 cases d with
 | true=>exact ha pins s1 σ H1 Q I1 q1
 | false=>exact hb pins s1 σ H1 Q I1 q1
end
def SqL(K:Iy)(H:Hp)(a:Addr)(xs:List V):Prop :=
 Rd H a (.lst xs) ∨
  ∃(o:Obj) (its:Array Value) (n:Nat),K.lookup a=some o∧o.cls = .type "list" ∧ o.dict=none∧o.data = .seq its n∧its.size≤sizeLine∧i5 xs its.toList
def SqT(K:Iy)(H:Hp)(a:Addr)(xs:List V):Prop :=
 Rd H a (.tup xs) ∨
  ∃(o:Obj) (its:Array Value) (n:Nat),K.lookup a=some o∧o.cls = .type "tuple" ∧ o.data = .seq its n∧its.size≤sizeLine∧i5 xs its.toList
noncomputable def Gs:Value→Option V
 | .none=>some .non
 | .bool b=>some (.bl b)
 | .int i _=>some (.int i)
 | .str x _=>some (.str x)
 | .bytes b _=>some (.byt b)
 | .float b _=>some (.flt b)
 | .ref a=>some (.ref a)
 | .type n=>some (.ty n)
 | _=>none
theorem j6.abs{x:V}{u:Value}(r:j6 x u):Gs u=some x:=by
 cases x with
 | non=>cases r;rfl
 | bl _=>cases r;rfl
 | int _=>obtain⟨t,rfl⟩:=r;rfl
 | str _=>obtain⟨t,rfl⟩:=r;rfl
 | byt _=>obtain⟨t,rfl⟩:=r;rfl
 | flt _=>obtain⟨t,rfl⟩:=r;rfl
 | ref _=>cases r;rfl
 | ty _=>cases r;rfl
theorem j6.inj{x y:V}{u:Value}(r:j6 x u)(q:j6 y u):x=y:=Option.some.inj (r.abs.symm.trans q.abs)
theorem i5.inj:∀{xs ys:List V} {us:List Value},i5 xs us→i5 ys us→xs=ys
 | _,_,_,.nil,.nil=>rfl
 | _,_,_,.cons r t,.cons r' t'=>by rw[r.inj r',i5.inj t t']
section
variable {X:Cx} {pins:List (Addr × Obj)} {σ:St} {H:Hp} {s:Shared} {a:Addr} {xs ys:List V}
theorem SqL.of{K:Iy}(h:H a=some (.lst xs)):SqL K H a xs:=.inl (.inl h)
theorem SqT.of{K:Iy}(h:H a=some (.tup xs)):SqT K H a xs:=.inl (.inl h)
theorem Inv.list(I:Inv X pins σ H s)(h:SqL X.K H a xs):∃ its:List Value,i5 xs its∧PlainL s.heap a its.toArray∧xs.length≤sizeLine:=by
 rcases h with h|⟨o,its,n,hk,hc,hd,hs,hz,r⟩
 ·obtain⟨z,its,n,r,e⟩:=h.ok I.hok
  exact⟨its,r,⟨_,n,e,rfl,rfl,rfl⟩,z⟩
 ·refine⟨its.toList,r,⟨o,n,I.kIn a o hk,hc,hd,by simpa using hs⟩,?_⟩
  have e:=r.length
  simp only[Array.length_toList]at e
  omega
theorem Inv.tuple(I:Inv X pins σ H s)(h:SqT X.K H a xs):∃ its:List Value,i5 xs its∧IsTup s.heap a its.toArray∧xs.length≤sizeLine:=by
 rcases h with h|⟨o,its,n,hk,hc,hs,hz,r⟩
 ·obtain⟨z,its,r,p⟩:=h.ok I.hok
  exact⟨its,r,p,z⟩
 ·refine⟨its.toList,r,⟨o,I.kIn a o hk,hc,n,by simpa using hs⟩,?_⟩
  have e:=r.length
  simp only[Array.length_toList]at e
  omega
theorem Inv.list_inj(I:Inv X pins σ H s)(h:SqL X.K H a xs)(h':SqL X.K H a ys):xs=ys:=by
 obtain⟨its,r,⟨o,n,e,_,_,d⟩,_⟩:=I.list h
 obtain⟨its',r',⟨o',n',e',_,_,d'⟩,_⟩:=I.list h'
 rw[e]at e';cases e'
 rw[d]at d'
 injection d' with d1 _
 have:its=its':=by simpa using congrArg Array.toList d1
 subst this
 exact r.inj r'
theorem Inv.tuple_inj(I:Inv X pins σ H s)(h:SqT X.K H a xs)(h':SqT X.K H a ys):xs=ys:=by
 obtain⟨its,r,⟨o,e,_,n,d⟩,_⟩:=I.tuple h
 obtain⟨its',r',⟨o',e',_,n',d'⟩,_⟩:=I.tuple h'
 rw[e]at e';cases e'
 rw[d]at d'
 injection d' with d1 _
 have:its=its':=by simpa using congrArg Array.toList d1
 subst this
 exact r.inj r'
end
noncomputable abbrev Cx.wish(X:Cx)(E:Value→Shared→Prop):Cx:={ X with xe:=E }
noncomputable abbrev Cx.nox(X:Cx):Cx:=X.wish fun _ _=>False
theorem Cx.Ok.wish{X:Cx}(ok:X.Ok)(E:Value→Shared→Prop):(X.wish E).Ok :=
 ⟨ok.mod,ok.kind,ok.glob,ok.blt,ok.above,ok.inj,ok.has,ok.cab,ok.hd,ok.frames,ok.stk,ok.exf,ok.bs,ok.bsz,ok.noex,ok.exfs,ok.funs,ok.frf⟩
theorem Cx.Ok.unwish{X:Cx}{E:Value→Shared→Prop}(ok:(X.wish E).Ok):X.Ok :=
 ⟨ok.mod,ok.kind,ok.glob,ok.blt,ok.above,ok.inj,ok.has,ok.cab,ok.hd,ok.frames,ok.stk,ok.exf,ok.bs,ok.bsz,ok.noex,ok.exfs,ok.funs,ok.frf⟩
section
variable {X:Cx} {pins:List (Addr × Obj)} {σ:St} {H:Hp} {s:Shared} {E:Value→Shared→Prop}
theorem Inv.wish(I:Inv X pins σ H s)(E:Value→Shared→Prop):Inv (X.wish E) pins σ H s:=⟨I.ok.wish E,I.os,I.bare,I.base,I.loc,I.cell,I.free,I.freeC,I.pin,I.hok,I.len⟩
theorem Inv.unwish(I:Inv (X.wish E) pins σ H s):Inv X pins σ H s:=⟨I.ok.unwish,I.os,I.bare,I.base,I.loc,I.cell,I.free,I.freeC,I.pin,I.hok,I.len⟩
theorem SP.unwish{D:kH}{f:Flow}{s':Shared}(h:SP (X.wish E) pins D f s'):SP X pins D f s':=by
 cases f with
 | next=>obtain⟨σ',H',I,q⟩:=h;exact⟨σ',H',I.unwish,q⟩
 | brk=>obtain⟨σ',H',I,q⟩:=h;exact⟨σ',H',I.unwish,q⟩
 | cont=>obtain⟨σ',H',I,q⟩:=h;exact⟨σ',H',I.unwish,q⟩
 | ret u=>obtain⟨v,σ',H',I,r,q⟩:=h;exact⟨v,σ',H',I.unwish,r,q⟩
theorem PE.nox{e:Expr}{t:TE}(h:PE X.nox e t):PE X e t:=fun pins s σ H Q I hw =>
 wpAny_mono (h pins s σ H Q (I.wish _) hw) (fun _ _ ⟨v,H',I',r,q⟩=>⟨v,H',I'.unwish,r,q⟩) fun _ _ z=>False.elim z
theorem PT.nox{e:Expr}{t:TT}(h:PT X.nox e t):PT X e t:=fun pins s σ H Q I hw =>
 wpAny_mono (h pins s σ H Q (I.wish _) hw) (fun _ _ ⟨H',I',q⟩=>⟨H',I'.unwish,q⟩) fun _ _ z=>False.elim z
theorem PSs.nox{st:List Stmt}{t:TS}(h:PSs X.nox st t):PSs X st t:=fun pins s σ H D I hw =>
 wpAny_mono (h pins s σ H D (I.wish _) hw) (fun _ _ q=>q.unwish) fun _ _ z=>False.elim z
end
section
variable {X:Cx} {st:Stmt} {m9:List Stmt} {t u:TS} {e:Expr} {te:TE} {pos:Pos}
def DX:TS:=fun D σ H=>D.nx σ H
def FJ(t u:TS):TS:=fun D σ H=>t { D with nx:=u D } σ H
theorem xI:PSs X [] DX:=fun _ _ σ H _ I h=>wpAny_execs_nil ⟨σ,H,I,h⟩
theorem jD(h1:PS X st t)(h2:PSs X m9 u):PSs X (st :: m9) (FJ t u):=by
 intro pins s σ H D I h
 refine wpAny_execs_cons (thn (h1 pins s σ H { D with nx:=u D } I h) fun f s1 q=>?_)
 cases f with
 | next =>
  obtain⟨σ',H',I',q⟩:=q
  exact h2 pins s1 σ' H' D I' q
 | ret v=>exact q
 | brk=>exact q
 | cont=>exact q
theorem xH(h1:PS X st t):PSs X [st] t:=by
 intro pins s σ H D I h
 refine wpAny_execs_cons (thn (h1 pins s σ H D I h) fun f s1 q=>?_)
 cases f with
 | next=>exact wpAny_execs_nil q
 | ret v=>exact q
 | brk=>exact q
 | cont=>exact q
theorem Inv.quiet{pins:List (Addr × Obj)}{σ:St}{H:Hp}{s:Shared}(I:Inv X pins σ H s):interactive X.env=false:=by simp[interactive,I.ok.kind]
def Ea(te:TE):TS:=fun D σ H=>te σ H fun _ H1=>D.nx σ H1
theorem xK(he:PE X e te)(hs:swapsWith e none pos.line X.env=pure false:=by rfl):PS X (.Expr e pos) (Ea te):=by
 intro pins s σ H D I h
 exact wpAny_Expr_any (thn (he pins s σ H _ I h) fun v s1 ⟨x,H1,I1,r1,q1⟩=>⟨σ,H1,I1,q1⟩) I.quiet hs
def FK(te:TE):TS:=fun D σ H=>te σ H D.rt
theorem BA(he:PE X e te):PS X (.Return (some e) pos) (FK te):=by
 intro pins s σ H D I h
 exact wpAny_Return_some (thn (he pins s σ H _ I h) fun v s1 ⟨x,H1,I1,r1,q1⟩=>⟨x,σ,H1,I1,r1,q1⟩)
def FQ(c:TT)(t u:TS):TS:=fun D σ H=>c σ H fun b H1=>if b=true then t D σ H1 else u D σ H1
theorem Ek{c:Expr}{a b:List Stmt}{tc:TT}(hc:PT X c tc)(ha:PSs X a t)(hb:PSs X b u):PS X (.If c a b pos) (FQ tc t u):=by
 intro pins s σ H D I h
 refine wpAny_If (thn (hc pins s σ H _ I h) fun d s1 zz=>?_)
 obtain⟨H1,I1,q1⟩:=zz
 cases d with
 | true=>exact ha pins s1 σ H1 D I1 q1
 | false=>exact hb pins s1 σ H1 D I1 q1
def Bd:TS:=fun _ _ _=>False
theorem tN:PS X st Bd:=fun _ _ _ _ _ _ h=>h.elim
end
noncomputable abbrev TG:=V→St→Hp→(St→Hp→Prop)→Prop
noncomputable abbrev TGs:=List V→St→Hp→(St→Hp→Prop)→Prop
def PG(X:Cx)(target:Expr)(t:TG):Prop :=
 ∀(pins:List (Addr × Obj)) (s:Shared) (σ:St) (H:Hp) (v:V) (u:Value) (Q:St→Hp→Prop),Inv X pins σ H s→j6 v u→t v σ H Q →
  wpAny (model X.prog X.w) X.A (assign target X.env u) (fun _ s'=>∃ σ' H',Inv X pins σ' H' s'∧Q σ' H') X.xe s
def PGs(X:Cx)(ts:List Expr)(t:TGs):Prop :=
 ∀(pins:List (Addr × Obj)) (s:Shared) (σ:St) (H:Hp) (vs:List V) (us:List Value) (Q:St→Hp→Prop),Inv X pins σ H s→i5 vs us→t vs σ H Q →
  wpAny (model X.prog X.w) X.A (assignInOrder ((assignEach ts X.env).map (·.2)) us) (fun _ s'=>∃ σ' H',Inv X pins σ' H' s'∧Q σ' H') X.xe s
noncomputable abbrev CV:=V→V→V→Hp→(Hp→Prop)→Prop
def FC(X:Cx)(t:CV):Prop :=
 ∀(pins:List (Addr × Obj)) (s:Shared) (σ:St) (H:Hp) (o i v:V) (ov iv u:Value) (Q:Hp→Prop),Inv X pins σ H s→j6 o ov→j6 i iv→j6 v u→t o i v H Q →
  wpAny (model X.prog X.w) X.A (setItem ov iv u) (fun _ s'=>∃ H',Inv X pins σ H' s'∧Q H') X.xe s
section
variable {X:Cx} {pos:Pos}
def uP(i:Nat):TG:=fun v σ H Q=>Q (σ.set i (some v)) H
theorem xT{i:Nat}{x:Str}(hN:X.N.Nodup)(hi:X.N[i]? = some x)(hx:Loc X.env.scope x)(hf:X.fn x=true∨X.env.scope.names.lookup x=some .local:=by first|exact .inl rfl|exact .inr rfl|assumption):PG X (.Name x pos) (uP i):=by
 intro pins s σ H v u Q I r h
 exact wpAny_assign_Name (S9 I hN hi hx r (fun s' I'=>⟨_,H,I',h⟩) hf)
def Gp:TGs:=fun vs σ H Q=>vs=[]∧Q σ H
def EO(t:TG)(u:TGs):TGs:=fun vs σ H Q=>∃ v r,vs=v :: r∧t v σ H fun σ' H'=>u r σ' H' Q
theorem xR:PGs X [] Gp:=by
 intro pins s σ H vs us Q I r h
 obtain⟨e,h⟩:=h
 subst e
 cases r
 exact assignInOrder_nil ⟨σ,H,I,h⟩
theorem tQ{e:Expr}{es:List Expr}{t:TG}{u:TGs}(h1:PG X e t)(h2:PGs X es u)
  (hs:(assignEach (e :: es) X.env).map (·.2)=assign e X.env :: (assignEach es X.env).map (·.2):=by rfl):PGs X (e :: es) (EO t u):=by
 intro pins s σ H vs us Q I r h
 obtain⟨v,vr,e1,h⟩:=h
 subst e1
 cases r with
 | cons r rr =>
  rw[hs]
  refine assignInOrder_cons (thn (h1 pins s σ H _ _ _ I r h) fun _ s1 zz=>?_)
  obtain⟨σ1,H1,I1,q1⟩:=zz
  exact h2 pins s1 σ1 H1 _ _ Q I1 rr q1
def Gk(K:Iy)(n:Nat)(t:TGs):TG:=fun v σ H Q=>∃ a xs,v = .ref a∧SqT K H a xs∧xs.length=n∧t xs σ H Q
theorem BG{es:List Expr}{k:Nat}{t:TGs}{n:Nat}(hc:X.calm=true)(h:PGs X es t)
  (hn:(assignEach es X.env).length=n:=by rfl) (hst:(assignEach es X.env).findIdx? (·.1)=none:=by rfl):PG X (.Tuple es k pos) (Gk X.K n t):=by
 intro pins s σ H v u Q I r hw
 obtain⟨a,xs,e1,hq,hl,hw⟩:=hw
 subst e1
 cases r
 obtain⟨its,rv,ht,hz⟩:=I.tuple hq
 refine assign_Tuple_tuple (I.ok.hd hc) ht (by simp[hn,← hl,rv.length]) hst fun h' hx=>?_
 have I1:Inv X pins σ H { s with heap:=h' }:=I.kept (t':=s.toks) fun b o e=>hx b o (Jk (II e)) e
 exact h pins _ σ H xs _ Q I1 (by simpa using rv) hw
def Gm(to ti:TE)(t:CV):TG:=fun v σ H Q=>to σ H fun o H1=>ti σ H1 fun i H2=>t o i v H2 fun H3=>Q σ H3
theorem BH{o i:Expr}{to ti:TE}{t:CV}(ho:PE X o to)(hi:PE X i ti)(hs:FC X t)
  (ha:∀ v,assign (.Subscript o i pos) X.env v=(do
   let ov ← holding [v] (eval o X.env)
   let iv ← holding [v,ov] (eval i X.env)
   standAt pos
   holding [v,ov,iv] (setItem ov iv v)
   release [v,ov,iv] []):=by intro _;rfl):PG X (.Subscript o i pos) (Gm to ti t):=by
 intro pins s σ H v u Q I r h
 rw[ha]
 refine Iz (wpAny_holding (thn (ho pins s σ H _ I h) fun ov s1 zz=>?_))
 obtain⟨x,H1,I1,r1,q1⟩:=zz
 refine Iz (wpAny_holding (thn (hi pins s1 σ H1 _ I1 q1) fun iv s2 zz=>?_))
 obtain⟨y,H2,I2,r2,q2⟩:=zz
 refine Iz (wpAny_standAt (Iz (wpAny_holding (thn (hs pins s2 σ H2 x y v ov iv u _ I2 r1 r2 r q2) fun _ s3 zz=>?_))))
 obtain⟨H3,I3,q3⟩:=zz
 exact wpAny_release ⟨σ,H3,I3,q3⟩
def Be(te:TE)(g:TG):TS:=fun D σ H=>te σ H fun x H1=>g x σ H1 D.nx
theorem BD{tg e:Expr}{te:TE}{g:TG}(he:PE X e te)(hg:PG X tg g)(hs:swapsWithSole [tg] e pos.line X.env=pure false:=by rfl)(hw:swappedStores [tg] e X.env=pure none:=by rfl)
  (h1:(assignEach [tg] X.env).map (·.2)=[assign tg X.env]:=by rfl):PS X (.Assign [tg] e pos) (Be te g):=by
 intro pins s σ H D I h
 refine wpAny_Assign_stores (thn (he pins s σ H _ I h) fun v s1 ⟨x,H1,I1,r1,q1⟩=>?_) hs hw
 rw[h1]
 exact thn (hg pins s1 σ H1 x v _ I1 r1 q1) fun _ s2 q=>q
theorem Bz{i:Nat}{x:Str}{e:Expr}{te:TE}{pos':Pos}(hN:X.N.Nodup)(hi:X.N[i]? = some x)(hx:Loc X.env.scope x)(he:PE X e te)(hs:swapsWith e (some (.Name x pos')) pos.line X.env=pure false:=by rfl)(hf:X.fn x=true∨X.env.scope.names.lookup x=some .local:=by first|exact .inl rfl|exact .inr rfl|assumption) :
  PS X (.Assign [.Name x pos'] e pos) (Be te (uP i)):=by
 intro pins s σ H D I h
 refine wpAny_Assign_Name (thn (he pins s σ H _ I h) fun v s1 ⟨y,H1,I1,r1,q1⟩=>?_) hs
 exact S9 I1 hN hi hx r1 (fun s2 I2=>⟨_,H1,I2,q1⟩) hf
def FL(i j:Nat)(ta:TA):TS:=fun D σ H=>ta σ H fun vs H1=>∃ v w,vs=[v,w]∧D.nx ((σ.set i (some v)).set j (some w)) H1
theorem BB{i j:Nat}{x y:Str}{a b:Expr}{ta:TA}{px py pt:Pos}{kt k2 pt2}(hc:X.calm=true)(hN:X.N.Nodup)(hi:X.N[i]? = some x)(hj:X.N[j]? = some y)(hij:i≠j)
  (hx:X.env.scope.names.lookup x=some .local) (hy:X.env.scope.names.lookup y=some .local) (ha:PA X [a,b] ta)
  (hw:swappedStores [.Tuple [.Name x px,.Name y py] kt pt] (.Tuple [a,b] k2 pt2) X.env=pure (some [x,y]))
  (hs:swapsWithSole [.Tuple [.Name x px,.Name y py] kt pt] (.Tuple [a,b] k2 pt2) pos.line X.env=pure false:=by rfl) :
  PS X (.Assign [.Tuple [.Name x px,.Name y py] kt pt] (.Tuple [a,b] k2 pt2) pos) (FL i j ta):=by
 intro pins s σ H D I h
 rw[exec_Assign_arm]
 refine Iz (wpAny_standAt ?_)
 rw[hs]
 refine Iz (IM ?_)
 rw[if_neg (by decide)]
 refine Iz (Tuple_ (thn (ha _ pins s σ H _ I h) fun us s1 zz=>?_))
 obtain⟨vs,H1,I1,r1,q1⟩:=zz
 obtain⟨v,w,e1,q1⟩:=q1
 subst e1
 obtain⟨u1,u2,rfl,rv,rw'⟩:∃ u1 u2,us=[u1,u2]∧j6 v u1∧j6 w u2:=by
  cases r1 with
  | cons p q =>
   cases q with
   | cons p' q' =>
    cases q'
    exact⟨_,_,rfl,p,p'⟩
 refine wpAny_newObj_type ?_ (by show 2≤sizeLine;decide)
 have I2:Inv X pins σ H1 { s1 with heap:=s1.heap.push { cls:=.type "tuple",data:=.seq [u1,u2].toArray } }:=I1.kept (t':=s1.toks) fun b o e=>IB _ e
 rw[hw]
 refine Iz (IM ?_)
 show wpAny (model X.prog X.w) X.A (do rule "assign.swapped-stores";let items ← unpackItems (.ref s1.heap.objs.size) 2 none;assignInOrder [fun v=>bindName X.env y v,fun v=>bindName X.env x v] items.reverse;pure Flow.next) _ _ _
 refine Iz (wpAny_rule (Iz (unpackItems_tuple (items:=#[u1,u2]) (I.ok.hd hc) (IsTup.new s1.heap _) fun h' hx'=>?_)))
 have I3:=I2.kept (h':=h') (t':=s1.toks) fun b o e=>hx' b o (Jk (II e)) e
 show wpAny _ _ (assignInOrder [fun v=>bindName X.env y v,fun v=>bindName X.env x v] [u2,u1] >>= fun _=>pure Flow.next) _ _ _
 refine Iz (assignInOrder_cons (wpAny_bindName (S9 I3 hN hj (.inl hy) rw' (fun s2 I4=>?_) (.inr hy))))
 refine assignInOrder_cons (wpAny_bindName (S9 I4 hN hi (.inl hx) rv (fun s3 I5=>assignInOrder_nil (IM ?_)) (.inr hx)))
 rw[List.set_comm _ _ (Ne.symm hij)]at I5
 exact⟨_,H1,I5,q1⟩
end
section
variable {X:Cx} {pos:Pos}
def Bc(c:TT)(tb:TS):TS:=fun D σ H=>∃ W:Nat→St→Hp→Prop,(∃ m,W m σ H)∧∀ m σ H,W m σ H →
 c σ H fun b H1=>if b=true then ∃ N:St→Hp→Prop,(∀ σ' H',N σ' H'→∃ m',m'<m∧W m' σ' H')∧tb { D with nx:=N,ct:=N,bk:=D.nx } σ H1 else D.nx σ H1
theorem tM{c:Expr}{body:List Stmt}{tc:TT}{tb:TS}(hp:PassesOwn (model X.prog X.w) X.A X.env X.xe)(hc:PT X c tc)(hb:PSs X body tb):PS X (.While c body [] pos) (Bc tc tb):=by
 intro pins s σ H D I h
 obtain⟨W,⟨m0,w0⟩,turn⟩:=h
 refine wpAny_While (codeAny_whileLoop (fun n s'=>∃ σ' H',Inv X pins σ' H' s'∧W n σ' H') ?_ m0 ⟨σ,H,I,w0⟩)
 rintro n s1 ⟨σ1,H1,I1,w1⟩
 refine wpAny_passesOwn hp (thn (hc pins s1 σ1 H1 _ I1 (turn n σ1 H1 w1)) fun b s2 zz=>?_)
 obtain⟨H2,I2,q2⟩:=zz
 cases b with
 | true =>
  obtain⟨N,hN,q2⟩:=q2
  rw[if_pos rfl]
  refine wpAny_passesOwn hp (thn (hb pins s2 σ1 H2 _ I2 q2) fun f s3 q3=>?_)
  cases f with
  | next =>
   obtain⟨σ3,H3,I3,n3⟩:=q3
   obtain⟨m',hm,w3⟩:=hN σ3 H3 n3
   exact⟨m',hm,σ3,H3,I3,w3⟩
  | cont =>
   obtain⟨σ3,H3,I3,n3⟩:=q3
   obtain⟨m',hm,w3⟩:=hN σ3 H3 n3
   exact⟨m',hm,σ3,H3,I3,w3⟩
  | brk=>exact q3
  | ret v=>exact q3
 | false =>
  rw[if_neg Je]
  exact wpAny_execs_nil ⟨σ1,H2,I2,q2⟩
end
structure It where
 go:Nat→Hp→Prop
 yld:Nat→Hp→V→Hp→Prop
 stop:Nat→Hp→Prop
def S3(X:Cx)(pins:List (Addr × Obj))(H:Hp)(b:Addr):Prop :=
 H b=none∧b≠X.env.locals∧b∉X.fs∧(b∈X.ex∨X.s₀.heap.objs.size≤b)∧(∀ x c,X.env.cells.lookup x=some c→c≠b)∧∀ p∈X.pn++pins,p.1≠b
theorem Inv.fpOk{X:Cx}{pins:List (Addr × Obj)}{σ:St}{H H':Hp}{s:Shared}{b:Addr}(I:Inv X pins σ H s)(hb:s.heap.objs.size≤b)(hn:H' b=none):S3 X pins H' b:=by
 refine⟨hn,Kh (IF I.lt hb),I.nofs hb,.inr (IT I.sz hb),fun x c e z=>?_,fun p hp z=>?_⟩
 ·obtain⟨v,q⟩:=I.cell x c e
  exact absurd (IF q.lt (by rw[z];exact hb)) (JZ _)
 ·exact absurd (IF (II (I.pin p hp).1) (by rw[z];exact hb)) (JZ _)
structure ml(P:Program)(w:World)(K:Iy)(tg:Expr)(J:It)(fp:List Addr)(it:Addr)(tn:Nat→Heap→Prop):Prop where
 mem:it∈fp
 obj:∀ i h,tn i h→∀ b∈fp,∃ o,h.get? b=some o∧∀ v,o.data ≠ .cell v
 keep:∀ i h h',tn i h→(∀ b∈fp,∀ o,h.get? b=some o→h'.get? b=some o)→tn i h'
 item:∀(X:Cx),X.prog=P→X.w=w→X.K=K→X.calm=true→∀(i:Nat) (pins:List (Addr × Obj)) (s:Shared) (σ:St) (H:Hp) (E:Value→Shared→Prop),Inv X pins σ H s→(∀ b∈fp,S3 X pins H b)→tn i s.heap→J.go i H →
  wpAny (model P w) X.A (pyNext (.ref it)) (fun r s1=>∃ u,r=some u ∧
   wpAny (model P w) X.A (letOwnedTupleGo tg (.ref it) u) (fun _ s2=>∃ x H',Inv X pins σ H' s2∧j6 x u∧J.yld i H x H'∧tn (i+1) s2.heap∧∀ b∈fp,H' b=none) E s1) E s
 done:∀(X:Cx),X.prog=P→X.w=w→X.K=K→X.calm=true→∀(i:Nat) (pins:List (Addr × Obj)) (s:Shared) (σ:St) (H:Hp) (E:Value→Shared→Prop),Inv X pins σ H s→(∀ b∈fp,S3 X pins H b)→tn i s.heap→J.stop i H →
  wpAny (model P w) X.A (pyNext (.ref it)) (fun r s1=>r=none∧Inv X pins σ H s1) E s
 self:∀(A:Around) (i:Nat) (s:Shared) (Q:Value→Shared→Prop) (E:Value→Shared→Prop),tn i s.heap→Q (.ref it) s→wpAny (model P w) A (pyIter (.ref it)) Q E s
noncomputable abbrev TI:=St→Hp→(It→Hp→Prop)→Prop
def PIE(X:Cx)(pins:List (Addr × Obj))(σ:St)(tg:Expr)(R:It→Hp→Prop)(itv:Value)(s2:Shared):Prop :=
 ∃(it:Addr) (fp:List Addr) (tn:Nat→Heap→Prop) (J:It) (H':Hp),itv = .ref it∧Inv X pins σ H' s2∧ml X.prog X.w X.K tg J fp it tn∧tn 0 s2.heap∧(∀ b∈fp,S3 X pins H' b)∧R J H'
def PI(X:Cx)(tg iter:Expr)(wi:TI):Prop :=
 ∀(pins:List (Addr × Obj)) (s:Shared) (σ:St) (H:Hp) (R:It→Hp→Prop),Inv X pins σ H s→wi σ H R →
  wpAny (model X.prog X.w) X.A (eval iter X.env) (fun v s1=>wpAny (model X.prog X.w) X.A (pyIter v) (PIE X pins σ tg R) X.xe s1) X.xe s
theorem uL{M:Model}{A:Around}{E:Value→Shared→Prop}{s:Shared}{tg:Expr}{it:Addr}{u:Value}{o:Obj}{n:String}{vs:Array Value}{Q:Unit→Shared→Prop}(ho:s.heap.get? it=some o)(hc:o.cls = .type n)(hd:o.data = .fields vs)
  (hn:["enumerate","zip","dict_itemiterator","dict_reverseitemiterator","odict_iterator","itertools.zip_longest","itertools.pairwise"].contains n=false) (hQ:Q () s):wpAny M A (letOwnedTupleGo tg (.ref it) u) Q E s:=by
 unfold letOwnedTupleGo
 cases tg<;>first
  | exact IM hQ
  | (cases u<;>first
    | exact IM hQ
    | (refine Iz (wpAny_load ho ?_);rw[hc,hd];show wpAny M A (if (["enumerate","zip","dict_itemiterator","dict_reverseitemiterator","odict_iterator","itertools.zip_longest","itertools.pairwise"].contains n && vs[0]? == some (rawInt _))=true then _ else _) Q E s;rw[if_neg (by intro h;rw[hn,Nh]at h;cases h)];exact IM hQ))
noncomputable def Itl(K:Iy)(a:Addr):It :=
 ⟨fun i H=>∃ xs x,SqL K H a xs∧xs[i]? = some x,fun i H x H'=>H'=H∧∀ xs,SqL K H a xs→xs[i]? = some x,fun i H=>∃ xs,SqL K H a xs∧xs.length≤i⟩
noncomputable def Itt(K:Iy)(a:Addr):It :=
 ⟨fun i H=>∃ xs x,SqT K H a xs∧xs[i]? = some x,fun i H x H'=>H'=H∧∀ xs,SqT K H a xs→xs[i]? = some x,fun i H=>∃ xs,SqT K H a xs∧xs.length≤i⟩
noncomputable def Itr(lo:Int)(n:Nat):It:=⟨fun i _=>i<n,fun i H x H'=>H'=H∧x = .int (lo+i),fun i _=>n≤i⟩
theorem pF{P:Program}{w:World}{K:Iy}{tg:Expr}(a it:Addr):ml P w K tg (Itl K a) [it] it (fun i h=>h.IsListIter it a i) where
 mem:=by simp
 obj:=fun i h st b hb=>by
  have e:b=it:=by simpa using hb
  subst e
  obtain⟨o,e,c,d⟩:=st
  exact⟨o,e,fun v z=>by rw[d]at z;cases z⟩
 keep:=fun i h h' st k=>st.at fun o e=>k it (by simp) o e
 item:=by
  intro X hP hw hK hc i pins s σ H E I hf st hg
  subst hP hw hK
  obtain⟨xs,x,hq,hx⟩:=hg
  obtain⟨its,rv,p,hz⟩:=I.list hq
  obtain⟨u,hu,ru⟩:=rv.get hx
  obtain⟨f0,f1,f2,f3,f4,f5⟩:=hf it (by simp)
  refine wpAny_pyNext_list_item st p.isList (x:=u) (by simpa using hu) fun h' st' sb=>?_
  have I1:Inv X pins σ H { s with heap:=h' }:=I.turned (t':=s.toks) (fun b o hb e=>(sb.2 b hb).trans e) f0 f1 f3 f4 f5
  obtain⟨o,e,c,d⟩:=id st'
  exact⟨u,rfl,uL (s:={ s with heap:=h' }) e c d (by decide) ⟨x,H,I1,ru,⟨rfl,fun ys hy=>by rw[I.list_inj hy hq];exact hx⟩,st',fun b hb=>(hf b hb).1⟩⟩
 done:=by
  intro X hP hw hK hc i pins s σ H E I hf st hg
  subst hP hw hK
  obtain⟨xs,hq,hx⟩:=hg
  obtain⟨its,rv,p,hz⟩:=I.list hq
  obtain⟨f0,f1,f2,f3,f4,f5⟩:=hf it (by simp)
  have hl:=rv.length
  exact wpAny_pyNext_list_end (I.ok.hd hc) st p.isList (by simp;omega) fun h' eb=>⟨rfl,I.turned (t':=s.toks) (fun b o hb e=>eb b o hb e) f0 f1 f3 f4 f5⟩
 self:=fun _ _ _ _ _ st h=>wpAny_pyIter_listiter st h
theorem kL{P:Program}{w:World}{K:Iy}{tg:Expr}(a it:Addr):ml P w K tg (Itt K a) [it] it (fun i h=>h.IsTupleIter it a i) where
 mem:=by simp
 obj:=fun i h st b hb=>by
  have e:b=it:=by simpa using hb
  subst e
  obtain⟨o,e,c,d⟩:=st
  exact⟨o,e,fun v z=>by rw[d]at z;cases z⟩
 keep:=fun i h h' st k=>st.at fun o e=>k it (by simp) o e
 item:=by
  intro X hP hw hK hc i pins s σ H E I hf st hg
  subst hP hw hK
  obtain⟨xs,x,hq,hx⟩:=hg
  obtain⟨its,rv,p,hz⟩:=I.tuple hq
  obtain⟨u,hu,ru⟩:=rv.get hx
  obtain⟨f0,f1,f2,f3,f4,f5⟩:=hf it (by simp)
  refine wpAny_pyNext_tuple_item st (show s.heap.IsTuple a its.toArray from p) (x:=u) (by simpa using hu) fun h' st' sb=>?_
  have I1:Inv X pins σ H { s with heap:=h' }:=I.turned (t':=s.toks) (fun b o hb e=>(sb.2 b hb).trans e) f0 f1 f3 f4 f5
  obtain⟨o,e,c,d⟩:=id st'
  exact⟨u,rfl,uL (s:={ s with heap:=h' }) e c d (by decide) ⟨x,H,I1,ru,⟨rfl,fun ys hy=>by rw[I.tuple_inj hy hq];exact hx⟩,st',fun b hb=>(hf b hb).1⟩⟩
 done:=by
  intro X hP hw hK hc i pins s σ H E I hf st hg
  subst hP hw hK
  obtain⟨xs,hq,hx⟩:=hg
  obtain⟨its,rv,p,hz⟩:=I.tuple hq
  obtain⟨f0,f1,f2,f3,f4,f5⟩:=hf it (by simp)
  have hl:=rv.length
  exact wpAny_pyNext_tuple_end (I.ok.hd hc) st (show s.heap.IsTuple a its.toArray from p) (by simp;omega) fun h' eb=>⟨rfl,I.turned (t':=s.toks) (fun b o hb e=>eb b o hb e) f0 f1 f3 f4 f5⟩
 self:=fun _ _ _ _ _ st h=>wpAny_pyIter_tupleiter st h
theorem kM{P:Program}{w:World}{K:Iy}{tg:Expr}(it:Addr)(lo:Int)(n:Nat):ml P w K tg (Itr lo n) [it] it (fun i h=>IsRangeIter h it (lo+(i:Nat)*1) ((n:Int) - (i:Nat)) 1) where
 mem:=by simp
 obj:=fun i h st b hb=>by
  have e:b=it:=by simpa using hb
  subst e
  exact⟨_,st,fun v z=>by
   have z':Data.fields _=Data.cell v:=z
   cases z'⟩
 keep:=fun i h h' st k=>k it (by simp) _ st
 item:=by
  intro X hP hw hK hc i pins s σ H E I hf st hg
  subst hP hw hK
  obtain⟨f0,f1,f2,f3,f4,f5⟩:=hf it (by simp)
  have W:=Walks.range (prog:=X.prog) (w:=X.w) (I.ok.hd hc) it lo 1 n
  refine W.item i s _ _ hg st fun v h' tk hv st' kk=>?_
  obtain⟨t,rfl⟩:=hv
  have I1:Inv X pins σ H { s with heap:=h',toks:=tk }:=I.turned (fun b o hb e=>kk b o (by simpa using hb) e) f0 f1 f3 f4 f5
  refine⟨_,rfl,uL (s:={ s with heap:=h',toks:=tk }) (n := "range_iterator") st' rfl rfl (by decide) ⟨.int (lo+i),H,I1,⟨t,?_⟩,⟨rfl,rfl⟩,st',fun b hb=>(hf b hb).1⟩⟩
  rw[Int.mul_one]
 done:=by
  intro X hP hw hK hc i pins s σ H E I hf st hg
  subst hP hw hK
  obtain⟨f0,f1,f2,f3,f4,f5⟩:=hf it (by simp)
  exact wpAny_pyNext_range_end (I.ok.hd hc) st (by have:n≤i:=hg;omega) fun h' eb=>⟨rfl,I.turned (t':=s.toks) (fun b o hb e=>eb b o hb e) f0 f1 f3 f4 f5⟩
 self:=fun _ _ _ _ _ st h=>wpAny_pyIter_rangeiter st h
section
variable {X:Cx} {tg:Expr}
theorem tK{pins:List (Addr × Obj)}{σ:St}{H:Hp}{s:Shared}{R:It→Hp→Prop}{E:Value→Shared→Prop}{lo hi:Int}{t u v:Tok}{tk:Nat}(I:Inv X pins σ H s)(h1:-(2 ^ 62)≤lo)(h2:lo<2 ^ 62)(h3:-(2 ^ 62)≤hi)(h4:hi<2 ^ 62)
  (q:R (Itr lo (hi - lo).toNat) H):wpAny (model X.prog X.w) X.A (pyIter (.ref s.heap.objs.size)) (PIE X pins σ tg R) E { s with heap:=s.heap.push { cls:=.type "range",data:=.fields #[.int lo t,.int hi u,.int 1 v] },toks:=tk }:=by
 refine wpAny_pyIter_range (IsRange.new ..) (small_one h1 h2 h3 h4) ?_
 have I1:Inv X pins σ H { s with heap:=s.heap.push { cls:=.type "range",data:=.fields #[.int lo t,.int hi u,.int 1 v] },toks:=tk }:=I.kept fun b o e=>IB _ e
 refine⟨(s.heap.push { cls:=.type "range",data:=.fields #[.int lo t,.int hi u,.int 1 v] }).objs.size,[(s.heap.push { cls:=.type "range",data:=.fields #[.int lo t,.int hi u,.int 1 v] }).objs.size],_,_,H,rfl,
  I1.kept (t':=tk) fun b o e=>IB _ e,kM _ lo (hi - lo).toNat,?_,fun b hb=>?_,q⟩
 ·have e1:lo+((0:Nat):Int)*1=lo:=by simp
  have e2:(((hi - lo).toNat:Nat):Int) - ((0:Nat):Int)=Builtin.Range.rangeSize lo hi 1:=by rw[rangeSize_one];split<;>omega
  show IsRangeIter _ _ (lo+((0:Nat):Int)*1) ((((hi - lo).toNat:Nat):Int) - ((0:Nat):Int)) 1
  rw[e1,e2]
  exact IP _ rfl
 ·have e:b=(s.heap.push { cls:=.type "range",data:=.fields #[.int lo t,.int hi u,.int 1 v] }).objs.size:=by simpa using hb
  subst e
  exact I1.fpOk (IL _) (I1.hok.fresh (IL _))
def EI(ta:TA):TI:=fun σ H R=>ta σ H fun vs H1=>∃ j:Int,vs=[.int j]∧-(2 ^ 62)≤j∧j<2 ^ 62∧R (Itr 0 j.toNat) H1
theorem pR{a:Expr}{ta:TA}{p pos:Pos}(hg:Gl X "range")(hm:X.mg "range" = none)(ha:PA X [a] ta)(hs:starEach [a] X.env=[(false,eval a X.env)]:=by rfl):PI X tg (.Call (.Name "range" p) [a] [] pos) (EI ta):=by
 intro pins s σ H R I h
 refine Call_ (Z2 I hg hm boot_range (PyProof.Rows.callWith_type1 (thn (ha pos pins s σ H _ I h) fun us s1 ⟨vs,H1,I1,r1,q1⟩=>?_) hs rfl))
 obtain⟨j,e,q1,q2,q⟩:=q1
 subst e
 cases r1 with
 | cons r rr =>
  cases rr
  obtain⟨t,rfl⟩:=r
  exact call_range_1 (tK I1 (by omega) (by omega) q1 q2 (by simpa using q))
def FR(wi:TI)(g:TG)(tb:TS):TS:=fun D σ H=>wi σ H fun J H1=>∃ W:Nat→Nat→St→Hp→Prop,(∃ m,W 0 m σ H1)∧∀ i m σ H,W i m σ H →
 (J.stop i H∧D.nx σ H)∨(J.go i H∧∃ N:St→Hp→Prop,(∀ σ' H',N σ' H'→∃ m',m'<m∧W (i+1) m' σ' H')∧∀ x H',J.yld i H x H'→g x σ H' fun σ2 H2=>tb { D with nx:=N,ct:=N,bk:=D.nx } σ2 H2)
noncomputable def gi(fp:List Addr)(h:Heap):List (Addr × Obj):=fp.filterMap fun b=>(h.get? b).map fun o=>(b,o)
theorem C8{fp:List Addr}{h:Heap}{b:Addr}{o:Obj}(hb:b∈fp)(e:h.get? b=some o):(b,o)∈gi fp h:=KH.mpr ⟨b,hb,by rw[e];rfl⟩
theorem pV{fp:List Addr}{h:Heap}{p:Addr × Obj}(hp:p∈gi fp h):p.1∈fp∧h.get? p.1=some p.2:=by
 obtain⟨b,hb,e⟩:=KH.mp hp
 cases q:h.get? b with
 | none=>rw[q]at e;cases e
 | some o =>
  rw[q]at e
  have e':(b,o)=p:=Option.some.inj e
  subst e'
  exact⟨hb,q⟩
theorem Inv.pinned{pins:List (Addr × Obj)}{σ:St}{H:Hp}{s:Shared}{fp:List Addr}(I:Inv X pins σ H s)(hf:∀ b∈fp,S3 X pins H b)(ho:∀ b∈fp,∃ o,s.heap.get? b=some o∧∀ v,o.data ≠ .cell v):Inv X (pins++gi fp s.heap) σ H s :=
 I.pins_of fun p hp=>(Jc.mp hp).elim (fun z=>I.pin p (IW _ z)) fun z=>by
  obtain⟨hb,e⟩:=pV z
  obtain⟨f0,f1,f2,_⟩:=hf p.1 hb
  obtain⟨o,e',d⟩:=ho p.1 hb
  rw[e]at e';cases e'
  exact⟨e,f0,f1,f2,d⟩
theorem Inv.unpinned{pins pl:List (Addr × Obj)}{σ:St}{H:Hp}{s:Shared}(I:Inv X (pins++pl) σ H s):Inv X pins σ H s:=I.pins_of fun p hp=>I.pin p (IW _ (JM _ hp))
theorem BC{iter:Expr}{body:List Stmt}{wi:TI}{g:TG}{tb:TS}{pos:Pos}(hp:PassesOwn (model X.prog X.w) X.A X.env X.xe)(hc:X.calm=true)(hi:PI X tg iter wi)(hg:PG X tg g)(hb:PSs X body tb)
  (hs:∀ x,foldedSetIterable iter X.env x=pure x:=by intro _;rfl):PS X (.For tg iter body [] pos) (FR wi g tb):=by
 intro pins s σ H D I h
 refine wpAny_For (thn (hi pins s σ H _ I h) fun v s1 h1=>thn h1 fun itv s2 h2=>?_) hs
 obtain⟨it,fp,tn,J,H2,e,I2,T,st2,f2,W,⟨m0,w0⟩,turn⟩:=h2
 subst e
 have stat:∀{H':Hp},(∀ b∈fp,H' b=none)→∀ b∈fp,S3 X pins H' b:=fun hn b hb=>⟨hn b hb,(f2 b hb).2⟩
 refine codeAny_forLoop_any (fun n s'=>∃ i σ' H',Inv X pins σ' H' s'∧tn i s'.heap∧(∀ b∈fp,H' b=none)∧W i n σ' H') ?_ m0 ⟨0,σ,H2,I2,st2,fun b hb=>(f2 b hb).1,w0⟩
 rintro n s3 ⟨i,σ3,H3,I3,st3,fr3,w3⟩
 rcases turn i n σ3 H3 w3 with⟨stop,qn⟩|⟨go,N,hN,step⟩
 ·refine wpAny_passesOwn hp (thn (T.done X rfl rfl rfl hc i pins s3 σ3 H3 X.xe I3 (stat fr3) st3 stop) fun r s4 zz=>?_)
  obtain⟨hr,I4⟩:=zz
  subst hr
  exact wpAny_execs_nil ⟨σ3,H3,I4,qn⟩
 ·refine wpAny_passesOwn hp (thn (T.item X rfl rfl rfl hc i pins s3 σ3 H3 X.xe I3 (stat fr3) st3 go) fun r s4 zz=>?_)
  obtain⟨u,hr,h4⟩:=zz
  subst hr
  refine wpAny_passesOwn hp (thn h4 fun _ s5 zz=>?_)
  obtain⟨x,H5,I5,r5,y5,st5,fr5⟩:=zz
  have I5':=I5.pinned (stat fr5) (T.obj _ _ st5)
  refine wpAny_passesOwn hp (thn (hg _ s5 σ3 H5 x u _ I5' r5 (step x H5 y5)) fun _ s6 zz=>?_)
  obtain⟨σ6,H6,I6,q6⟩:=zz
  refine wpAny_passesOwn hp (thn (hb _ s6 σ6 H6 _ I6 q6) fun f s7 q7=>?_)
  have again:∀{σ7:St} {H7:Hp},Inv X (pins++gi fp s5.heap) σ7 H7 s7→N σ7 H7→∃ m,m<n∧∃ i σ' H',Inv X pins σ' H' s7∧tn i s7.heap∧(∀ b∈fp,H' b=none)∧W i m σ' H':=fun{σ7 H7} I7 n7=>by
   obtain⟨m',hm,w7⟩:=hN σ7 H7 n7
   refine⟨m',hm,i+1,σ7,H7,I7.unpinned,T.keep _ _ _ st5 fun b hb o e=>(I7.pin (b,o) (IW _ (IW _ (C8 hb e)))).1,fun b hb=>?_,w7⟩
   obtain⟨o,e,d⟩:=T.obj _ _ st5 b hb
   exact(I7.pin (b,o) (IW _ (IW _ (C8 hb e)))).2.1
  cases f with
  | next=>obtain⟨σ7,H7,I7,n7⟩:=q7;exact again I7 n7
  | cont=>obtain⟨σ7,H7,I7,n7⟩:=q7;exact again I7 n7
  | brk=>obtain⟨σ7,H7,I7,q7⟩:=q7;exact⟨σ7,H7,I7.unpinned,q7⟩
  | ret v=>obtain⟨x7,σ7,H7,I7,r7,q7⟩:=q7;exact⟨x7,σ7,H7,I7.unpinned,r7,q7⟩
end
noncomputable abbrev R2:=V→V→Hp→VK→Prop
def OpR(X:Cx)(f:Value→Value→Sem Value)(r:R2):Prop :=
 ∀(pins:List (Addr × Obj)) (s:Shared) (σ:St) (H:Hp) (x y:V) (v u:Value) (Q:VK),Inv X pins σ H s→j6 x v→j6 y u→r x y H Q →
  wpAny (model X.prog X.w) X.A (f v u) (EP X pins σ Q) X.xe s
def UnR(X:Cx)(f:Value→Sem Value)(r:V→Hp→VK→Prop):Prop :=
 ∀(pins:List (Addr × Obj)) (s:Shared) (σ:St) (H:Hp) (x:V) (v:Value) (Q:VK),Inv X pins σ H s→j6 x v→r x H Q →
  wpAny (model X.prog X.w) X.A (f v) (EP X pins σ Q) X.xe s
def v9(X:Cx)(f:Value)(r:List V→Hp→VK→Prop):Prop :=
 ∀(pins:List (Addr × Obj)) (s:Shared) (σ:St) (H:Hp) (xs:List V) (us:List Value) (Q:VK),Inv X pins σ H s→i5 xs us→r xs H Q →
  wpAny (model X.prog X.w) X.A (call f us) (EP X pins σ Q) X.xe s
def tOp(r:R2)(ta tb:TE):TE:=fun σ H Q=>ta σ H fun x H1=>tb σ H1 fun y H2=>r x y H2 Q
def tUn(r:V→Hp→VK→Prop)(ta:TE):TE:=fun σ H Q=>ta σ H fun x H1=>r x H1 Q
def rI(C:Int→Int→Prop)(g:Int→Int→V):R2:=fun x y H Q=>∃ i j,x = .int i∧y = .int j∧C i j∧Q (g i j) H
def rI0(g:Int→Int→V):R2:=fun x y H Q=>∃ i j,x = .int i∧y = .int j∧Q (g i j) H
noncomputable def rU(g:Int→V):V→Hp→VK→Prop:=fun x H Q=>∃ i,x = .int i∧Q (g i) H
section
variable {X:Cx} {a b c:Expr} {ta tb tc:TE} {pos:Pos}
theorem CQ(ha:PE X a ta)(hb:PE X b tb){pins:List (Addr × Obj)}{s:Shared}{σ:St}{H:Hp}{R:V→V→Hp→Prop}(I:Inv X pins σ H s)
  (h:ta σ H fun x H1=>tb σ H1 fun y H2=>R x y H2) {Q:Value→Shared→Prop} {f:Value→Value→Sem Value}
  (hf:∀ v u s2 x y H2,Inv X pins σ H2 s2→j6 x v→j6 y u→R x y H2→wpAny (model X.prog X.w) X.A (f v u) Q X.xe s2) :
  wpAny (model X.prog X.w) X.A (eval a X.env) (fun v s₁=>wpAny (model X.prog X.w) X.A (eval b X.env) (fun u s₂=>wpAny (model X.prog X.w) X.A (f v u) Q X.xe s₂) X.xe s₁) X.xe s:=by
 refine thn (ha pins s σ H _ I h) fun v s1 zz=>?_
 obtain⟨x,H1,I1,r1,q1⟩:=zz
 refine thn (hb pins s1 σ H1 _ I1 q1) fun u s2 zz=>?_
 obtain⟨y,H2,I2,r2,q2⟩:=zz
 exact hf v u s2 x y H2 I2 r1 r2 q2
theorem Ab{op:Operator}{r:R2}(ho:OpR X (binaryOp op) r)(ha:PE X a ta)(hb:PE X b tb):PE X (.BinOp a op b pos) (tOp r ta tb):=by
 intro pins s σ H Q I h
 exact wpAny_BinOp (CQ ha hb I h fun v u s2 x y H2 I2 rx ry q=>ho pins s2 σ H2 x y v u Q I2 rx ry q)
theorem El{op:UnaryOp}{r:V→Hp→VK→Prop}(ho:UnR X (unaryOp op) r)(ha:PE X a ta):PE X (.UnaryOp op a pos) (tUn r ta):=by
 intro pins s σ H Q I h
 exact UnaryOp_ (thn (ha pins s σ H _ I h) fun v s1 ⟨x,H1,I1,r1,q1⟩=>ho pins s1 σ H1 x v Q I1 r1 q1)
theorem opI{f:Value→Value→Sem Value}{C:Int→Int→Prop}{g:Int→Int→Int}
  (rule:∀(i j:Int) (t u:Tok) (s:Shared) (Q:Value→Shared→Prop) (E:Value→Shared→Prop),C i j→Q (.int (g i j) s.toks) { s with toks:=s.toks+1 }→wpAny (model X.prog X.w) X.A (f (.int i t) (.int j u)) Q E s) :
  OpR X f (rI C fun i j=>.int (g i j)):=by
 intro pins s σ H x y v u Q I rx ry h
 obtain⟨i,j,rfl,rfl,hc,q⟩:=h
 obtain⟨t,rfl⟩:=rx
 obtain⟨t',rfl⟩:=ry
 exact rule i j t t' s _ _ hc ⟨.int (g i j),H,I.tok _,⟨_,rfl⟩,q⟩
theorem Ew{f:Value→Value→Sem Value}{g:Int→Int→Int}
  (rule:∀(i j:Int) (t u:Tok) (s:Shared) (Q:Value→Shared→Prop) (E:Value→Shared→Prop),Q (.int (g i j) s.toks) { s with toks:=s.toks+1 }→wpAny (model X.prog X.w) X.A (f (.int i t) (.int j u)) Q E s) :
  OpR X f (rI0 fun i j=>.int (g i j)):=by
 intro pins s σ H x y v u Q I rx ry h
 obtain⟨i,j,rfl,rfl,q⟩:=h
 obtain⟨t,rfl⟩:=rx
 obtain⟨t',rfl⟩:=ry
 exact rule i j t t' s _ _ ⟨.int (g i j),H,I.tok _,⟨_,rfl⟩,q⟩
theorem BY{f:Value→Value→Sem Value}{g:Int→Int→Bool}
  (rule:∀(i j:Int) (t u:Tok) (s:Shared) (Q:Value→Shared→Prop) (E:Value→Shared→Prop),Q (.bool (g i j)) s→wpAny (model X.prog X.w) X.A (f (.int i t) (.int j u)) Q E s) :
  OpR X f (rI0 fun i j=>.bl (g i j)):=by
 intro pins s σ H x y v u Q I rx ry h
 obtain⟨i,j,rfl,rfl,q⟩:=h
 obtain⟨t,rfl⟩:=rx
 obtain⟨t',rfl⟩:=ry
 exact rule i j t t' s _ _ ⟨.bl (g i j),H,I,rfl,q⟩
def vX(i j:Int):Prop:=0≤j∧j≤1000000∧i.natAbs<2 ^ 64
theorem BX:OpR X (binaryOp .Add) (rI0 fun i j=>.int (i+j)):=Ew fun _ _ _ _ _ _ _ q=>add_int q
theorem BU:OpR X (binaryOp .Sub) (rI0 fun i j=>.int (i - j)):=Ew fun _ _ _ _ _ _ _ q=>sub_int q
theorem BW:OpR X (binaryOp .Mod) (rI (fun _ j=>0<j) fun i j=>.int (i % j)):=opI fun i j _ _ _ _ _ hc q=>by
 have h1:(0:Int)<j:=hc
 exact mod_int' (by omega) (by rw[Int.fmod_eq_emod_of_nonneg i (by omega)];exact q)
theorem BV:OpR X (binaryOp .Pow) (rI vX fun i j=>.int (i ^ j.toNat)):=opI fun _ _ _ _ _ _ _ hc q=>pow_int_small hc.1 hc.2.1 hc.2.2 q
theorem unI{f:Value→Sem Value}{g:Int→Int}
  (rule:∀(i:Int) (t:Tok) (s:Shared) (Q:Value→Shared→Prop) (E:Value→Shared→Prop),Q (.int (g i) s.toks) { s with toks:=s.toks+1 }→wpAny (model X.prog X.w) X.A (f (.int i t)) Q E s) :
  UnR X f (rU fun i=>.int (g i)):=by
 intro pins s σ H x v Q I rx h
 obtain⟨i,rfl,q⟩:=h
 obtain⟨t,rfl⟩:=rx
 exact rule i t s _ _ ⟨.int (g i),H,I.tok _,⟨_,rfl⟩,q⟩
theorem AW:UnR X (unaryOp .USub) (rU fun i=>.int (-i)):=unI fun _ _ _ _ _ q=>neg_int q
end
noncomputable def Eg:V→V→Bool
 | .non,.non=>true|.non,.int _=>true|.int _,.non=>true|.non,.bl _=>true|.bl _,.non=>true|.non,.str _=>true|.str _,.non=>true
 | .int _,.int _=>true|.bl _,.bl _=>true|.str _,.str _=>true|.byt _,.byt _=>true
 | .int _,.str _=>true|.str _,.int _=>true|.bl _,.str _=>true|.str _,.bl _=>true
 | _,_=>false
def rEq:R2:=fun x y H Q=>Eg x y=true∧Q (.bl (decide (x=y))) H
def rNe:R2:=fun x y H Q=>Eg x y=true∧Q (.bl (!decide (x=y))) H
theorem oS{i j:Int}:decide (V.int i=V.int j)=(i == j):=by
 rw[KI]
 simp
theorem vg{i j:Bool}:decide (V.bl i=V.bl j)=(i == j):=by
 rw[KI]
 simp
theorem oR{i j:Str}:decide (V.str i=V.str j)=(i == j):=by
 rw[KI]
 simp
theorem oT{i j:Array UInt8}:decide (V.byt i=V.byt j)=(i.toList == j.toList):=by
 rw[KI]
 cases i
 cases j
 simp
section
variable {X:Cx} {a b c:Expr} {ta tb tc:TE} {pos:Pos}
theorem j8{pins:List (Addr × Obj)}{σ:St}{H:Hp}{s:Shared}{Q:VK}{k k':Bool}(I:Inv X pins σ H s)(q:Q (.bl k) H)(e:k=k'):EP X pins σ Q (.bool k') s:=by
 subst e
 exact⟨.bl k,H,I,rfl,q⟩
theorem Ac:OpR X (compareOp .Eq) rEq:=by
 intro pins s σ H x y v u Q I rx ry h
 obtain⟨hs,q⟩:=h
 cases x with
 | non =>
  cases rx
  cases y with
  | non=>cases ry;exact PySem.EqNone.eq_none_none (j8 I q (by simp))
  | bl j=>cases ry;exact PySem.EqNone.eq_none_bool (j8 I q (by simp))
  | int j=>obtain⟨t',rfl⟩:=ry;exact PySem.EqNone.eq_none_int (j8 I q (by simp))
  | str j=>obtain⟨t',rfl⟩:=ry;exact PySem.EqNone.eq_none_str (j8 I q (by simp))
  | _=>exact absurd (show false=true from hs) Je
 | bl i =>
  cases rx
  cases y with
  | non=>cases ry;exact PySem.EqNone.eq_bool_none (j8 I q (by simp))
  | bl j=>cases ry;exact eq_bool (j8 I q vg)
  | str j=>obtain⟨t',rfl⟩:=ry;exact PySem.EqMixed.eq_bool_str (j8 I q (by simp))
  | _=>exact absurd (show false=true from hs) Je
 | int i =>
  obtain⟨t,rfl⟩:=rx
  cases y with
  | non=>cases ry;exact PySem.EqNone.eq_int_none (j8 I q (by simp))
  | int j=>obtain⟨t',rfl⟩:=ry;exact eq_int (j8 I q oS)
  | str j=>obtain⟨t',rfl⟩:=ry;exact PySem.EqMixed.eq_int_str (j8 I q (by simp))
  | _=>exact absurd (show false=true from hs) Je
 | str i =>
  obtain⟨t,rfl⟩:=rx
  cases y with
  | non=>cases ry;exact PySem.EqNone.eq_str_none (j8 I q (by simp))
  | bl j=>cases ry;exact PySem.EqMixed.eq_str_bool (j8 I q (by simp))
  | int j=>obtain⟨t',rfl⟩:=ry;exact PySem.EqMixed.eq_str_int (j8 I q (by simp))
  | str j=>obtain⟨t',rfl⟩:=ry;exact eq_str (j8 I q oR)
  | _=>exact absurd (show false=true from hs) Je
 | byt i =>
  obtain⟨t,rfl⟩:=rx
  cases y with
  | byt j=>obtain⟨t',rfl⟩:=ry;exact PySem.W.eq_bytes (j8 I q oT)
  | _=>exact absurd (show false=true from hs) Je
 | _=>cases y<;>exact absurd (show false=true from hs) Je
theorem Er:OpR X (compareOp .NotEq) rNe:=by
 intro pins s σ H x y v u Q I rx ry h
 obtain⟨hs,q⟩:=h
 cases x with
 | non =>
  cases rx
  cases y with
  | non=>cases ry;exact PySem.EqNone.ne_none_none (j8 I q (by simp))
  | bl j=>cases ry;exact PySem.EqNone.ne_none_bool (j8 I q (by simp))
  | int j=>obtain⟨t',rfl⟩:=ry;exact PySem.EqNone.ne_none_int (j8 I q (by simp))
  | str j=>obtain⟨t',rfl⟩:=ry;exact PySem.EqNone.ne_none_str (j8 I q (by simp))
  | _=>exact absurd (show false=true from hs) Je
 | bl i =>
  cases rx
  cases y with
  | non=>cases ry;exact PySem.EqNone.ne_bool_none (j8 I q (by simp))
  | bl j=>cases ry;exact ne_bool (j8 I q (congrArg not vg))
  | str j=>obtain⟨t',rfl⟩:=ry;exact PySem.EqMixed.ne_bool_str (j8 I q (by simp))
  | _=>exact absurd (show false=true from hs) Je
 | int i =>
  obtain⟨t,rfl⟩:=rx
  cases y with
  | non=>cases ry;exact PySem.EqNone.ne_int_none (j8 I q (by simp))
  | int j=>obtain⟨t',rfl⟩:=ry;exact ne_int (j8 I q (congrArg not oS))
  | str j=>obtain⟨t',rfl⟩:=ry;exact PySem.EqMixed.ne_int_str (j8 I q (by simp))
  | _=>exact absurd (show false=true from hs) Je
 | str i =>
  obtain⟨t,rfl⟩:=rx
  cases y with
  | non=>cases ry;exact PySem.EqNone.ne_str_none (j8 I q (by simp))
  | bl j=>cases ry;exact PySem.EqMixed.ne_str_bool (j8 I q (by simp))
  | int j=>obtain⟨t',rfl⟩:=ry;exact PySem.EqMixed.ne_str_int (j8 I q (by simp))
  | str j=>obtain⟨t',rfl⟩:=ry;exact ne_str (j8 I q (congrArg not oR))
  | _=>exact absurd (show false=true from hs) Je
 | byt i =>
  obtain⟨t,rfl⟩:=rx
  cases y with
  | byt j=>obtain⟨t',rfl⟩:=ry;exact PySem.W.ne_bytes (j8 I q (congrArg not oT))
  | _=>exact absurd (show false=true from hs) Je
 | _=>cases y<;>exact absurd (show false=true from hs) Je
theorem Es:OpR X (compareOp .Lt) (rI0 fun i j=>.bl (decide (i<j))):=BY fun _ _ _ _ _ _ _ q=>lt_int q
theorem Et:OpR X (compareOp .LtE) (rI0 fun i j=>.bl (decide (i≤j))):=BY fun _ _ _ _ _ _ _ q=>le_int q
theorem Eu:OpR X (compareOp .Gt) (rI0 fun i j=>.bl (decide (j<i))):=BY fun _ _ _ _ _ _ _ q=>gt_int q
noncomputable def EG:HO→Bool
 | .lst _=>true
 | .ins _ _ _=>true
 | _=>false
theorem eK{pins:List (Addr × Obj)}{s:Shared}{σ:St}{H:Hp}{a:Addr}{o:HO}(I:Inv X pins σ H s)(h:H a=some o)(p:EG o=true):∃ ob,s.heap.get? a=some ob∧ob.cls ≠ .type "tuple" := by
 cases o with
 | lst xs =>
  obtain⟨_,its,n,_,e⟩:xs.length≤sizeLine∧∃(its:List Value) (n:Nat),i5 xs its∧s.heap.get? a=some { cls:=.type "list",data:=.seq its.toArray n }:=I.hok a _ h
  exact⟨_,e,(by show Value.type "list" ≠ .type "tuple";decide +kernel)⟩
 | ins C dx fs =>
  have x:=I.hok a _ h
  obtain⟨_,_,_,e,_⟩:=x
  exact⟨_,e,(by show Value.ref C ≠ .type "tuple";exact fun z=>by cases z)⟩
 | _=>exact absurd (show false=true from p) Je
theorem OpR.or{f:Value→Value→Sem Value}{r r':R2}(h:OpR X f r)(h':OpR X f r'):OpR X f (fun x y H Q=>r x y H Q∨r' x y H Q):=by
 intro pins s σ H x y v u Q I rx ry q
 rcases q with q|q
 ·exact h pins s σ H x y v u Q I rx ry q
 ·exact h' pins s σ H x y v u Q I rx ry q
theorem uk(b:Expr){op:CmpOp}(h:op ≠ .In:=by decide)(h2:op ≠ .NotIn:=by decide):behindInMarks op b=false:=by
 have e1:(op == CmpOp.In)=false:=by cases op<;>first|rfl|exact absurd rfl h
 have e2:(op == CmpOp.NotIn)=false:=by cases op<;>first|rfl|exact absurd rfl h2
 cases b<;>simp[behindInMarks,e1,e2]
theorem xW{op:CmpOp}{r:R2}(ho:OpR X (compareOp op) r)(ha:PE X a ta)(hb:PE X b tb)(hm:behindInMarks op b=false):PE X (.Compare a [op] [b] pos) (tOp r ta tb):=by
 intro pins s σ H Q I h
 exact wpAny_Compare1 (CQ ha hb I h fun v u s2 x y H2 I2 rx ry q=>ho pins s2 σ H2 x y v u Q I2 rx ry q) hm
def DU(t:TE):TT:=fun σ H Q=>t σ H fun x H'=>∃ k,x = .bl k∧Q k H'
theorem xG{op:CmpOp}{r:R2}(ho:OpR X (compareOp op) r)(ha:PE X a ta)(hb:PE X b tb)(hm:behindInMarks op b=false):PT X (.Compare a [op] [b] pos) (DU (tOp r ta tb)):=by
 intro pins s σ H Q I h
 refine wpAny_isTrue_Compare1 (thn (ha pins s σ H _ I h) fun v s1 ⟨x,H1,I1,r1,q1⟩=>thn (hb pins s1 σ H1 _ I1 q1) fun u s2 ⟨y,H2,I2,r2,q2⟩ =>
  thn (ho pins s2 σ H2 x y v u _ I2 r1 r2 q2) fun c s3 ⟨z,H3,I3,r3,k,e,q3⟩=>?_) hm
 subst e
 cases r3
 exact wpAny_truthy_bool ⟨H3,I3,q3⟩
theorem gD:(sizeLine:Nat)<2 ^ 63:=by rw[sizeLine_eq];decide
theorem iY{x:V}{us:List Value}(r:i5 [x] us):∃ u,us=[u]∧j6 x u:=by
 cases r with
 | cons r1 r2=>cases r2;exact⟨_,rfl,r1⟩
theorem zT{x y:V}{us:List Value}(r:i5 [x,y] us):∃ u w',us=[u,w']∧j6 x u∧j6 y w':=by
 cases r with
 | cons r1 r2 =>
  cases r2 with
  | cons r3 r4=>cases r4;exact⟨_,_,rfl,r1,r3⟩
theorem vD:v9 X (.builtin "abs") (fun xs H Q=>∃ i,xs=[.int i]∧Q (.int (if i<0 then -i else i)) H):=by
 intro pins s σ H xs us Q I r h
 obtain⟨i,rfl,q⟩:=h
 obtain⟨u,rfl,t,rfl⟩:=iY r
 exact call_abs_int fun u tk=>⟨.int (if i<0 then -i else i),H,I.tok _,⟨_,rfl⟩,q⟩
theorem qr(hc:X.calm=true):v9 X (.builtin "max") (fun xs H Q=>∃ i j,xs=[.int i,.int j]∧Q (.int (if j > i then j else i)) H):=by
 intro pins s σ H xs us Q I r h
 obtain⟨i,j,rfl,q⟩:=h
 obtain⟨u,w',rfl,⟨t,rfl⟩,⟨t',rfl⟩⟩:=zT r
 refine max_two_ints (I.ok.hd hc) fun h' tk k=>⟨_,H,I.kept k,?_,q⟩
 by_cases hj:j > i
 ·rw[if_pos hj,if_pos hj];exact⟨_,rfl⟩
 ·rw[if_neg hj,if_neg hj];exact⟨_,rfl⟩
end
structure CZ(h:Heap)(x dx C:Addr)(mA:Str→Option Value):Prop where
 obj:h.get? x=some (PySem.W.instObj C dx)
 ns:h.Ns1 dx mA
 ne:dx≠x
theorem pZ{h:Heap}{dx:Addr}{mA:Str→Option Value}(n:h.Ns1 dx mA):∃ od,h.get? dx=some od∧∀ name,PySem.W.lookIn name od=some (mA name):=by
 obtain⟨o,es,ep,ho,hd,hk,_,hm⟩:=n
 refine⟨o,ho,fun name=>?_⟩
 have e:=hm name
 unfold nsFind findBy at e
 rw[← Array.find?_toList]at e
 unfold PySem.W.lookIn
 rw[hd]
 dsimp only
 split
 ·rename_i y q
  rw[q]at e
  exact congrArg some e
 ·rename_i q
  rw[q]at e
  have a:es.toList.any (·.refKey)=false:=by
   rw[List.any_eq_false]
   intro y hy
   obtain⟨z,t,hkey⟩:=hk y (Array.mem_toList_iff.mp hy)
   simp[DictEntry.refKey,hkey]
  have a':¬ es.toList.any (·.refKey)=true:=by rw[a];exact Je
  rw[if_neg a']
  exact congrArg some e
theorem CZ.look{h:Heap}{x dx C:Addr}{mA:Str→Option Value}(I:CZ h x dx C mA):∃ od,PySem.W.InstAt h x (PySem.W.instObj C dx) C (some od)∧∀ name,PySem.W.lookIn name od=some (mA name) :=
 let ⟨od,ho,hl⟩:=pZ I.ns
 ⟨od,⟨I.obj,rfl,rfl,ho⟩,hl⟩
section
variable {prog:Program} {w:World} {A:Around} {E:Value→Shared→Prop} {s:Shared} {K:Iy} {x dx C f:Addr} {mA:Str→Option Value} {name:Str} {v:Value}
end
section
variable {P:Program} {w:World} {H H':Hp} {h h':Heap} {a C dx:Addr} {fs fs':List (Str × V)}
theorem yz(hok:HOk P w H h)(e:H a=some (.ins C dx fs)):∃ mA,CZ h a dx C mA∧(∀ f,CY (fs.lookup f) (mA f))∧PySem.Within mA (fs.map (·.1))∧fs.length≤1000∧H dx=some (.own a):=by
 obtain⟨d,z,ne,ob,mA,n,r,q⟩:=(show v8 P w H h a (.ins C dx fs)from hok a _ e)
 exact⟨mA,⟨ob,n,ne⟩,r,q,z,d⟩
end
structure Cls(K:Iy)(C:Addr):Prop where
 pg:PySem.W.plainGet K C Str.empty=true
 hd:PySem.W.hasDictIn K C=true
 po:PySem.W.plainOver K C=true
 sa:PySem.W.findIn K (.ref C) "__setattr__" = some (some (.builtin "object.__setattr__"))
theorem Cls.get{K:Iy}{C:Addr}(c:Cls K C)(f:Str):PySem.W.plainGet K C f=true:=c.pg
section
variable {X:Cx} {pins:List (Addr × Obj)} {σ:St} {H:Hp} {s:Shared} {a C dx:Addr} {fs:List (Str × V)} {f:Str} {v:V} {A:Around} {E:Value→Shared→Prop}
end
section
variable {X:Cx} {o e value:Expr} {f:Str} {pos pos' tpos:Pos} {ta tv:TE}
end
section
variable {X:Cx} {pins:List (Addr × Obj)} {σ:St} {H:Hp} {s:Shared} {A:Around} {E:Value→Shared→Prop} {Q:Value→Shared→Prop} {c:Value} {b:Bool}
inductive aI (K:Iy) (H:Hp):V→Value→Prop where
 | non:aI K H .non (.type "NoneType")
 | bl (x:Bool):aI K H (.bl x) (.type "bool")
 | int (i:Int):aI K H (.int i) (.type "int")
 | str (x:Str):aI K H (.str x) (.type "str")
 | flt (x:UInt64):aI K H (.flt x) (.type "float")
 | lst {a:Addr} {xs:List V} (e:H a=some (.lst xs)):aI K H (.ref a) (.type "list")
 | frz {a:Addr} {o:Obj} {xs:List V} (e:H a=some (.frz o (.lst xs))):aI K H (.ref a) (.type "list")
 | tup {a:Addr} {xs:List V} (e:H a=some (.tup xs)):aI K H (.ref a) (.type "tuple")
 | dK {a:Addr} {kvs:List (Key × V)} (e:H a=some (.dK kvs)):aI K H (.ref a) (.type "dict")
 | dT {a:Addr} {kvs:List (List Key × V)} (e:H a=some (.dT kvs)):aI K H (.ref a) (.type "dict")
 | ins {a C dx:Addr} {fs:List (Str × V)} (e:H a=some (.ins C dx fs)) (cl:Cls K C) (ha:PySem.W.findIn K (.ref C) "__class__" = some (some (.builtin "object.__class__")))
   (hn:PySem.W.specialIn K (.builtin "object.__class__") "__get__" = some (some (.builtin "getset_descriptor.__get__"))) (htk:PySem.W.takesIn K (.builtin "object.__class__")=some true)
   (hm:PySem.W.mroIn K C (.type "object")=some true):aI K H (.ref a) (.ref C)
theorem J8{x:V}{u t:Value}(I:Inv X pins σ H s)(rx:j6 x u)(ty:aI X.K H x t)(e:PySem.W.kitOne X.K t c=some b)(h:∀ tk,Q (.bool b) { s with toks:=tk }) :
  wpAny (model X.prog X.w) A (call (.builtin "isinstance") [u,c]) Q E s:=by
 cases ty with
 | non=>cases(show u=Value.none from rx);exact PySem.W.kia_one PySem.W.kitx_none I.kIn True.intro e (fun z=>nomatch z) h
 | bl y=>cases(show u=Value.bool y from rx);exact PySem.W.kia_one PySem.W.kitx_bool I.kIn True.intro e (fun z=>nomatch z) h
 | int i=>obtain⟨t,q⟩:=(show ∃ t,u=Value.int i t from rx);cases q;exact PySem.W.kia_one PySem.W.kitx_int I.kIn True.intro e (fun z=>nomatch z) h
 | str y=>obtain⟨t,q⟩:=(show ∃ t,u=Value.str y t from rx);cases q;exact PySem.W.kia_one PySem.W.kitx_str I.kIn True.intro e (fun z=>nomatch z) h
 | flt y=>obtain⟨t,q⟩:=(show ∃ t,u=Value.float y t from rx);cases q;exact PySem.W.kia_one PySem.W.kitx_float I.kIn True.intro e (fun z=>nomatch z) h
 | @lst a xs ea =>
  cases(show u=Value.ref a from rx)
  obtain⟨_,_,n,_,h1⟩:=(show v8 X.prog X.w H s.heap a (.lst xs)from I.hok a _ ea)
  exact PySem.W.kia_one PySem.W.kitx_list I.kIn ⟨_,h1,rfl⟩ e (fun z=>nomatch z) h
 | @frz a ob xs ea =>
  cases(show u=Value.ref a from rx)
  obtain⟨_,_,_,n,_,h1⟩:=(show v8 X.prog X.w H s.heap a (.frz ob (.lst xs))from I.hok a _ ea)
  exact PySem.W.kia_one PySem.W.kitx_list I.kIn ⟨_,h1,rfl⟩ e (fun z=>nomatch z) h
 | @tup a xs ea =>
  cases(show u=Value.ref a from rx)
  obtain⟨_,_,_,p⟩:=(show v8 X.prog X.w H s.heap a (.tup xs)from I.hok a _ ea)
  obtain⟨o,h1,h2,_⟩:=p
  exact PySem.W.kia_one PySem.W.kitx_tuple I.kIn ⟨o,h1,h2⟩ e (fun z=>nomatch z) h
 | @dK a kvs ea =>
  cases(show u=Value.ref a from rx)
  obtain⟨_,_,vs,_,p⟩:=(show v8 X.prog X.w H s.heap a (.dK kvs)from I.hok a _ ea)
  obtain⟨o,es,ep,h1,h2,_⟩:=p
  exact PySem.W.kia_one PySem.W.kitx_dict I.kIn ⟨o,h1,h2.1⟩ e (fun z=>nomatch z) h
 | @dT a kvs ea =>
  cases(show u=Value.ref a from rx)
  obtain⟨_,_,xs,_,o,es,ep,h1,h2,_⟩:=(show v8 X.prog X.w H s.heap a (.dT kvs)from I.hok a _ ea)
  exact PySem.W.kia_one PySem.W.kitx_dict I.kIn ⟨o,h1,h2.1⟩ e (fun z=>nomatch z) h
 | @ins a C dx fs ea cl ha hn htk hm =>
  cases(show u=Value.ref a from rx)
  obtain⟨mA,O,_⟩:=yz I.hok ea
  obtain⟨od,J,_⟩:=O.look
  exact PySem.W.kia_one (PySem.W.kitx_own (cl.get _) cl.hd ha hn htk hm) I.kIn J e (fun z=>nomatch z) h
end
structure D7(k:Nat)(A:Around):Prop where
 hd:A.handled=none
 dp:A.depth+3*k+5<recursionLimit
 un:A.units+16*k+200<cLine
theorem D7.mono{j k:Nat}{A:Around}(r:D7 k A)(h:j≤k):D7 j A:=⟨r.hd,by have:=r.dp;omega,by have:=r.un;omega⟩
theorem D7.deeper{k:Nat}{A:Around}(r:D7 (k+1) A)(env:Env):D7 k (A.deeper env) :=
 ⟨r.hd,by have:=r.dp;show A.depth+1+3*k+5<_;omega,by have:=r.un;show A.units+3+16*k+200<_;omega⟩
theorem D7.in1{k:Nat}{A:Around}(r:D7 (k+1) A):D7 k A.in1 :=
 ⟨r.hd,by have:=r.dp;show A.depth+3*k+5<_;omega,by have:=r.un;show A.units+1+16*k+200<_;omega⟩
theorem D7.depth{k:Nat}{A:Around}(r:D7 k A):A.depth<recursionLimit:=by have:=r.dp;omega
theorem D7.units{k:Nat}{A:Around}(r:D7 k A):A.units+64<cLine:=by have:=r.un;omega
def FO:TA:=fun _ H Q=>Q [] H
def Eb(ta:TE)(tr:TA):TA:=fun σ H Q=>ta σ H fun x H1=>tr σ H1 fun xs H2=>Q (x :: xs) H2
section
variable {X:Cx} {e:Expr} {es:List Expr} {te:TE} {t:TA} {pos:Pos}
theorem lJ:PA X [] FO:=fun _ _ _ _ H Q I h=>Calls.spliced_nil ⟨[],H,I,.nil,h⟩
theorem gj(ha:PE X e te)(hr:PA X es t)(hs:starEach (e :: es) X.env=(false,eval e X.env) :: starEach es X.env:=by rfl):PA X (e :: es) (Eb te t):=by
 intro pos pins s σ H Q I h
 rw[hs]
 show wpAny _ _ (spliced ((false,eval e X.env) :: backTo pos (starEach es X.env))) _ _ s
 refine Calls.spliced_cons (thn (ha pins s σ H _ I h) fun u s1 zz=>?_)
 obtain⟨x,H1,I1,r1,q1⟩:=zz
 exact thn (hr pos pins s1 σ H1 _ I1 q1) fun us s2 ⟨xs,H2,I2,r2,q2⟩=>⟨x :: xs,H2,I2,.cons r1 r2,q2⟩
def FI(t:TA):TE:=fun σ H Q=>t σ H fun xs H1=>xs.length≤sizeLine∧∀ p,H1 p=none→Q (.ref p) (upd H1 p (.tup xs))
def FP(t:TA):TE:=fun σ H Q=>t σ H fun xs H1=>xs.length≤sizeLine∧∀ p,H1 p=none→Q (.ref p) (upd H1 p (.lst xs))
theorem BI{x1}(h:PA X es t):PE X (.Tuple es x1 pos) (FI t):=by
 intro pins s σ H Q I hq
 refine wpAny_Tuple_spliced (thn (h pos pins s σ H _ I hq) fun us s1 ⟨xs,H1,I1,r,z,q⟩=>⟨by rw[← r.length];exact z,?_⟩)
 have hf:H1 s1.heap.objs.size=none:=I1.hok.fresh (IL _)
 refine⟨.ref s1.heap.objs.size,upd H1 s1.heap.objs.size (.tup xs),I1.laid (t':=s1.toks) (fun b u e=>IB _ e) (IL _) ?_,rfl,q _ hf⟩
 exact⟨z,us,r,⟨_,IP _ rfl,rfl,_,rfl⟩⟩
theorem tT(h:PA X es t):PE X (.List es pos) (FP t):=by
 intro pins s σ H Q I hq
 refine wpAny_List_spliced (thn (h pos pins s σ H _ I hq) fun us s1 ⟨xs,H1,I1,r,z,q⟩=>⟨by rw[← r.length];exact z,?_⟩)
 have hf:H1 s1.heap.objs.size=none:=I1.hok.fresh (IL _)
 refine⟨.ref s1.heap.objs.size,upd H1 s1.heap.objs.size (.lst xs),I1.laid (t':=s1.toks) (fun b u e=>IB _ e) (IL _) ?_,rfl,q _ hf⟩
 exact⟨z,us,0,r,IP _ rfl⟩
end
noncomputable abbrev Sp:=List V→Hp→VK→XK→Prop
noncomputable abbrev CXT:=List Env→Hp→Shared→XK→Value→Shared→Prop
structure mw(P:Program)(w:World)(K:Iy)(mg:Str→Option Value)(base:Heap)(A:Around)(outer:List Env)(s:Shared)(H:Hp):Prop where
 frames:A.frames=some outer
 mod:Mod K mg base
 bs:∀ b o,base.get? b=some o→s.heap.get? b=some o∧H b=none
 bsz:base.objs.size≤s.heap.objs.size
 funs:s.heap.FunFrames base outer
 frf:∀ b∈frs outer,H b=none
 hok:HOk P w H s.heap
 bare:AllBare s.gens
def CE(outer:List Env)(P:Program)(w:World)(H:Hp)(s:Shared)(Q:VK)(u:Value)(s':Shared):Prop :=
 ∃ v H',s'.os=s.os∧AllBare s'.gens∧Un (frs outer) [] H H' s.heap s'.heap∧HOk P w H' s'.heap∧j6 v u∧Q v H'
def CR(CX:CXT)(outer:List Env)(P:Program)(w:World)(H:Hp)(s:Shared)(Q:VK)(E:XK)(r:Result)(s':Shared):Prop :=
 match r with
 | .ok (.ret u)=>CE outer P w H s Q u s'
 | .ok _=>False
 | .error e=>CX outer H s E e s'
structure L7(P:Program)(w:World)(K:Iy)(mg:Str→Option Value)(base:Heap)(CX:CXT)(k:Nat)(f:Addr)(fd:FuncData)(ps:List Str)(sp:Sp):Prop where
 len:∀ vs H Q E,sp vs H Q E→vs.length=ps.length
 run:∀(A:Around) (outer:List Env) (s:Shared) (H:Hp) (args:Args) (us:List Value) (vs:List V) (Q:VK) (E:XK),D7 k A→mw P w K mg base A outer s H→BindsTo s fd args (ps.zip us)→i5 vs us→sp vs H Q E →
  codeAny (model P w) A (.call (.ref f) args) (CR CX outer P w H s Q E) s
theorem L7.mono{P:Program}{w:World}{K:Iy}{mg:Str→Option Value}{base:Heap}{CX:CXT}{j k:Nat}{f:Addr}{fd:FuncData}{ps:List Str}{sp:Sp}(F:L7 P w K mg base CX j f fd ps sp)(h:j≤k) :
  L7 P w K mg base CX k f fd ps sp:=⟨F.len,fun A outer s H args us vs Q E hr=>F.run A outer s H args us vs Q E (hr.mono h)⟩
theorem L7.imp{P:Program}{w:World}{K:Iy}{mg:Str→Option Value}{base:Heap}{CX:CXT}{k:Nat}{f:Addr}{fd:FuncData}{ps:List Str}{sp sp':Sp}(F:L7 P w K mg base CX k f fd ps sp)
  (h:∀ vs H Q E,sp' vs H Q E→sp vs H Q E):L7 P w K mg base CX k f fd ps sp' :=
 ⟨fun vs H Q E q=>F.len vs H Q E (h _ _ _ _ q),fun A outer s H args us vs Q E hr he hb hv hs=>F.run A outer s H args us vs Q E hr he hb hv (h _ _ _ _ hs)⟩
theorem mw.in1{P:Program}{w:World}{K:Iy}{mg:Str→Option Value}{base:Heap}{A:Around}{outer:List Env}{s:Shared}{H:Hp}(e:mw P w K mg base A outer s H) :
  mw P w K mg base A.in1 outer s H:=⟨e.frames,e.mod,e.bs,e.bsz,e.funs,e.frf,e.hok,e.bare⟩
section
variable {X:Cx} {pins:List (Addr × Obj)} {σ:St} {H:Hp} {s s':Shared}
theorem Inv.env0(I:Inv X pins σ H s):mw X.prog X.w X.K X.mg X.base X.A X.stack s H :=
 ⟨I.ok.frames,I.ok.mod,I.bs,IT I.ok.bsz I.sz,I.stack,I.stkFree,I.hok,I.bare⟩
theorem Inv.after{Q:VK}{u:Value}(I:Inv X pins σ H s)(h:CE X.stack X.prog X.w H s Q u s'):EP X pins σ Q u s':=by
 obtain⟨v,H',os,bare,un,hok,r,q⟩:=h
 obtain⟨hh,g,d,t,os'⟩:=s'
 obtain rfl:os'=s.os:=os
 exact⟨v,H',I.call (h':=hh) (g':=g) (d':=d) (t':=t) (ch:=[]) un hok bare (fun b z=>absurd z (by simp)),r,q⟩
end
def Ec(sp:Sp)(dvs:List V)(E:XK)(t:TA):TE:=fun σ H Q=>t σ H fun vs H1=>sp (vs++dvs) H1 Q E
def cZ(K:Iy)(fd:FuncData)(ps:List Str)(ds:List Value):Prop :=
 ∀(s:Shared) (us:List Value),K.In s.heap→(us++ds).length=ps.length→BindsTo s fd ⟨us,[]⟩ (ps.zip (us++ds))
theorem cZ.all{K:Iy}{fd:FuncData}{ps:List Str}(h:∀ us:List Value,us.length=ps.length→bindArgs fd ⟨us,[]⟩=pure (ps.zip us)):cZ K fd ps []:=fun s us _ hl=>by
 rw[Kc]at hl ⊢
 exact .of_eq (h us hl)
def ix(CX:CXT)(X:Cx)(E:XK):Prop:=∀(pins:List (Addr × Obj)) (σ:St) (H:Hp) (s:Shared) (e:Value) (s':Shared),Inv X pins σ H s→CX X.stack H s E e s'→X.xe e s'
section
variable {X:Cx} {CX:CXT} {k:Nat} {f C:Addr} {fd:FuncData} {ps:List Str} {sp:Sp} {dvs:List V} {ds:List Value} {E:XK} {x m:Str} {p pos apos:Pos} {e o:Expr} {es:List Expr} {ta:TE} {t:TA}
theorem Bq{pins:List (Addr × Obj)}{σ:St}{H:Hp}{s:Shared}{Q:VK}{us:List Value}{vs:List V}(F:L7 X.prog X.w X.K X.mg X.base CX k f fd ps sp)(hr:D7 k X.A)(hb:cZ X.K fd ps ds)(hd:i5 dvs ds)(hx:ix CX X E)
  (I:Inv X pins σ H s) (r:i5 vs us) (h:sp (vs++dvs) H Q E):wpAny (model X.prog X.w) X.A (call (.ref f) us) (EP X pins σ Q) X.xe s:=by
 have r2:i5 (vs++dvs) (us++ds):=r.append hd
 have hl:(us++ds).length=ps.length:=by rw[← r2.length];exact F.len _ _ _ _ h
 refine wpAny_call (codeAny_mono (F.run X.A X.stack s H ⟨us,[]⟩ (us++ds) (vs++dvs) Q E hr I.env0 (hb s us I.kIn hl) r2 h) fun r s' hq=>?_)
 cases r with
 | error e=>exact hx pins σ H s e s' I hq
 | ok fl =>
  cases fl with
  | ret u=>exact I.after hq
  | next=>exact False.elim hq
  | brk=>exact False.elim hq
  | cont=>exact False.elim hq
theorem xX(F:L7 X.prog X.w X.K X.mg X.base CX k f fd ps sp)(hr:D7 k X.A)(hg:Gl X x)(hm:X.mg x=some (.ref f))(hk:PySem.W.keepIn X.K (.ref f)=true)(hb:cZ X.K fd ps ds)(hd:i5 dvs ds)(hx:ix CX X E)
  (ha:PA X (e :: es) t) (hdb:(x == ("__debug__" : Str))=false:=by decide) (he:starEach (e :: es) X.env=(false,eval e X.env) :: starEach es X.env:=by rfl) (hpl:(backTo pos (starEach es X.env)).any (·.1)=false:=by rfl) :
  PE X (.Call (.Name x p) (e :: es) [] pos) (Ec sp dvs E t):=by
 intro pins s σ H Q I h
 refine wpAny_Call_Name_kw (oo I hg hm ?_ hdb)
 refine PySem.W.callWith_K (h₀:=X.base) I.ok.mod.kin hk (thn (ha pos pins s σ H _ I h) fun us s1 ⟨vs,H1,I1,r,q⟩=>⟨I1.kIn,?_⟩) he hpl
 exact Bq F hr hb hd hx I1 r q
end
section
variable {X:Cx} {CX:CXT} {k:Nat} {f C:Addr} {fd:FuncData} {ps ks:List Str} {sp:Sp} {E:XK} {x m:Str} {p pos apos kpos:Pos} {e o:Expr} {es:List Expr} {kws:List Keyword} {te ta:TE} {t tk:TA} {nm:Option Str}
variable {g:List Value→List Value→List Value} {gV:List V→List V→List V}
end
structure f8(N P:List Str)(sc:Scope):Prop where
 kind:sc.kind = .function
 co:sc.isCoroutine=false
 gen:sc.isGenerator=false
 nd:N.Nodup
 pre:N.take P.length=P
 par:∀ x∈P,sc.names.lookup x=some .local∨sc.names.lookup x=some .cell
 nofree:∀ y∈sc.names,y.2 ≠ .free
theorem eY{kindOf:Str→Option NameKind}{x:Str}:∀{binds:List (Str × Value)} {m:Str→Option Value},(∀ v,(x,v)∉binds)→bindL kindOf binds m x=m x
 | [],_,_=>rfl
 | (n,v) :: r,m,h=>by
  unfold bindL
  rw[eY fun w hw=>h w (IC _ hw)]
  split
  ·have:x≠n:=by rintro rfl;exact h v IG
   simp[this]
  ·rfl
theorem fb{kindOf:Str→Option NameKind}{x:Str}:∀{binds:List (Str × Value)} {m:Str→Option Value},(∀ v,(x,v)∉binds)→bindC kindOf binds m x=m x
 | [],_,_=>rfl
 | (n,v) :: r,m,h=>by
  unfold bindC
  rw[fb fun w hw=>h w (IC _ hw)]
  split
  ·rfl
  ·have:x≠n:=by rintro rfl;exact h v IG
   simp[this]
theorem eZ{kindOf:Str→Option NameKind}{x:Str}{v:Value}:∀{P:List Str} {vs:List Value} {i:Nat} {m:Str→Option Value},P.Nodup→P[i]? = some x→vs[i]? = some v→kindOf x=some .local →
  bindL kindOf (P.zip vs) m x=some v
 | [],_,_,_,_,h,_,_=>by simp at h
 | _ :: _,[],_,_,_,_,h,_=>by simp at h
 | p :: P,w :: vs,0,m,nd,h1,h2,hk=>by
  simp at h1 h2;subst h1;subst h2
  show bindL kindOf ((p,w) :: P.zip vs) m p=_
  unfold bindL
  rw[eY fun v hv=>(Lh.mp nd).1 (Ko hv).1,if_pos hk]
  simp
 | p :: P,w :: vs,i+1,m,nd,h1,h2,hk=>by
  show bindL kindOf ((p,w) :: P.zip vs) m x=_
  unfold bindL
  exact eZ (i:=i) (Lh.mp nd).2 (by simpa using h1) (by simpa using h2) hk
theorem fc{kindOf:Str→Option NameKind}{x:Str}{v:Value}:∀{P:List Str} {vs:List Value} {i:Nat} {m:Str→Option Value},P.Nodup→P[i]? = some x→vs[i]? = some v→kindOf x≠some .local →
  bindC kindOf (P.zip vs) m x=some v
 | [],_,_,_,_,h,_,_=>by simp at h
 | _ :: _,[],_,_,_,_,h,_=>by simp at h
 | p :: P,w :: vs,0,m,nd,h1,h2,hk=>by
  simp at h1 h2;subst h1;subst h2
  show bindC kindOf ((p,w) :: P.zip vs) m p=_
  unfold bindC
  rw[fb fun v hv=>(Lh.mp nd).1 (Ko hv).1,if_neg hk]
  simp
 | p :: P,w :: vs,i+1,m,nd,h1,h2,hk=>by
  show bindC kindOf ((p,w) :: P.zip vs) m x=_
  unfold bindC
  exact fc (i:=i) (Lh.mp nd).2 (by simpa using h1) (by simpa using h2) hk
noncomputable def start(N:List Str)(vs:List V):St:=vs.map some++Km (N.length - vs.length) none
noncomputable def kj(CX:CXT)(P:Program)(w:World)(K:Iy)(mg:Str→Option Value)(base:Heap)(N:List Str)(qual:Str)(scope:Scope)(f:Addr)(cd:Value)(A:Around)(outer:List Env)(s:Shared)(H:Hp)(E:XK):Cx where
 prog:=P
 w:=w
 K:=K
 mg:=mg
 base:=base
 A:=A.deeper (envOfC qual scope s.heap.objs.size f cd)
 N:=N
 s₀:=s
 H₀:=H
 env:=envOfC qual scope s.heap.objs.size f cd
 outer:=outer
 stack:=envOfC qual scope s.heap.objs.size f cd :: outer
 ex:=[]
 calm:=true
 fn:=fun _=>true
 pn:=[]
 xe:=fun e s'=>wpAny (model P w) (A.deeper (envOfC qual scope s.heap.objs.size f cd)) (leaving (envOfC qual scope s.heap.objs.size f cd) e) (fun _ s''=>CX outer H s E e s'') (fun e' s''=>CX outer H s E e' s'') s'
theorem ky{sc:Scope}{n:Nat}{x:Str}(h:sc.names.lookup x=some .cell):∃ c,(cellsFrom n sc.names []).lookup x=some c:=by
 have q:=PySem.W.cellsFrom_some sc.names n [] (.inl h)
 exact Option.isSome_iff_exists.mp q
theorem qi{CX:CXT}{P:Program}{w:World}{K:Iy}{mg:Str→Option Value}{base:Heap}{N ps:List Str}{qual:Str}{scope:Scope}{f:Addr}{cd:Value}{A:Around}{outer:List Env}{s s1:Shared}{H:Hp}{E:XK}{us:List Value}{vs:List V}
  (S:f8 N ps scope) (hd:A.handled=none) (e0:mw P w K mg base A outer s H) (hl:vs.length=ps.length) (r:i5 vs us)
  (x:InCallC s s.heap.objs.size (bindL (envOfC qual scope s.heap.objs.size f cd).kindOf (ps.zip us) fun _=>none) (cellsFrom (s.heap.objs.size+1) scope.names []) (bindC (envOfC qual scope s.heap.objs.size f cd).kindOf (ps.zip us) fun _=>none) s1) :
  Inv (kj CX P w K mg base N qual scope f cd A outer s H E) [] (start N vs) H s1:=by
 have hpl:ps.length≤N.length:=by have:=congrArg LC S.pre;rw[Jg]at this;omega
 obtain⟨h1,tk,rfl,hk⟩:=x.done
 have noA:∀ b:Addr,b∉(kj CX P w K mg base N qual scope f cd A outer s H E).ex:=fun b z=>absurd (show b∈([]:List Addr)from z) (by simp)
 refine⟨⟨e0.mod,S.kind,rfl,rfl,IL _,fun y z c h1 h2=>?_,fun y hy=>?_,fun y c _ h=>?_,fun _=>hd,Around.frames_deeper e0.frames,.inr ⟨rfl,rfl⟩,fun b z=>absurd z (noA b),e0.bs,e0.bsz,fun b _ _=>noA b,fun b z=>absurd z (noA b),e0.funs,e0.frf⟩,
  rfl,e0.bare,Un.kept hk,⟨_,x.toInCall.ns,fun i y v h1 h2 h3=>?_⟩,fun y c h=>⟨_,x.cell y c h⟩,e0.hok.fresh (IL _),fun y c h=>?_,fun p hp=>absurd (show p∈([]:List (Addr × Obj))from hp) (by simp),e0.hok.kept hk,?_⟩
 ·exact name_of_addr x.apart (PySem.mem_of_lookup h1) (PySem.mem_of_lookup h2)
 ·have hy:scope.names.lookup y=some .cell∨scope.names.lookup y=some .free:=hy
  rcases hy with hy|hy
  ·exact ky hy
  ·exact absurd rfl (S.nofree _ (PySem.mem_of_lookup hy))
 ·exact LR (x.above y c (PySem.mem_of_lookup h))
 ·have hi:i<vs.length:=by
   unfold start at h2
   by_cases hi:i<vs.length
   ·exact hi
   ·rw[JC (by simpa using hi)]at h2
    rw[JN]at h2
    split at h2<;>cases h2
  have ha:vs[i]? = some v:=by
   unfold start at h2
   rw[Kb (by simpa using hi),Jb]at h2
   cases e:vs[i]? with
   | none=>rw[e]at h2;cases h2
   | some a=>rw[e]at h2;cases h2;rfl
  obtain⟨u,hu,rv⟩:=r.get ha
  have hp:ps[i]? = some y:=by
   rw[← S.pre,Lw (by omega)];exact h1
  have ndP:ps.Nodup:=by rw[← S.pre];exact S.nd.sublist (List.take_sublist _ _)
  refine⟨u,rv,?_⟩
  rcases S.par y (IU hp)with k|k
  ·exact .inl ⟨k,eZ ndP hp hu k⟩
  ·obtain⟨c,e⟩:=ky (n:=s.heap.objs.size+1) k
   refine .inr ⟨.inl k,c,e,?_⟩
   have q:=x.cell y c e
   rw[fc ndP hp hu (by show scope.names.lookup y≠_;rw[k];decide)]at q
   exact q
 ·exact e0.hok.fresh (LR (x.above y c (PySem.mem_of_lookup h)))
 ·unfold start
  show _=N.length
  rw[IX,ID,KY]
  omega
theorem ET{CX:CXT}{P:Program}{w:World}{K:Iy}{mg:Str→Option Value}{base:Heap}{k:Nat}{f:Addr}{name qual:Str}{params:Arguments}{body:List Stmt}{scope:Scope}{dV kV doc pm cdv ct oc:Value}{an od:Option Addr}
  {osl:Array (Option Value)} {N ps:List Str} {sp:Sp} (lk:K.lookup f=some ⟨oc,od,.func (PySem.W.fnOf name qual params body scope dV kV doc pm an cdv ct),osl⟩) (hcd:PySem.W.codeIn K cdv qual=true) (S:f8 N ps scope)
  (len:∀ vs H Q E,sp vs H Q E→vs.length=ps.length)
  (hbody:∀(A:Around) (outer:List Env) (s:Shared) (H:Hp) (vs:List V) (Q:VK) (E:XK),D7 k (A.deeper (envOfC qual scope s.heap.objs.size f cdv))→sp vs H Q E →
   ∃ t,PSs (kj CX P w K mg base N qual scope f cdv A outer s H E) body t∧t { nx:=fun _ H'=>Q .non H',rt:=Q } (start N vs) H) :
  L7 P w K mg base CX (k+1) f (PySem.W.fnOf name qual params body scope dV kV doc pm an cdv ct) ps sp:=by
 refine⟨len,fun A outer s H args us vs Q E hr e0 hb r hsp=>?_⟩
 have hl:=len _ _ _ _ hsp
 have KX:K.In s.heap:=e0.mod.kin.keeps fun b o e=>(e0.bs b o e).1
 have lim:s.heap.NoLimit:=e0.mod.nolimit.keeps fun b o e=>(e0.bs b o e).1
 have hkind:∀ y∈ps.zip us,scope.names.lookup y.1=some .local∨(scope.names.lookup y.1=some .cell∧((cellsFrom (s.heap.objs.size+1) scope.names []).lookup y.1).isSome=true):=fun⟨n,v⟩ hy=>by
  rcases S.par n (Ko hy).1 with q|q
  ·exact .inl q
  ·exact .inr ⟨q,PySem.W.cellsFrom_some _ _ _ (.inl q)⟩
 refine codeAny_call_function hr.depth (KX _ _ lk) rfl S.co S.gen rfl (PySem.W.codeRec_of KX hcd) (hb _ _ _ _ ?_)
 refine wpAny_newFunctionEnv_cells S.kind hkind fun env he s1 x=>?_
 subst he
 refine⟨lim.keeps x.toInCall.keep,codeAny_func ?_⟩
 obtain⟨t,ht,hq⟩:=hbody A outer s H vs Q E (hr.deeper _) hsp
 have I:Inv (kj CX P w K mg base N qual scope f cdv A outer s H E) [] (start N vs) H s1:=qi S hr.hd e0 hl r x
 refine wpAny_mono (ht [] s1 (start N vs) H _ I hq) (fun fl s' hs=>?_) fun e s' hs=>hs
 have fin:∀{σ':St} {H':Hp} {v:V} {u:Value},Inv (kj CX P w K mg base N qual scope f cdv A outer s H E) [] σ' H' s'→j6 v u→Q v H'→CE outer P w H s Q u s' :=
  fun{σ' H' v u} J rv q=>⟨v,H',J.os,J.bare,J.base,J.hok,rv,q⟩
 cases fl with
 | ret u =>
  obtain⟨v,σ',H',J,rv,q⟩:=hs
  exact fin J rv q
 | next =>
  obtain⟨σ',H',J,q⟩:=hs
  exact fin (v:=V.non) (u:=Value.none) J rfl q
 | brk =>
  obtain⟨_,_,_,q⟩:=hs
  exact False.elim q
 | cont =>
  obtain⟨_,_,_,q⟩:=hs
  exact False.elim q
section
variable {X:Cx} {x:Str} {p pos:Pos} {e:Expr} {es:List Expr} {t:TA} {id T:String} {r:List V→Hp→VK→Prop}
def tCB(r:List V→Hp→VK→Prop)(t:TA):TE:=fun σ H Q=>t σ H fun vs H1=>r vs H1 Q
theorem tW(hc:v9 X (.builtin id) r)(hg:Gl X x)(hm:X.mg x=none)(hv:bootBuiltins x=some (.builtin id))(ha:PA X (e :: es) t)(hn:x ≠ "__name__" := by decide)(hdb:(x == ("__debug__" : Str))=false:=by decide)
  (he:starEach (e :: es) X.env=(false,eval e X.env) :: starEach es X.env:=by rfl) (hpl:(backTo pos (starEach es X.env)).any (·.1)=false:=by rfl):PE X (.Call (.Name x p) (e :: es) [] pos) (tCB r t):=by
 intro pins s σ H Q I h
 refine wpAny_Call_Name_kw (Z2 I hg hm hv ?_ hn hdb)
 exact PyProof.Rows.callWith_builtin1 (thn (ha pos pins s σ H _ I h) fun us s1 ⟨vs,H1,I1,r1,q1⟩=>hc pins s1 σ H1 vs us Q I1 r1 q1) he hpl
theorem Y8(hc:v9 X (.type T) r)(hg:Gl X x)(hm:X.mg x=none)(hv:bootBuiltins x=some (.type T))(ha:PA X (e :: es) t)(hn:x ≠ "__name__" := by decide)(hdb:(x == ("__debug__" : Str))=false:=by decide)
  (he:starEach (e :: es) X.env=(false,eval e X.env) :: starEach es X.env:=by rfl) (hpl:(backTo pos (starEach es X.env)).any (·.1)=false:=by rfl):PE X (.Call (.Name x p) (e :: es) [] pos) (tCB r t):=by
 intro pins s σ H Q I h
 refine wpAny_Call_Name_kw (Z2 I hg hm hv ?_ hn hdb)
 exact PyProof.Rows.callWith_type1 (thn (ha pos pins s σ H _ I h) fun us s1 ⟨vs,H1,I1,r1,q1⟩=>hc pins s1 σ H1 vs us Q I1 r1 q1) he hpl
end
end L2
namespace HT
open PySem PyProof.Rows
noncomputable def B5:List Int→List Int→Bool
 | [],[]=>false
 | [],_ :: _=>true
 | _ :: _,[]=>false
 | x :: xs,y :: ys=>if x=y then B5 xs ys else decide (x<y)
theorem K9(x y:Int)(xs ys:List Int):B5 (x :: xs) (y :: ys)=if x=y then B5 xs ys else decide (x<y):=rfl
theorem dk:B5 [] []=false:=rfl
theorem cH(y:Int)(ys:List Int):B5 [] (y :: ys)=true:=rfl
theorem cI(x:Int)(xs:List Int):B5 (x :: xs) []=false:=rfl
theorem kb(A:Around)(s:Shared)(a:Int)(t:Tok)(c:Int)(u:Tok):∃ e,SeqAt.EqAt A s (.int a t) (.int c u) e∧(e=true↔a=c) :=
 ⟨(a == c),SeqAt.EqAt.int_int a t c u,by simp⟩
theorem tF(A:Around)(s:Shared)(a:Int)(t:Tok)(c:Int)(u:Tok)(prog:Program)(w:World)(E:Value→Shared→Prop)(Q:Value→Shared→Prop)(h:Q (.bool (decide (a<c))) s) :
  wpAny (model prog w) A (richCompare .Lt (.int a t) (.int c u)) Q E s :=
 (PyProof.Rows.lt_int h:wpAny (model prog w) A (compareOp .Lt (.int a t) (.int c u)) Q E s)
section
open PySem.SeqAt
open PySem.AutoSeq1 (wpAny_loadPart')
open PySem.MeetsSeq PySem.MeetsSeq2 PySem.MeetsSeq3
theorem de(l b:Addr)(items items2:Array Value)(n n2:Nat)(dd dd2:Option Addr)(sl sl2:Array (Option Value))(ns ms:List Int)(hi:IntsAre items.toList ns)(hj:IntsAre items2.toList ms) :
  Meets (Builtin.«tuple.__lt__» ⟨[.ref l,.ref b],[]⟩)
   (fun _ R s=>s.heap.get? l=some { cls:=.type "tuple",dict:=dd,data:=.seq items n,slots:=sl }∧s.heap.get? b=some { cls:=.type "tuple",dict:=dd2,data:=.seq items2 n2,slots:=sl2 } ∧
    R (.ok (.ret (.bool (B5 ns ms)))) s) :=
 .of_wp fun prog w A R s h=>by
  obtain⟨hp,g,d,tk,os⟩:=s;obtain⟨hl,hb,h⟩:=h
  have f2:=AutoSeq1.sub_tuple_tuple
  have z1:items.size=ns.length:=by rw[← hi.length];simp
  have z2:items2.size=ms.length:=by rw[← hj.length];simp
  wp_walk using wpAny_loadPart' hl,wpAny_loadPart' hb,wpAny_forIn_list _ (fun m9 b s'=>b.1=none∧s' = ⟨hp,g,d,tk,os⟩∧∃(vs ws:List Value) (ns' ms':List Int),m9=vs.zip ws ∧
   IntsAre vs ns'∧IntsAre ws ms'∧ns'.length+items2.size=ms'.length+items.size∧R (.ok (.ret (.bool (B5 ns' ms')))) ⟨hp,g,d,tk,os⟩) _
  case turn =>
   rintro⟨y,x⟩ m9 b s' ⟨hb',rfl,vs,ws,ns',ms',hz,hvi,hwi,hlen,hR⟩
   cases hvi with
   | nil=>rw[List.zip_nil_left]at hz;cases hz
   | cons a t hvi' =>
    cases hwi with
    | nil=>rw[List.zip_nil_right]at hz;cases hz
    | cons c u hwi' =>
     rw[KJ]at hz
     injection hz with hyx hrest
     injection hyx with hy hx
     subst hy hx
     rw[K9]at hR
     simp only[IA]at hlen
     obtain⟨e,he,hiff⟩:=kb A.in1 ⟨hp,g,d,tk,os⟩ a t c u
     refine Iz (he prog w _ _ ?_)
     cases e with
     | true =>
      rw[if_pos (hiff.mp rfl)]at hR
      wp_walk
      exact⟨rfl,rfl,_,_,_,_,hrest,hvi',hwi',by omega,hR⟩
     | false =>
      rw[if_neg (fun q=>absurd (hiff.mpr q) Je)]at hR
      have hri:=tF A.in1 ⟨hp,g,d,tk,os⟩ a t c u prog w
      wp_walk using hri
      exact⟨_,rfl,by simpa using hR⟩
  case fin =>
   rintro⟨b1,b2⟩ s' ⟨hb',rfl,vs,ws,ns',ms',hz,hvi,hwi,hlen,hR⟩
   simp only at hb'
   subst hb'
   have hv:B5 ns' ms'=decide (items.size<items2.size):=by
    cases hvi with
    | nil =>
     cases hwi with
     | nil =>
      simp only[Li]at hlen
      rw[dk]
      exact(decide_eq_false (by omega)).symm
     | cons c u hw =>
      simp only[Li,IA]at hlen
      rw[cH]
      exact(decide_eq_true (by omega)).symm
    | cons a t hv =>
     cases hwi with
     | nil =>
      simp only[Li,IA]at hlen
      rw[cI]
      exact(decide_eq_false (by omega)).symm
     | cons c u hw =>
      rw[KJ]at hz
      cases hz
   rw[hv]at hR
   wp_walk
   exact⟨_,rfl,by simpa[Builtin.Tuple.tupleCompareSizes]using hR⟩
  case h =>
   exact⟨rfl,rfl,items.toList,items2.toList,ns,ms,rfl,hi,hj,by omega,h⟩
end
section
variable {prog:Program} {w:World} {A:Around} {E:Value→Shared→Prop} {s:Shared}
theorem cE{l b:Addr}{items items2:Array Value}{ns ms:List Int}{Q:Value→Shared→Prop}(hl:IsTup s.heap l items)(hb:IsTup s.heap b items2)(hi:IntsAre items.toList ns)(hj:IntsAre items2.toList ms)
  (hu:A.units<cLine) (h:Q (.bool (B5 ns ms)) s):wpAny (model prog w) A (compareOp .Lt (.ref l) (.ref b)) Q E s:=by
 obtain⟨⟨cls,dd,data,sl⟩,ho,hc,n,hd⟩:=id hl
 obtain⟨⟨cls2,dd2,data2,sl2⟩,ho2,hc2,n2,hd2⟩:=id hb
 simp only at hc hd hc2 hd2
 subst hc hd hc2 hd2
 exact richCompare_meets_room (op:=.Lt) ⟨_,ho,rfl⟩ ⟨_,ho2,rfl⟩ PySem.F.slot_tuple_lt PySem.F.entry_tuple_lt (PySem.F.args_tuple_lt_2 _ _) (de l b items items2 n n2 dd dd2 sl sl2 ns ms hi hj)
  ⟨ho,ho2,show Value.bool (B5 ns ms)≠Value.notImplemented∧Q (.bool (B5 ns ms)) s from⟨(fun x=>nomatch x),h⟩⟩ hu
noncomputable def sIx(n d:Nat):Option Int→Nat
 | none=>d
 | some v=>if v<0 then(v+(n:Int)).toNat else min v.toNat n
theorem sY(n d:Nat):sIx n d none=d:=rfl
theorem xx(n d k:Nat):sIx n d (some (k:Int))=min k n:=by
 show(if (k:Int)<0 then((k:Int)+(n:Int)).toNat else min (k:Int).toNat n)=min k n
 rw[if_neg (by omega),Ly]
theorem Bn(n d:Nat)(hd:d≤n)(o:Option Int):sIx n d o≤n:=by
 cases o with
 | none=>exact hd
 | some v =>
  show(if v<0 then(v+(n:Int)).toNat else min v.toNat n)≤n
  by_cases hv:v<0
  ·rw[if_pos hv];omega
  ·rw[if_neg hv];exact LI _ _
theorem pd(v:Int)(n d:Nat):(if v<0 then max (v+(n:Int)) 0 else min v (n:Int))=((sIx n d (some v):Nat):Int):=by
 show(if v<0 then max (v+(n:Int)) 0 else min v (n:Int))=(((if v<0 then(v+(n:Int)).toNat else min v.toNat n):Nat):Int)
 by_cases hv:v<0
 ·simp only[if_pos hv];omega
 ·simp only[if_neg hv];omega
theorem mj(lo hi:Option Int)(n:Nat):Builtin.Slice.sliceAdjust lo hi 1 (n:Int)=(((sIx n 0 lo:Nat):Int),((sIx n n hi:Nat):Int)):=by
 have h1:¬ ((1:Int)<0):=by omega
 unfold Builtin.Slice.sliceAdjust
 simp only[h1,if_false]
 refine Prod.ext ?_ ?_
 ·cases lo with
  | none=>rfl
  | some v=>exact pd v n 0
 ·cases hi with
  | none=>rfl
  | some v=>exact pd v n n
theorem lI(i j:Nat):Builtin.Slice.slicePlaces (i:Int) (j:Int) 1=j - i:=by
 unfold Builtin.Slice.slicePlaces
 have h1:(1:Int) > 0:=by omega
 simp only[h1,if_true,Int.ediv_one]
 split<;>omega
theorem bS{v:Value}{o:Option Int}{Q:Option Int→Shared→Prop}(p:IsPart v o)(h:Q o s):wpAny (model prog w) A (Builtin.Slice.slicePartIndex v) Q E s:=by
 cases p with
 | none=>exact slicePart_none h
 | int i t=>exact slicePart_int h
theorem Y1{sl:Addr}{vl vu:Value}{lo hi:Option Int}{n:Nat}{Q:Int × Int × Nat→Shared→Prop}(hs:s.heap.IsSliceOf sl vl vu .none)(pl:IsPart vl lo)(pu:IsPart vu hi)
  (h:Q (((sIx n 0 lo:Nat):Int),1,sIx n n hi - sIx n 0 lo) s):wpAny (model prog w) A (Builtin.Slice.sliceApplied (.ref sl) (pure (n:Int))) Q E s:=by
 obtain⟨os,hos,hcs,hds⟩:=id hs
 unfold Builtin.Slice.sliceApplied Builtin.Slice.sliceFields
 refine Iz (Iz (wpAny_field hos hds (x:=vl) rfl (Iz (wpAny_field hos hds (x:=vu) rfl (Iz (wpAny_field hos hds (x:=.none) rfl (IM ?_)))))))
 refine Iz (slicePart_none ?_)
 show wpAny _ _ (if ((1:Int) == 0)=true then _ else _) _ _ s
 rw[if_neg (by decide)]
 refine Iz (bS pl (Iz (bS pu (Iz (IM ?_)))))
 show wpAny _ _ (match Builtin.Slice.sliceAdjust lo hi 1 (n:Int)with|(lo,hi)=>pure (lo,(1:Int),Builtin.Slice.slicePlaces lo hi 1)) _ _ s
 rw[mj lo hi n]
 show wpAny _ _ (pure (((sIx n 0 lo:Nat):Int),(1:Int),Builtin.Slice.slicePlaces ((sIx n 0 lo:Nat):Int) ((sIx n n hi:Nat):Int) 1)) _ _ s
 rw[lI]
 exact IM h
theorem tP(xs:Array Value)(i k:Nat):((JK k).filterMap fun(m:Nat)=>xs[((i:Int)+(m:Int)*1).toNat]?).toArray=((xs.toList.drop i).take k).toArray:=by
 have e:(fun(m:Nat)=>xs[((i:Int)+(m:Int)*1).toNat]?)=fun m=>xs[i+m]?:=by
  funext m
  have:((i:Int)+(m:Int)*1).toNat=i+m:=by omega
  rw[this]
 rw[e]
 have:=pick_run xs i k
 rw[List.filterMap_map]at this
 have e2:((fun x=>xs[x]?) ∘ fun x=>i+x)=fun m=>xs[i+m]?:=rfl
 rw[e2]at this
 rw[this]
theorem W7{t sl:Addr}{items:Array Value}{vl vu:Value}{lo hi:Option Int}{Q:Value→Shared→Prop}(ht:IsTup s.heap t items)(hs:s.heap.IsSliceOf sl vl vu .none)(pl:IsPart vl lo)(pu:IsPart vu hi)
  (hw:¬ (sIx items.size 0 lo=0∧sIx items.size items.size hi=items.size))
  (h:Q (.ref s.heap.objs.size) { s with heap:=s.heap.push { cls:=.type "tuple",data:=.seq ((items.toList.drop (sIx items.size 0 lo)).take (sIx items.size items.size hi - sIx items.size 0 lo)).toArray } })
  (hsz:items.size≤sizeLine):wpAny (model prog w) A (getItem (.ref t) (.ref sl)) Q E s:=by
 have htake:sizeOk (.seq ((items.toList.drop (sIx items.size 0 lo)).take (sIx items.size items.size hi - sIx items.size 0 lo)).toArray):=by
  show((items.toList.drop (sIx items.size 0 lo)).take (sIx items.size items.size hi - sIx items.size 0 lo)).toArray.size≤sizeLine
  rw[IY,Jg,Jq,Array.length_toList]
  omega
 have hj:sIx items.size items.size hi≤items.size:=Bn _ _ (IL _) hi
 obtain⟨os,hos,hcs,hds⟩:=id hs
 have hTs:s.TypeIs (.ref sl) "slice" := ⟨os,hos,hcs⟩
 unfold getItem
 try with_reducible refine wpAny_holding ?_
 first|refine Iz (IM ?_)|skip
 refine Iz (wpAny_sequenceKey ht.typeIs (by decide) ?_)
 refine Iz (wpAny_callSpecial?_slot (name:=Str.ofString "__getitem__") ht.typeIs PyProof.Rows.slot_tuple_getitem
  (wpAny_call_entry PyProof.Rows.slot_tuple_getitem ht.typeIs entry_tuple_getitem ?_ (args_tuple_getitem _ _)))
 show wpAny _ _ (Builtin.Tuple.tupleItemsOf (.ref t) >>= _) _ _ s
 refine Iz (tupleItemsOf_ ht ?_)
 refine Iz (wpAny_typeOf hTs ?_)
 rw[if_pos (by decide)]
 refine Iz (Y1 hs pl pu ?_)
 have hno:¬ ((((sIx items.size 0 lo:Nat):Int) == 0 && (1:Int) == 1 && (sIx items.size items.size hi - sIx items.size 0 lo) == items.size)=true):=by
  intro q
  rw[Kt,Kt]at q
  have q1:((sIx items.size 0 lo:Nat):Int)=0:=eq_of_beq q.1.1
  have q2:sIx items.size items.size hi - sIx items.size 0 lo=items.size:=eq_of_beq q.2
  exact hw ⟨by omega,by omega⟩
 show wpAny _ _ (if (((sIx items.size 0 lo:Nat):Int) == 0 && (1:Int) == 1 && (sIx items.size items.size hi - sIx items.size 0 lo) == items.size)=true then _ else _) _ _ s
 rw[if_neg hno,tP]
 first
  | exact Iz (m:=Builtin.Tuple.tupleExact _) (wpAny_newObj_type (IM ⟨_,rfl,IM h⟩) htake)
  | exact Iz (m:=Builtin.Tuple.tupleExact _) (wpAny_newObj_type (Iz (IM (IM ⟨_,rfl,IM h⟩))) htake)
  | exact Iz (Iz (m:=Builtin.Tuple.tupleExact _) (wpAny_newObj_type (IM (IM ⟨_,rfl,IM h⟩)) htake))
  | exact Iz (Iz (m:=Builtin.Tuple.tupleExact _) (wpAny_newObj_type (IM ⟨_,rfl,IM h⟩) htake))
end
end HT
namespace L2
open PySem PySem.Spec PyProof.Rows
noncomputable abbrev TO:=St→Hp→(Option Int→Hp→Prop)→Prop
def PO(X:Cx)(e:Option Expr)(t:TO):Prop :=
 ∀(pins:List (Addr × Obj)) (s:Shared) (σ:St) (H:Hp) (Q:Option Int→Hp→Prop),Inv X pins σ H s→t σ H Q →
  wpAny (model X.prog X.w) X.A (evalPart e X.env) (fun u s'=>∃ o H',Inv X pins σ H' s'∧IsPart u o∧Q o H') X.xe s
def xi:TO:=fun _ H Q=>Q none H
def DV(t:TE):TO:=fun σ H Q=>t σ H fun x H1=>∃ i,x = .int i∧Q (some i) H1
theorem cN{ns:List Int}:∀{us:List Value},i5 (ns.map V.int) us→IntsAre us ns:=by
 induction ns with
 | nil=>intro us r;rw[Ki]at r;cases r;exact .nil
 | cons n ns ih =>
  intro us r
  rw[Jj]at r
  cases r with
  | cons r1 r2 =>
   obtain⟨t,e⟩:=r1
   subst e
   exact .cons n t (ih r2)
section
variable {X:Cx} {e:Expr} {te:TE} {lo hi:Option Expr} {tl th:TO} {pos p2:Pos}
theorem xP:PO X none xi:=by
 intro pins s σ H Q I h
 rw[evalPart_none]
 exact IM ⟨none,H,I,.none,h⟩
theorem xO(h:PE X e te):PO X (some e) (DV te):=by
 intro pins s σ H Q I hw
 rw[evalPart_some]
 refine thn (h pins s σ H _ I hw) fun u s1 zz=>?_
 obtain⟨x,H1,I1,r1,q1⟩:=zz
 obtain⟨i,rfl,q⟩:=q1
 obtain⟨t,rfl⟩:=r1
 exact⟨some i,H1,I1,.int i t,q⟩
def SlR(X:Cx)(r:V→Option Int→Option Int→Hp→VK→Prop):Prop :=
 ∀(pins:List (Addr × Obj)) (s:Shared) (σ:St) (H:Hp) (x:V) (v vl vu:Value) (lo hi:Option Int) (sl:Addr) (Q:VK),Inv X pins σ H s→j6 x v→s.heap.IsSliceOf sl vl vu .none→IsPart vl lo→IsPart vu hi→r x lo hi H Q →
  ∃ T id,typeLookup (.type T) "__getitem__" = pure (some (.builtin id))∧s.TypeIs v T∧wpAny (model X.prog X.w) X.A (getItem v (.ref sl)) (EP X pins σ Q) X.xe s
theorem SlR.or{r r':V→Option Int→Option Int→Hp→VK→Prop}(h:SlR X r)(h':SlR X r'):SlR X (fun x lo hi H Q=>r x lo hi H Q∨r' x lo hi H Q):=by
 intro pins s σ H x v vl vu lo hi sl Q I rx hs pl pu q
 rcases q with q|q
 ·exact h pins s σ H x v vl vu lo hi sl Q I rx hs pl pu q
 ·exact h' pins s σ H x v vl vu lo hi sl Q I rx hs pl pu q
def tSl(r:V→Option Int→Option Int→Hp→VK→Prop)(te:TE)(tl th:TO):TE:=fun σ H Q=>te σ H fun x H1=>tl σ H1 fun l H2=>th σ H2 fun u H3=>r x l u H3 Q
theorem tS{r:V→Option Int→Option Int→Hp→VK→Prop}(hr:SlR X r)(he:PE X e te)(hl:PO X lo tl)(hu:PO X hi th):PE X (.Subscript e (.Slice lo hi none p2) pos) (tSl r te tl th):=by
 intro pins s σ H Q I h
 refine Subscript_ (thn (he pins s σ H _ I h) fun v s1 zz=>?_)
 obtain⟨x,H1,I1,r1,q1⟩:=zz
 refine wpAny_Slice (thn (hl pins s1 σ H1 _ I1 q1) fun vl s2 ⟨l,H2,I2,pl,q2⟩=>thn (hu pins s2 σ H2 _ I2 q2) fun vu s3 zz=>?_)
 obtain⟨u,H3,I3,pu,q3⟩:=zz
 rw[evalPart_none]
 refine IM ?_
 have I4:Inv X pins σ H3 { s3 with heap:=s3.heap.push { cls:=.type "slice",data:=.fields #[vl,vu,.none] } }:=I3.kept (t':=s3.toks) fun b ob q=>IB _ q
 obtain⟨T,id,hT,ht,hg⟩:=hr pins { s3 with heap:=s3.heap.push { cls:=.type "slice",data:=.fields #[vl,vu,.none] } } σ H3 x v vl vu l u s3.heap.objs.size Q I4 r1 (Heap.IsSliceOf.new ..) pl pu q3
 show wpAny (model X.prog X.w) X.A (subscriptTail e (.Slice lo hi none p2) v (.ref s3.heap.objs.size)) (EP X pins σ Q) X.xe { s3 with heap:=s3.heap.push { cls:=.type "slice",data:=.fields #[vl,vu,.none] } }
 exact tail_any (ops:=[.ref s3.heap.objs.size,v]) ht hT hg (by with_unfolding_all rfl)
noncomputable def kl(xs:List V)(lo hi:Option Int):List V:=(xs.drop (HT.sIx xs.length 0 lo)).take (HT.sIx xs.length xs.length hi - HT.sIx xs.length 0 lo)
theorem aw(xs:List V)(lo hi:Option Int):(kl xs lo hi).length≤xs.length:=by
 unfold kl
 rw[Jg,Jq]
 omega
noncomputable def FU(K:Iy):V→Option Int→Option Int→Hp→VK→Prop:=fun x lo hi H Q=>∃ a xs,x = .ref a∧SqT K H a xs ∧
 ¬ (HT.sIx xs.length 0 lo=0∧HT.sIx xs.length xs.length hi=xs.length)∧∀ p,H p=none→Q (.ref p) (upd H p (.tup (kl xs lo hi)))
theorem Bi:SlR X (FU X.K):=by
 intro pins s σ H x v vl vu lo hi sl Q I rx hs pl pu h
 obtain⟨a,xs,rfl,hx,hw,q⟩:=h
 cases rx
 obtain⟨its,r,ht,hz⟩:=I.tuple hx
 have hlen:its.toArray.size=xs.length:=by rw[IY];exact r.length.symm
 refine⟨"tuple",_,PyProof.Rows.slot_tuple_getitem.lookup,ht.typeIs,?_⟩
 refine HT.W7 ht hs pl pu (by rw[hlen];exact hw) ?_ (by rw[hlen];exact hz)
 rw[hlen]
 refine⟨.ref s.heap.objs.size,_,I.laid (t':=s.toks) (o:=.tup (kl xs lo hi)) (fun b ob q=>IB _ q) (IL _) ?_,rfl,q _ (I.hok.fresh (IL _))⟩
 exact⟨IT (aw xs lo hi) hz,_,(r.drop (HT.sIx xs.length 0 lo)).take (HT.sIx xs.length xs.length hi - HT.sIx xs.length 0 lo),IsTup.new _ _⟩
end
noncomputable def ixN(n:Nat)(i:Int):Option Nat:=if 0≤i then(if i<n then some i.toNat else none)else if -(n:Int)≤i then some (i+n).toNat else none
noncomputable def atI{α:Type}(xs:List α)(i:Int):Option α:=(ixN xs.length i).bind fun j=>xs[j]?
theorem oH{n:Nat}{i:Int}{j:Nat}(h:ixN n i=some j):seqIndex? i n=some j∧j<n∧-(n:Int)≤i∧i<n:=by
 unfold ixN at h
 by_cases h0:0≤i
 ·rw[if_pos h0]at h
  by_cases h1:i<n
  ·rw[if_pos h1]at h
   have e:i.toNat=j:=Option.some.inj h
   exact⟨by rw[seqIndex_of h0 h1,e],by omega,by omega,h1⟩
  ·rw[if_neg h1]at h;cases h
 ·rw[if_neg h0]at h
  by_cases h1:-(n:Int)≤i
  ·rw[if_pos h1]at h
   have e:(i+n).toNat=j:=Option.some.inj h
   exact⟨by rw[seqIndex_neg (by omega) h1,e],by omega,h1,by omega⟩
  ·rw[if_neg h1]at h;cases h
theorem pj{α:Type}{xs:List α}{i:Int}{v:α}(h:atI xs i=some v):∃ j,seqIndex? i xs.length=some j∧xs[j]? = some v∧j<xs.length∧-(xs.length:Int)≤i∧i<xs.length:=by
 unfold atI at h
 cases e:ixN xs.length i with
 | none=>rw[e]at h;cases h
 | some j =>
  rw[e]at h
  obtain⟨h1,h2,h3,h4⟩:=oH e
  exact⟨j,h1,h,h2,h3,h4⟩
def iw(b:Expr):Prop:=∀ o i,subscripted b false o i=operate [o,i] (getItem o i)
def IxR(X:Cx)(r:R2):Prop :=
 ∀(value slice:Expr) (pins:List (Addr × Obj)) (s:Shared) (σ:St) (H:Hp) (x y:V) (v u:Value) (Q:VK),Inv X pins σ H s→j6 x v→j6 y u→r x y H Q →
  subscripted slice false v u=operate [v,u] (getItem v u)→wpAny (model X.prog X.w) X.A (subscriptTail value slice v u) (EP X pins σ Q) X.xe s
def MtR(X:Cx)(id:String)(r:V→List V→Hp→VK→Prop):Prop :=
 ∀(pins:List (Addr × Obj)) (s:Shared) (σ:St) (H:Hp) (x:V) (xs:List V) (v:Value) (us:List Value) (Q:VK),Inv X pins σ H s→j6 x v→i5 xs us→r x xs H Q →
  wpAny (model X.prog X.w) X.A (call (.builtin id) (v :: us)) (EP X pins σ Q) X.xe s
section
variable {X:Cx} {a b:Expr} {ta tb:TE} {pos:Pos}
theorem IxR.or{r r':R2}(h:IxR X r)(h':IxR X r'):IxR X (fun x y H Q=>r x y H Q∨r' x y H Q):=by
 intro value slice pins s σ H x y v u Q I rx ry q hs
 rcases q with q|q
 ·exact h value slice pins s σ H x y v u Q I rx ry q hs
 ·exact h' value slice pins s σ H x y v u Q I rx ry q hs
theorem MtR.or{id:String}{r r':V→List V→Hp→VK→Prop}(h:MtR X id r)(h':MtR X id r'):MtR X id (fun x xs H Q=>r x xs H Q∨r' x xs H Q):=by
 intro pins s σ H x xs v us Q I rx rs q
 rcases q with q|q
 ·exact h pins s σ H x xs v us Q I rx rs q
 ·exact h' pins s σ H x xs v us Q I rx rs q
theorem Em{r:R2}(hr:IxR X r)(ha:PE X a ta)(hb:PE X b tb)(hs:iw b):PE X (.Subscript a b pos) (tOp r ta tb):=by
 intro pins s σ H Q I h
 exact Subscript_ (CQ ha hb I h fun v u s2 x y H2 I2 rx ry q=>hr a b pins s2 σ H2 x y v u Q I2 rx ry q (hs _ _))
def FX(K:Iy):R2:=fun x y H Q=>∃ p xs i v,x = .ref p∧y = .int i∧SqL K H p xs∧atI xs i=some v∧Q v H
def FW(K:Iy):R2:=fun x y H Q=>∃ p xs i v,x = .ref p∧y = .int i∧SqT K H p xs∧atI xs i=some v∧Q v H
theorem yy:IxR X (FX X.K):=by
 intro value slice pins s σ H x y v u Q I rx ry h hs
 obtain⟨p,xs,i,z,rfl,rfl,hq,he,q⟩:=h
 cases rx
 obtain⟨t,rfl⟩:=ry
 obtain⟨its,r,pl,hz⟩:=I.list hq
 obtain⟨j,h1,h2,h3,h4,h5⟩:=pj he
 obtain⟨w,ew,rw'⟩:=r.get h2
 have hl:=r.length
 have hn:=gD
 have fin:EP X pins σ Q w s:=⟨z,H,I,rw',q⟩
 by_cases h0:0≤i
 ·have hj:i.toNat=j:=by
   rw[seqIndex_of h0 h5]at h1
   exact Option.some.inj h1
  exact item_listR pl.isList h0 (by omega) (by rw[hj];simpa using ew) fin hs
 ·have hj:(i+(its.toArray.size:Int)).toNat=j:=by
   rw[seqIndex_neg (by omega) h4]at h1
   rw[IY,← hl]
   exact Option.some.inj h1
  exact subscriptTail_builtinR (x:=w) pl.isList.typeIs slot_list_getitem.lookup
   (wpAny_getItem_list_neg (Q:=fun r s'=>r=w∧EP X pins σ Q r s') pl.isList (by omega) (by rw[IY]<;>omega) (by omega) (by rw[hj];simpa using ew) ⟨rfl,fin⟩) hs
theorem Cq:IxR X (FW X.K):=by
 intro value slice pins s σ H x y v u Q I rx ry h hs
 obtain⟨p,xs,i,z,rfl,rfl,hq,he,q⟩:=h
 cases rx
 obtain⟨t,rfl⟩:=ry
 obtain⟨its,r,pl,hz⟩:=I.tuple hq
 obtain⟨j,h1,h2,h3,h4,h5⟩:=pj he
 obtain⟨w,ew,rw'⟩:=r.get h2
 have hl:=r.length
 have hn:=gD
 have fin:EP X pins σ Q w s:=⟨z,H,I,rw',q⟩
 exact subscriptTail_builtinR (x:=w) pl.typeIs slot_tuple_getitem.lookup
  (getItem_tuple (j:=j) (Q:=fun r s'=>r=w∧EP X pins σ Q r s') pl (by omega) (by omega) (by rw[IY,← hl];exact h1) (by simpa using ew) ⟨rfl,fin⟩) hs
theorem lQ(its:List Value)(n j:Nat)(u:Value):Obj.mapSeq (·.setIfInBounds j u) { cls:=.type "list",data:=.seq its.toArray n } = { cls:=.type "list",data:=.seq (its.set j u).toArray n }:=by
 simp[Obj.mapSeq]
theorem Inv.lst{pins:List (Addr × Obj)}{σ:St}{H:Hp}{s:Shared}{p:Addr}{xs:List V}(I:Inv X pins σ H s)(h:H p=some (.lst xs)) :
  ∃(its:List Value) (n:Nat),i5 xs its∧s.heap.get? p=some { cls:=.type "list",data:=.seq its.toArray n }∧xs.length≤sizeLine:=by
 obtain⟨z,its,n,r,e⟩:=I.hok p _ h
 exact⟨its,n,r,e,z⟩
theorem Inv.lstUpd{pins:List (Addr × Obj)}{σ:St}{H:Hp}{s:Shared}{p:Addr}{xs ys:List V}{its its':List Value}{n n':Nat}{f:Obj→Obj}(I:Inv X pins σ H s)(h:H p=some (.lst xs))
  (ho:s.heap.get? p=some { cls:=.type "list",data:=.seq its.toArray n }) (hf:f { cls:=.type "list",data:=.seq its.toArray n } = { cls:=.type "list",data:=.seq its'.toArray n' }) (r:i5 ys its') (hz:ys.length≤sizeLine) (t:Nat) :
  Inv X pins σ (upd H p (.lst ys)) { s with heap:=s.heap.update p f,toks:=t }:=by
 have e:(s.heap.update p f).get? p=some { cls:=.type "list",data:=.seq its'.toArray n' }:=by
  rw[KZ f ho (by rw[hf]<;>rfl),hf]
 refine I.write (x:=p) (e:=p) (by rw[h];trivial) (.inl rfl) (fun b u hb q=>(KS _ _ (Ne.symm hb)).trans q) ⟨_,e⟩ ?_
 exact⟨hz,its',n',r,e⟩
noncomputable def Ei:V→V→V→Hp→(Hp→Prop)→Prop:=fun o i v H Q=>∃ p xs k j,o = .ref p∧i = .int k∧H p=some (.lst xs)∧ixN xs.length k=some j∧Q (upd H p (.lst (xs.set j v)))
theorem sN:FC X Ei:=by
 intro pins s σ H o i v ov iv u Q I ro ri rv h
 obtain⟨p,xs,k,j,rfl,rfl,hp,hj,q⟩:=h
 cases ro
 obtain⟨t,rfl⟩:=ri
 obtain⟨its,n,r,ho,hz⟩:=I.lst hp
 obtain⟨h1,h2,h3,h4⟩:=oH hj
 have hl:=r.length
 have hn:=gD
 have I':Inv X pins σ (upd H p (.lst (xs.set j v))) { s with heap:=s.heap.update p (Obj.mapSeq (·.setIfInBounds j u)) } :=
  I.lstUpd hp ho (lQ its n j u) (r.set rv j) (by rw[List.length_set];exact hz) s.toks
 by_cases h0:0≤k
 ·have hk:k.toNat=j:=by
   rw[seqIndex_of h0 h4]at h1
   exact Option.some.inj h1
  exact PySem.W.ki_setAt ho h0 (by omega) (by rw[IY,← hl];exact h4) (by rw[hk];exact⟨_,I',q⟩)
 ·have hk:(k+(its.toArray.size:Int)).toNat=j:=by
   rw[seqIndex_neg (by omega) h3]at h1
   rw[IY,← hl]
   exact Option.some.inj h1
  exact PySem.W.ki_setBack ho (by omega) (by rw[IY,← hl];exact h3) (by omega) (by rw[hk];exact⟨_,I',q⟩)
theorem fo(lo hi:Option Int)(n:Nat):(sliceBounds lo hi none n).1=((HT.sIx n 0 lo:Nat):Int)∧(sliceBounds lo hi none n).2.1=((HT.sIx n n hi:Nat):Int)∧(sliceBounds lo hi none n).2.2=1:=by
 refine⟨?_,?_,rfl⟩
 ·cases lo with
  | none=>simp[sliceBounds,HT.sIx]
  | some i =>
   simp only[sliceBounds,HT.sIx,MR,show(1:Int) > 0 by decide,if_true]
   by_cases h:i<0
   ·simp only[h,if_true]<;>omega
   ·simp only[h,if_false]<;>omega
 ·cases hi with
  | none=>simp[sliceBounds,HT.sIx]
  | some i =>
   simp only[sliceBounds,HT.sIx,MR,show(1:Int) > 0 by decide,if_true]
   by_cases h:i<0
   ·simp only[h,if_true]<;>omega
   ·simp only[h,if_false]<;>omega
theorem df(its:List Value)(lo hi:Option Int):slicePick its.toArray lo hi none=((its.drop (HT.sIx its.length 0 lo)).take (HT.sIx its.length its.length hi - HT.sIx its.length 0 lo)).toArray:=by
 obtain⟨h1,h2,h3⟩:=fo lo hi its.toArray.size
 unfold slicePick
 rw[h1,h2,h3]
 simp only[sliceRange_one,pick_run,IY]<;>rfl
noncomputable def FV(K:Iy):V→Option Int→Option Int→Hp→VK→Prop:=fun x lo hi H Q=>∃ a xs,x = .ref a∧SqL K H a xs∧∀ p,H p=none→Q (.ref p) (upd H p (.lst (kl xs lo hi)))
theorem xm:SlR X (FV X.K):=by
 intro pins s σ H x v vl vu lo hi sl Q I rx hs pl pu h
 obtain⟨a,xs,rfl,hx,q⟩:=h
 cases rx
 obtain⟨its,r,ht,hz⟩:=I.list hx
 have hlen:=r.length
 refine⟨"list",_,slot_list_getitem.lookup,ht.isList.typeIs,?_⟩
 refine wpAny_getItem_list_slice ht.isList hs pl pu .none (by simp) ?_ (by rw[IY]<;>omega)
 rw[df,← hlen]
 refine⟨.ref s.heap.objs.size,_,I.laid (t':=s.toks) (o:=.lst (kl xs lo hi)) (fun b ob q=>IB _ q) (IL _) ?_,rfl,q _ (I.hok.fresh (IL _))⟩
 exact⟨IT (aw xs lo hi) hz,_,0,(r.drop (HT.sIx xs.length 0 lo)).take (HT.sIx xs.length xs.length hi - HT.sIx xs.length 0 lo),IP _ rfl⟩
theorem ij:v9 X (.builtin "len") (fun xs H Q=>∃ p ys,xs=[.ref p]∧(SqL X.K H p ys∨SqT X.K H p ys)∧Q (.int ys.length) H):=by
 intro pins s σ H xs us Q I r h
 obtain⟨p,ys,rfl,hq,q⟩:=h
 obtain⟨u,rfl,rx⟩:=iY r
 cases rx
 have hn:=gD
 rcases hq with hq|hq
 ·obtain⟨its,r',pl,hz⟩:=I.list hq
  have hlen:=r'.length
  exact Calls.call_len_list pl.isList (by simp only[IY]<;>omega) ⟨.int ys.length,H,I.tok _,⟨s.toks+1,by rw[IY,hlen]⟩,q⟩
 ·obtain⟨its,r',pl,hz⟩:=I.tuple hq
  have hlen:=r'.length
  exact len_tuple pl (by simp only[IY]<;>omega) ⟨.int ys.length,H,I.tok _,⟨s.toks+1,by rw[IY,hlen]⟩,q⟩
theorem v9.or{f:Value}{r r':List V→Hp→VK→Prop}(h:v9 X f r)(h':v9 X f r'):v9 X f (fun xs H Q=>r xs H Q∨r' xs H Q):=by
 intro pins s σ H xs us Q I rs q
 rcases q with q|q
 ·exact h pins s σ H xs us Q I rs q
 ·exact h' pins s σ H xs us Q I rs q
theorem ig:v9 X (.type "list") (fun xs H Q=>∃ p ys,xs=[.ref p]∧(SqL X.K H p ys∨SqT X.K H p ys)∧∀ l,H l=none→Q (.ref l) (upd H l (.lst ys))):=by
 intro pins s σ H xs us Q I r h
 obtain⟨p,ys,rfl,hq,q⟩:=h
 obtain⟨u,rfl,rx⟩:=iY r
 cases rx
 have fin:∀(its:List Value),i5 ys its→ys.length≤sizeLine→∀(h':Heap) (c':Nat),(∀ b o',s.heap.get? b=some o'→h'.get? b=some o') →
   h'.get? s.heap.objs.size=some { cls:=.type "list",dict:=none,data:=.seq its.toArray c',slots:=#[] }→EP X pins σ Q (.ref s.heap.objs.size) { s with heap:=h' }:=fun its r' hz h' c' kp e =>
  ⟨.ref s.heap.objs.size,_,I.laid (t':=s.toks) kp (IL _) (show v8 X.prog X.w _ h' _ (.lst ys)from⟨hz,its,c',r',e⟩),rfl,q _ (I.hok.fresh (IL _))⟩
 rcases hq with hq|hq
 ·obtain⟨its,r',pl,hz⟩:=I.list hq
  have hlen:=r'.length
  obtain⟨o,ho,hc,n,hd⟩:=pl.isList
  exact call_list_seq p (.inl rfl) ho hc hd (fun h' c' kp e=>fin its r' hz h' c' kp e) (by simp only[IY]<;>omega)
 ·obtain⟨its,r',pl,hz⟩:=I.tuple hq
  have hlen:=r'.length
  obtain⟨o,ho,hc,n,hd⟩:=pl
  exact call_list_seq p (.inr rfl) ho hc hd (fun h' c' kp e=>fin its r' hz h' c' kp e) (by simp only[IY]<;>omega)
def tyV(K:Iy)(T:String)(x:V)(H:Hp):Prop:=match x with
 | .str _=>T = "str"
 | .int _=>T = "int"
 | .ref p=>(T = "list" ∧ ∃ xs,SqL K H p xs)∨(T = "tuple" ∧ ∃ o,K.lookup p=some o∧o.cls = .type "tuple" ∧ o.dict=none) ∨
   (T = "dict" ∧ ((∃ kvs,H p=some (.dK kvs)) ∨ ∃ kvs,H p=some (.dT kvs)))∨(T = "set" ∧ ∃ S n,H p=some (.set S n))
 | _=>False
theorem AX{pins:List (Addr × Obj)}{σ:St}{H:Hp}{s:Shared}{T:String}{x:V}{v:Value}(I:Inv X pins σ H s)(r:j6 x v)(ty:tyV X.K T x H) :
  s.TypeIs v T∧∀ a,v = .ref a→∃ ob,s.heap.get? a=some ob∧ob.dict=none:=by
 cases x with
 | str z =>
  obtain⟨t,rfl⟩:=r
  cases(show T = "str" from ty)
  exact⟨typeIs_str s z t,fun _ e=>nomatch e⟩
 | int i =>
  obtain⟨t,rfl⟩:=r
  cases(show T = "int" from ty)
  exact⟨typeIs_int s i t,fun _ e=>nomatch e⟩
 | ref p =>
  cases r
  rcases ty with⟨rfl,xs,hq⟩|⟨rfl,o,hk,hc,hd⟩|⟨rfl,hk⟩|⟨rfl,S,n,hk⟩
  ·obtain⟨its,_,pl,_⟩:=I.list hq
   refine⟨pl.isList.typeIs,fun a e=>?_⟩
   cases e
   obtain⟨o,n,e,c,hd,_⟩:=pl
   exact⟨o,e,hd⟩
  ·refine⟨⟨o,I.kIn p o hk,hc⟩,fun a e=>?_⟩
   cases e
   exact⟨o,I.kIn _ o hk,hd⟩
  ·have z:∃ o,s.heap.get? p=some o∧o.ExactDict:=by
    rcases hk with⟨kvs,hk⟩|⟨kvs,hk⟩
    ·obtain⟨_,_,_,_,o,_,_,e,ex,_⟩:=I.hok p _ hk
     exact⟨o,e,ex⟩
    ·obtain⟨_,_,_,_,o,_,_,e,ex,_⟩:=I.hok p _ hk
     exact⟨o,e,ex⟩
   obtain⟨o,e,ex⟩:=z
   refine⟨⟨o,e,ex.1⟩,fun a e2=>?_⟩
   cases e2
   exact⟨o,e,ex.2.1⟩
  ·obtain⟨o,_,_,_,e,ex,_⟩:=I.hok p _ hk
   refine⟨⟨o,e,ex.1⟩,fun a e2=>?_⟩
   cases e2
   exact⟨o,e,ex.2.1⟩
 | _=>exact False.elim ty
def tBM(K:Iy)(T:String)(r:V→List V→Hp→VK→Prop)(to:TE)(t:TA):TE:=fun σ H Q=>to σ H fun x H1=>tyV K T x H1∧t σ H1 fun xs H2=>r x xs H2 Q
variable {o e:Expr} {es:List Expr} {to:TE} {t:TA} {name:Str} {apos cpos:Pos} {T id:String} {r:V→List V→Hp→VK→Prop}
theorem En(pa:PlainAttrs T)(slot:Slot T name id)(hty:typeOf (.builtin id)=pure (.type "method_descriptor"))(hm:MtR X id r)(ho:PE X o to)(ha:PA X (e :: es) t)
  (hbase:attributeBase o name X.env (eval o X.env)=eval o X.env:=by rfl)
  (hfew:((backTo cpos (starEach (e :: es) X.env)).all (fun x=>!x.1) && (backToKw cpos (keywordEach [] X.env)).all (fun x=>x.1.isSome)
   && decide ((e :: es).length+([]:List Keyword).length+(if ([]:List Keyword).isEmpty then 0 else 1)<30))=true:=by rfl)
  (hline:(apos.endLine == cpos.line)=true:=by rfl) (hs:starEach (e :: es) X.env=(false,eval e X.env) :: starEach es X.env:=by rfl) (hplain:(backTo cpos (starEach es X.env)).any (·.1)=false:=by rfl) :
  PE X (.Call (.Attribute o name apos) (e :: es) [] cpos) (tBM X.K T r to t):=by
 intro pins s σ H Q I h
 refine wpAny_Call_method_late hbase hfew hline rfl (thn (ho pins s σ H _ I h) fun v s1 zz=>?_)
 obtain⟨x,H1,I1,r1,ty,q1⟩:=zz
 obtain⟨h1,h2⟩:=AX I1 r1 ty
 refine⟨T,id,pa,slot,hty,h1,h2,?_⟩
 have hA:=ha cpos pins s1 σ H1 _ I1 q1
 rw[hs]at hA ⊢
 refine Calls.callWith_builtin (by show(false || (backTo cpos (starEach es X.env)).any (·.1))=false;rw[hplain]<;>rfl) (Calls.evalArgs_plain ?_)
 exact thn hA fun us s2 ⟨vs,H2,I2,r2,q2⟩=>hm pins s2 σ H2 x vs v us Q I2 r1 r2 q2
end
def MtM(X:Cx)(id:String)(r:V→List V→Hp→VK→Prop):Prop :=
 ∀(pins:List (Addr × Obj)) (s:Shared) (σ:St) (H:Hp) (x:V) (xs:List V) (v:Value) (us:List Value) (Q:VK),Inv X pins σ H s→j6 x v→i5 xs us→r x xs H Q →
  wpAny (model X.prog X.w) X.A (call (.builtin id) (v :: us)) (EP X pins σ Q) X.xe s
theorem i5.one{x:V}{us:List Value}(h:i5 [x] us):∃ u,us=[u]∧j6 x u:=by
 cases h with|cons r t=>cases t;exact⟨_,rfl,r⟩
theorem i5.two{x y:V}{us:List Value}(h:i5 [x,y] us):∃ u v,us=[u,v]∧j6 x u∧j6 y v:=by
 cases h with|cons r t=>cases t with|cons q t2=>cases t2;exact⟨_,_,rfl,r,q⟩
theorem i5.zero:∀{us:List Value},i5 [] us→us=[]
 | _,.nil=>rfl
theorem i5.reverse{xs:List V}{us:List Value}(h:i5 xs us):i5 xs.reverse us.reverse:=by
 induction h with
 | nil=>exact .nil
 | cons r t ih=>rw[Kp,Kp];exact i5.append ih (.cons r .nil)
section
variable {X:Cx} {pins:List (Addr × Obj)} {σ:St} {H:Hp} {s:Shared} {l b:Addr} {xs ys zs:List V}
theorem Inv.lset{its its':List Value}{n:Nat}{f:Array Value→Array Value}{t':Nat}(I:Inv X pins σ H s)(hH:H l=some (.lst xs))
  (e:s.heap.get? l=some { cls:=.type "list",data:=.seq its.toArray n }) (hf:f its.toArray=its'.toArray) (hv:i5 ys its') (hz:ys.length≤sizeLine) :
  Inv X pins σ (upd H l (.lst ys)) { s with heap:=s.heap.update l (Obj.mapSeq f),toks:=t' }:=by
 have q:=PySem.IsL.update e f
 rw[hf]at q
 refine I.write (x:=l) (e:=l) (by rw[hH];exact trivial) (.inl rfl) (fun b' u hb hu=>(KS s.heap (Obj.mapSeq f) (Ne.symm hb)).trans hu) ⟨_,q⟩ ?_
 exact⟨hz,its',_,hv,q⟩
theorem Inv.lnew{its:List Value}{t':Nat}(I:Inv X pins σ H s)(hv:i5 ys its)(hz:ys.length≤sizeLine) :
  Inv X pins σ (upd H s.heap.objs.size (.lst ys)) { s with heap:=s.heap.push { cls:=.type "list",data:=.seq its.toArray },toks:=t' } :=
 I.laid (fun _ _ q=>IB _ q) (IL _) ⟨hz,its,0,hv,IP _ rfl⟩
theorem Inv.fresh(I:Inv X pins σ H s):H s.heap.objs.size=none:=I.hok.fresh (IL _)
theorem Inv.lstM(I:Inv X pins σ H s)(hH:H l=some (.lst xs)):xs.length≤sizeLine∧∃(its:List Value) (n:Nat),i5 xs its∧xs.length=its.length∧s.heap.get? l=some { cls:=.type "list",data:=.seq its.toArray n }:=by
 obtain⟨z,its,n,r,e⟩:=I.hok l _ hH
 exact⟨z,its,n,r,r.length,e⟩
end
section
variable {X:Cx}
noncomputable def nQ:V→List V→Hp→VK→Prop:=fun x vs H Q=>∃ l xs y,x = .ref l∧vs=[y]∧H l=some (.lst xs)∧xs.length<sizeLine∧Q .non (upd H l (.lst (xs++[y])))
theorem eL:MtM X "list.append" nQ:=by
 intro pins s σ H x vs v us Q I rx rv h
 obtain⟨l,xs,y,rfl,rfl,hH,hz,q⟩:=h
 cases rx
 obtain⟨u,rfl,ru⟩:=rv.one
 obtain⟨z,its,n,r,hl,e⟩:=I.lstM hH
 refine call_meets F.slot_list_append ⟨_,e,rfl⟩ F.entry_list_append (F.args_list_append_2 _ _) (PySem.list_append l its.toArray n u (by rw[IY];omega)) ⟨e,?_⟩
 refine⟨.non,_,I.lset (its':=its++[u]) hH e (by simp) (r.append (.cons ru .nil)) ?_,rfl,q⟩
 rw[IX,List.length_singleton]
 omega
end
section
variable {prog:Program} {w:World} {A:Around} {E:Value→Shared→Prop} {s:Shared}
end
section
variable {X:Cx}
end
end L2
namespace Att
open PySem PySem.W PySem.Calls PyProof.Rows
theorem aF{P:Params}{h:Heap}:∀(ns:List Int) (vs:List Value),WellAll P h vs (ns.map WData.int)→IntsAre vs ns:=by
 intro ns
 induction ns with
 | nil =>
  intro vs w
  rw[Ki]at w
  cases w
  exact .nil
 | cons n ns ih =>
  intro vs w
  rw[Jj]at w
  cases w with
  | cons a b =>
   cases a
   exact .cons _ _ (ih _ b)
theorem pI{l:OpenLaw}{n:Nat}(hn:l.most=some n){P:Params}{h:Heap}{args:List WData}{vals:List Value}
  (hpre:l.row.toRowW.claim.pre args=true) (hwl:WellAll P h vals args) :
  ∃ a vs ns,vals=[Value.ref a]∧args=[WData.list (ns.map WData.int)]∧h.get? a=some { cls:=.type "list",data:=.seq vs.toArray }∧IntsAre vs ns∧ns.length≤n:=by
 have hsh:WShape.hasAll [] args [.list .int]=true:=(pre_splitW hpre).1
 have hc:l.pre.holds [] { args:=args } = true:=(pre_splitW hpre).2
 obtain⟨d,r,rfl,h1,h2⟩:=hasAllW_cons hsh
 obtain rfl:=hasAllW_nil h2
 obtain⟨xs,rfl,h3⟩:=hasW_list h1
 obtain⟨ns,rfl⟩:=items_int h3
 have hlen:ns.length≤n:=by
  unfold OpenLaw.pre at hc
  have h4:(WTm.not (.lt (.lit (.int (n:Int))) (.len (.arg 0)))).holds [] { args:=[.list (ns.map .int)] } = true:=by
   have h4:=(holds_andW hc).1
   rw[hn]at h4
   exact h4
  have h5:=condW_of h4 (w_not (w_lt w_lit (w_len_list (w_arg rfl))))
  rw[ID]at h5
  refine Nat.le_of_not_lt fun q=>?_
  have q':(n:Int)<((ns.length:Nat):Int):=by omega
  first
   | (rw[decide_eq_true q']at h5;exact absurd h5 (by decide))
   | (simp at h5;omega)
 cases hwl with
 | cons w1 w2 =>
  cases w2
  cases w1 with
  | list ho hall=>exact⟨_,_,ns,rfl,rfl,ho,aF ns _ hall,hlen⟩
theorem pQ(l:OpenLaw)(args:List WData):l.row.toRowW.claim.post args (.bool true) args=true :=
 postW_of (r:=l.row.toRowW) (X:=(true == true))
  (show WShape.has [] (.bool true) .bool=true by first|rfl|decide|simp[WShape.has,WShape.arms,WShape.armsAll])
  (show(WTm.eq .res (.lit (.bool true))).value [] { args:=args,res:=some (.bool true),after:=args } = some (.bool (true == true))from w_eq_bool (w_res rfl) w_lit) rfl
theorem kC{l:OpenLaw}{n:Nat}{q:Program}{loose:List Str}{XP:(Str→Option Value)→Heap→Prop}{YP:World→Heap→Prop}{d:DefRec}
  (hn:l.most=some n) (hdf:d.params.defaults=[])
  (call:∀(w:World) (s₀ s₁:Shared) (mg mb:Str→Option Value) (fa:Addr) (o:Obj) (pm cd doc:Value) (a:Addr) (vs:List Value) (ns:List Int),
   Ground q loose [] XP w s₀ mg mb s₁.heap→YP w s₁.heap →
   s₁.heap.get? fa=some o→o.data = .func (docDef d.name d.params d.body d.scope pm cd doc)→s₁.heap.CodeRec cd d.name→mg d.name=some (.ref fa) →
   s₁.heap.get? a=some { cls:=.type "list",data:=.seq vs.toArray }→IntsAre vs ns→ns.length≤n→s₁.gens = #[] →
   codeAny (model l.prog w) callerA (.call (.ref fa) ⟨[.ref a],[]⟩) (fun r s'=>r = .ok (.ret (.bool true))∧OldK s₁.heap s'.heap∧s'.os=s₁.os∧AllBare s'.gens) s₁) :
  WalkO q loose XP YP l.row.toRowW d [] (fun f vs=>PySem.call f vs):=by
 intro w s₀ s₁ mg mb G Y fa o pm cd doc dV kV ho hd hcd hD hmg hg args vals as hpre hlay hrd hwl hlo
 obtain rfl:dV = .none:=Dflts.none hD hdf
 obtain rfl:kV = .none:=Dflts.noKw hD
 obtain⟨a,vs,ns,rfl,rfl,hobj,hints,hlen⟩:=pI hn hpre hwl
 refine enter_call (codeAny_mono (call w s₀ s₁ mg mb fa o pm cd doc a vs ns G Y ho (fd_plain hd) hcd hmg hobj hints hlen hg) fun r s' hq=>?_)
 obtain⟨rfl,h2,h3,h4⟩:=hq
 exact⟨.inl ⟨.bool true,.bool true,[],rfl,fun _=>rfl,.bool true,pQ l _,fun _=>⟨List.Pairwise.nil,fun _ hm=>(nomatch hm)⟩⟩,h2,h3,h4⟩
section
variable {prog:Program} {w:World} {A:Around} {E:Value→Shared→Prop} {s:Shared} {K:Frag}
end
end Att
namespace L2
open PySem PySem.Spec PyProof.Rows
theorem eB:∀{vs:List Value} {ns:List Int},IntsAre vs ns→i5 (ns.map V.int) vs
 | _,_,.nil=>.nil
 | _,_,.cons n t h=>.cons ⟨t,rfl⟩ (eB h)
def qu(H:Hp):Prop:=∀ b,H b=none ∨ ∃ o xs,H b=some (.frz o (.lst xs))
theorem uC{P:Program}{w:World}{K:Iy}{mg mb:Str→Option Value}{CX:CXT}{k:Nat}{fa a:Addr}{fd:FuncData}{x:Str}{sp:Sp}{s₁:Shared}{vs:List Value}{ns:List Int}
  (KX:K.In s₁.heap) (hns:s₁.heap.Ns mainGlobals mg) (hb:s₁.heap.Ns builtinsNs mb) (hbb:∀ x:Str,x ≠ "__name__" → mb x=bootBuiltins x) (hlim:s₁.heap.NoLimit) (hsee:s₁.heap.NoSeer) (hg:s₁.gens = #[])
  (ha:s₁.heap.get? a=some { cls:=.type "list",data:=.seq vs.toArray }) (hi:IntsAre vs ns) (hl:ns.length≤sizeLine) (hr:D7 k callerA)
  (F:∀ base:Heap,K.In base→base.Ns mainGlobals mg→base.NoSeer→L7 P w K mg base CX k fa fd [x] sp) (hbind:∀(s:Shared) (u:Value),BindsTo s fd ⟨[u],[]⟩ [(x,u)])
  (hsp:∀ H:Hp,qu H→SqL K H a (ns.map V.int)→sp [.ref a] H (fun v _=>v = .bl true) fun _ _ _=>False)
  (hCX:∀ H e s',CX [] H s₁ (fun _ _ _=>False) e s'→False) :
  codeAny (model P w) callerA (.call (.ref fa) ⟨[.ref a],[]⟩) (fun r s'=>r = .ok (.ret (.bool true))∧OldK s₁.heap s'.heap∧s'.os=s₁.os∧AllBare s'.gens) s₁:=by
 have rv:=eB hi
 have lenV:=hi.length
 have core:∀ H:Hp,qu H→SqL K H a (ns.map V.int)→HOk P w H s₁.heap→(∀ b,H b≠none→b=a)→(H a≠none→K.lookup a=none) →
   codeAny (model P w) callerA (.call (.ref fa) ⟨[.ref a],[]⟩) (fun r s'=>r = .ok (.ret (.bool true))∧OldK s₁.heap s'.heap∧s'.os=s₁.os∧AllBare s'.gens) s₁:=by
  intro H hO hS hok hA hK
  have base_of:∀{b:Addr} {o:Obj},s₁.heap.get? b=some o→H b=none→(gL s₁.heap H).get? b=some o:=fun e n=>uJ e n
  have noA:∀{b:Addr} {o:Obj} {es:Array DictEntry} {ep:Nat},s₁.heap.get? b=some o→o.data = .dict es ep→H b=none:=fun{b o es ep} e d=>by
   cases q:H b with
   | none=>rfl
   | some u =>
    have e':b=a:=hA b (by rw[q];simp)
    subst e'
    rw[ha]at e;cases e
    have d':Data.seq vs.toArray _=Data.dict es ep:=d
    cases d'
  have noM:∀{b:Addr} {o:Obj},s₁.heap.get? b=some o→o.cls = .type "module" → H b=none:=fun{b o} e d=>by
   cases q:H b with
   | none=>rfl
   | some u =>
    have e':b=a:=hA b (by rw[q];simp)
    subst e'
    rw[ha]at e;cases e
    have d':Value.type "list" = Value.type "module" := d
    exact absurd d' (by decide)
  have nsK:∀{b:Addr} {m:Str→Option Value},s₁.heap.Ns b m→(gL s₁.heap H).Ns b m:=fun{b m} ⟨o,es,ep,e,d,r⟩=>⟨o,es,ep,base_of e (noA e d),d,r⟩
  have hKb:K.In (gL s₁.heap H):=fun b o e=>base_of (KX b o e) (by
   cases q:H b with
   | none=>rfl
   | some u =>
    have e':b=a:=hA b (by rw[q];simp)
    subst e'
    rw[hK (by rw[q];simp)]at e;cases e)
  have hM:Mod K mg (gL s₁.heap H):=⟨hKb,nsK hns,⟨mb,nsK hb,hbb⟩,let ⟨mc,h1,h2⟩:=hlim;⟨mc,nsK h1,h2⟩⟩
  have e0:mw P w K mg (gL s₁.heap H) callerA [] s₁ H:=⟨rfl,hM,fun b o e=>yh e,MG (qj _ _),trivial,fun b hb=>absurd (show b∈([]:List Addr)from hb) (by simp),hok,.of_eq hg⟩
  refine codeAny_mono ((F _ hKb (nsK hns) (let ⟨s1,s2,s3,s4⟩:=hsee;⟨let ⟨mc,h1,h2⟩:=s1;⟨mc,nsK h1,h2⟩,let ⟨mc,h1,h2⟩:=s2;⟨mc,nsK h1,h2⟩,let ⟨mc,h1,h2⟩:=s3;⟨mc,nsK h1,h2⟩,let ⟨mc,bm,ob,h1,h2,h3,h4,h5⟩:=s4;⟨mc,bm,ob,nsK h1,h2,base_of h3 (noM h3 h4),h4,h5⟩⟩)).run callerA [] s₁ H ⟨[.ref a],[]⟩ [.ref a] [.ref a] _ _ hr e0 (hbind s₁ (.ref a)) (.cons rfl .nil) (hsp H hO hS)) fun r s' h=>?_
  cases r with
  | error e=>exact(hCX H e s' h).elim
  | ok fl =>
   cases fl with
   | next=>exact False.elim h
   | brk=>exact False.elim h
   | cont=>exact False.elim h
   | ret u =>
    obtain⟨v,H',os,bare,un,hok',r',q⟩:=h
    have q':v = .bl true:=q
    subst q'
    obtain rfl:u=Value.bool true:=r'
    refine⟨rfl,OldK.of_keep fun b o e=>?_,os,bare⟩
    cases q:H b with
    | none=>exact un.keep b o e q (by intro z;exact absurd (show b∈([]:List Addr)from z) (by simp)) (by simp)
    | some u =>
     rcases hO b with z|⟨ob,xs,z⟩
     ·rw[q]at z;cases z
     ·have z2:=un.frzs b ob _ z
      obtain⟨e1,_⟩:=hok b _ z
      obtain⟨e2,_⟩:=hok' b _ z2
      rw[e]at e1;cases e1
      exact e2
 cases hk:K.lookup a with
 | some o =>
  have e:=KX a o hk
  rw[ha]at e
  cases e
  refine core (fun _=>none) (fun _=>.inl rfl) (.inr ⟨_,vs.toArray,_,hk,rfl,rfl,rfl,by rw[IY,lenV];exact hl,by simpa using rv⟩) (fun b u z=>by have z':(none:Option HO)=some u:=z;cases z') (fun b z=>absurd rfl z) fun z=>absurd rfl z
 | none =>
  refine core (fun b=>if b=a then some (.frz { cls:=.type "list",data:=.seq vs.toArray } (.lst (ns.map V.int)))else none) (fun b=>?_) (.inl (.inr ⟨{ cls:=.type "list",data:=.seq vs.toArray },if_pos rfl⟩)) (fun b u z=>?_) (fun b z=>?_) fun _=>hk
  ·by_cases hb:b=a
   ·exact .inr ⟨_,_,if_pos hb⟩
   ·exact .inl (if_neg hb)
  ·by_cases hb:b=a
   ·have z':=(if_pos hb).symm.trans z
    cases z'
    subst hb
    exact⟨ha,by rw[ID];exact hl,vs,_,rv,ha⟩
   ·have z':=(if_neg hb).symm.trans z
    cases z'
  ·by_cases hb:b=a
   ·exact hb
   ·exact absurd (if_neg hb) z
theorem xh{l:PySem.W.OpenLaw}{n k:Nat}{q:Program}{loose:List Str}{XP:(Str→Option Value)→Heap→Prop}{YP:World→Heap→Prop}{d:DefRec}{K:Params→Iy}{CX:World→CXT}{sp:World→Sp}{x:Str}
  (hq:PyProof.Rows.importsNone q=true) (hn:l.most=some n) (hn2:n≤sizeLine) (hdf:d.params.defaults=[]) (hr:D7 k callerA)
  (hY:∀(w:World) (h:Heap),YP w h→(K w.params).In h)
  (F:∀(w:World) (mg:Str→Option Value) (fa:Addr) (h:Heap),(K w.params).In h→h.Ns mainGlobals mg→mg d.name=some (.ref fa) →
   ∃ fd:FuncData,(∀(s:Shared) (u:Value),BindsTo s fd ⟨[u],[]⟩ [(x,u)]) ∧
    ∀ base:Heap,(K w.params).In base→base.Ns mainGlobals mg→base.NoSeer→L7 l.prog w (K w.params) mg base (CX w) k fa fd [x] (sp w))
  (hsp:∀(w:World) (H:Hp) (a:Addr) (ns:List Int),ns.length≤n→qu H→SqL (K w.params) H a (ns.map V.int)→sp w [.ref a] H (fun v _=>v = .bl true) fun _ _ _=>False)
  (hCX:∀(w:World) (H:Hp) (s:Shared) (e:Value) (s':Shared),CX w [] H s (fun _ _ _=>False) e s'→False) :
  PySem.W.WalkO q loose XP YP l.row.toRowW d [] (fun f vs=>PySem.call f vs):=by
 refine Att.kC hn hdf fun w s₀ s₁ mg mb fa o pm cd doc a vs ns G Y ho hd hcd hmg hobj hints hlen hg=>?_
 have KX:=hY w _ Y
 obtain⟨fd,hb,hF⟩:=F w mg fa _ KX G.T.g hmg
 exact uC KX G.T.g G.T.b G.T.builtins G.T.nolimit (G.T.seer hq) hg hobj hints (IT hlen hn2) hr hF hb (fun H hO hS=>hsp w H a ns hlen hO hS) fun H e s'=>hCX w H s₁ e s'
theorem rZ{l:PySem.W.OpenLaw}{n k:Nat}{q:Program}{loose:List Str}{XP:(Str→Option Value)→Heap→Prop}{YP:World→Heap→Prop}{d:DefRec}{K:Params→Iy}{CX:CXT}{sp:Iy→Sp}{x:Str}
  (hq:PyProof.Rows.importsNone q=true) (hn:l.most=some n) (hn2:n≤sizeLine) (hdf:d.params.defaults=[]) (hr:D7 k callerA)
  (hY:∀(w:World) (h:Heap),YP w h→(K w.params).In h)
  (F:∀(w:World) (mg:Str→Option Value) (fa:Addr) (h:Heap),(K w.params).In h→h.Ns mainGlobals mg→mg d.name=some (.ref fa) →
   ∃ fd:FuncData,(∀(s:Shared) (u:Value),BindsTo s fd ⟨[u],[]⟩ [(x,u)]) ∧
    ∀ base:Heap,(K w.params).In base→base.Ns mainGlobals mg→base.NoSeer→L7 l.prog w (K w.params) mg base CX k fa fd [x] (sp (K w.params)))
  (hsp:∀(K:Iy) (H:Hp) (a:Addr) (ns:List Int),ns.length≤n→qu H→SqL K H a (ns.map V.int)→sp K [.ref a] H (fun v _=>v = .bl true) fun _ _ _=>False)
  (hCX:∀(H:Hp) (s:Shared) (e:Value) (s':Shared),CX [] H s (fun _ _ _=>False) e s'→False) :
  PySem.W.WalkO q loose XP YP l.row.toRowW d [] (fun f vs=>PySem.call f vs) :=
 xh (K:=K) (CX:=fun _=>CX) (sp:=fun w=>sp (K w.params)) hq hn hn2 hdf hr hY F (fun w H a ns h1 h2 h3=>hsp (K w.params) H a ns h1 h2 h3) fun _ H s e s'=>hCX H s e s'
noncomputable def L1(s:Stmt):Arguments:=match s with
 | .FunctionDef _ a _ _ _ _ _ _ _ _=>a
 | _=>{ posonlyargs:=[],args:=[],vararg:=none,kwonlyargs:=[],kw_defaults:=[],kwarg:=none,defaults:=[] }
noncomputable def E6(s:Stmt):List Stmt:=match s with
 | .FunctionDef _ _ b _ _ _ _ _ _ _=>b
 | _=>[]
noncomputable def d9(s:Stmt):Scope:=match s with
 | .FunctionDef _ _ _ _ _ _ sc _ _ _=>sc
 | _=>{ kind:=.function,names:=[],isGenerator:=false,isCoroutine:=false }
abbrev CX0:CXT:=fun _ _ _ _ _ _=>False
abbrev E0:XK:=fun _ _ _=>False
theorem Ep{X:Cx}:ix CX0 X E0:=fun _ _ _ _ _ _ _ h=>h.elim
section
variable {P:Program} {w:World} {K:Iy} {mg:Str→Option Value} {base:Heap}
end
section
variable {X:Cx}
theorem pv(i:Nat){x:Str}{pos:Pos}(hN:X.N[i]? = some x:=by rfl)(hv:Vis X.env.scope x:=by first|exact Or.inl rfl|exact Or.inr (Or.inl rfl)|exact Or.inr (Or.inr rfl))(hd:(x == ("__debug__" : Str))=false:=by decide)
  (hcd:(x == ("__classdict__" : Str))=false:=by decide):PE X (.Name x pos) (DT i):=tR hN hv hd hcd
end
theorem Gg{A B:Prop}(h:A):if true=true then A else B:=by
 rw[if_pos rfl]
 exact h
end L2
end
namespace RM
open Rat
noncomputable def bl(n:Nat):Nat:=n.log2+1
theorem V9(n:Nat):n<2 ^ bl n:=Nat.lt_log2_self
theorem X1{n k:Nat}(h:n<2 ^ k)(hk:0<k):bl n≤k:=by
 unfold bl
 rcases Mv n with h0|h0
 ·subst h0;rw[Nat.log2_zero];omega
 ·have:=(Mn (Mo.mp h0)).mpr h
  omega
theorem vI(n:Nat):0<bl n:=Nat.succ_pos _
theorem ip{m n:Nat}(h:m≤n):bl m≤bl n:=X1 (Jl h (V9 n)) (vI n)
theorem cV(m n:Nat):bl (m*n)≤bl m+bl n:=by
 refine X1 ?_ (Nat.add_pos_left (vI m) _)
 rw[Mp]
 exact LJ (V9 m) (V9 n)
theorem CP(m n:Nat):bl (m+n)≤max (bl m) (bl n)+1:=by
 refine X1 ?_ (Nat.succ_pos _)
 have h1:=V9 m
 have h2:=V9 n
 have e1:2 ^ bl m≤2 ^ max (bl m) (bl n):=Jh (by decide) (LS _ _)
 have e2:2 ^ bl n≤2 ^ max (bl m) (bl n):=Jh (by decide) (LK _ _)
 rw[Lo]
 omega
noncomputable def sz(q:Rat):Nat:=max (bl q.num.natAbs) (bl q.den)
theorem X7(q:Rat):bl q.num.natAbs≤sz q:=LS _ _
theorem M0(q:Rat):bl q.den≤sz q:=LK _ _
theorem zW{q:Rat}{n:Nat}(h1:bl q.num.natAbs≤n)(h2:bl q.den≤n):sz q≤n:=Mh.mpr ⟨h1,h2⟩
theorem Ca(a b:Int):(divInt a b).num.natAbs≤a.natAbs:=by
 rw[num_divInt]
 rcases Int.lt_trichotomy b 0 with h|h|h
 ·rw[Ln h]
  refine IT (Lu _ _) ?_
  simp
 ·subst h;simp
 ·rw[LM h,Int.one_mul]
  exact Lu _ _
theorem Cz(a b:Int)(hb:b≠0):(divInt a b).den≤b.natAbs:=by
 rw[den_divInt,if_neg hb]
 exact Kd _ _
theorem O5(a b:Int)(hb:b≠0):sz (divInt a b)≤max (bl a.natAbs) (bl b.natAbs) :=
 zW (IT (ip (Ca a b)) (LS _ _)) (IT (ip (Cz a b hb)) (LK _ _))
theorem t5(q:Rat):(q.den:Int)≠0:=by have:=q.den_nz;omega
theorem ir(q r:Rat):q+r=divInt (q.num*r.den+r.num*q.den) (q.den*r.den):=by
 conv=>lhs;rw[← num_divInt_den q,← num_divInt_den r]
 rw[divInt_add_divInt _ _ (t5 q) (t5 r)]
theorem lP(q r:Rat):q*r=divInt (q.num*r.num) (q.den*r.den):=by
 conv=>lhs;rw[← num_divInt_den q,← num_divInt_den r]
 rw[divInt_mul_divInt]
theorem cD(a b:Int):(a+b).natAbs≤a.natAbs+b.natAbs:=Lz a b
theorem X8(q r:Rat):sz (q+r)≤sz q+sz r+1:=by
 rw[ir]
 have hb:((q.den:Int)*(r.den:Int))≠0:=JJ (t5 q) (t5 r)
 refine IT (O5 _ _ hb) (Mh.mpr ⟨?_,?_⟩)
 ·refine IT (ip (cD _ _)) (IT (CP _ _) ?_)
  rw[JF,JF]
  have h1:=cV q.num.natAbs (r.den:Int).natAbs
  have h2:=cV r.num.natAbs (q.den:Int).natAbs
  have a1:=X7 q
  have a2:=X7 r
  have a3:=M0 q
  have a4:=M0 r
  simp only[IK]at h1 h2 ⊢
  omega
 ·rw[JF]
  have h1:=cV (q.den:Int).natAbs (r.den:Int).natAbs
  have a3:=M0 q
  have a4:=M0 r
  simp only[IK]at h1 ⊢
  omega
theorem D8(q r:Rat):sz (q*r)≤sz q+sz r:=by
 rw[lP]
 have hb:((q.den:Int)*(r.den:Int))≠0:=JJ (t5 q) (t5 r)
 refine IT (O5 _ _ hb) (Mh.mpr ⟨?_,?_⟩)
 ·rw[JF]
  have h1:=cV q.num.natAbs r.num.natAbs
  have a1:=X7 q
  have a2:=X7 r
  omega
 ·rw[JF]
  have h1:=cV (q.den:Int).natAbs (r.den:Int).natAbs
  have a3:=M0 q
  have a4:=M0 r
  simp only[IK]at h1 ⊢
  omega
theorem I0(q:Rat):sz (-q)=sz q:=by
 unfold sz
 rw[LD,LF,JQ]
theorem Q5(q r:Rat):sz (q - r)≤sz q+sz r+1:=by
 rw[Lp]
 have:=X8 q (-r)
 rw[I0]at this
 exact this
theorem sE(q:Rat){n:Nat}(hn:0<n)(h1:q.num.natAbs<2 ^ n)(h2:q.den<2 ^ n):sz q≤n:=zW (X1 h1 hn) (X1 h2 hn)
theorem aN:sz 0=1:=by decide
theorem kP:sz 1=1:=by decide
theorem ka(a b:Nat)(h:b≠0):JP a b=JP b (a % b):=by
 rw[Lq,Nat.gcd_rec,Lq]
theorem L0{a g:Int}(h:g ∣ a):a.fdiv g=a / g:=by
 obtain⟨c,rfl⟩:=h
 by_cases hg:g=0
 ·subst hg;simp
 ·rw[Int.mul_fdiv_cancel_left _ hg,Int.mul_ediv_cancel_left _ hg]
theorem Cf(a b:Int)(hb:b≠0)(share:Int)(hs:share=if b<0 then -((JP a.natAbs b.natAbs:Nat):Int)else((JP a.natAbs b.natAbs:Nat):Int)) :
  a.fdiv share=(divInt a b).num∧b.fdiv share=((divInt a b).den:Int):=by
 have hg:JP a.natAbs b.natAbs=Nl b a:=by unfold Nl;exact Lq _ _
 have da:((Nl b a:Nat):Int) ∣ a:=Int.gcd_dvd_right b a
 have db:((Nl b a:Nat):Int) ∣ b:=Int.gcd_dvd_left b a
 rw[hg]at hs
 rw[num_divInt,den_divInt,if_neg hb]
 by_cases h:b<0
 ·rw[if_pos h]at hs
  subst hs
  rw[L0 (Int.neg_dvd.mpr da),L0 (Int.neg_dvd.mpr db),Ln h]
  refine⟨?_,?_⟩
  ·rw[Int.ediv_neg,Int.neg_one_mul,Mq da]
  ·rw[Int.ediv_neg,← Mq db]
   have e:-b=((b.natAbs:Nat):Int):=by omega
   rw[e]
   norm_cast
 ·rw[if_neg h]at hs
  subst hs
  have hp:0<b:=by omega
  rw[L0 da,L0 db,LM hp,Int.one_mul]
  refine⟨rfl,?_⟩
  have e:b=((b.natAbs:Nat):Int):=by omega
  conv=>lhs;rw[e]
  norm_cast
theorem EC(q r:Rat):decide (q.num*(r.den:Int)<r.num*(q.den:Int))=decide (q<r):=by
 by_cases h:q<r
 ·rw[decide_eq_true h,decide_eq_true ((Rat.lt_iff q r).mp h)]
 ·rw[decide_eq_false h,decide_eq_false (fun z=>h ((Rat.lt_iff q r).mpr z))]
end RM
namespace L2
open PySem PySem.Spec PyProof.Rows
section
variable {prog:Program} {w:World} {A:Around} {R:Result→Shared→Prop} {s:Shared}
noncomputable def nE(ifs:List Expr)(env:Env):Sem Bool:=forIn ifs true fun c r=>if r=true then do let ok ← isTrue c env (eval c env);pure (ForInStep.yield ok)else pure (ForInStep.yield r)
theorem hJ{elt target iter:Expr}{ifs:List Expr}{scope:Scope}{pos:Pos}{it acc:Value}{env:Env}(I:Nat→Shared→Prop)
  (turn:∀ n s,I n s→wpAny (model prog w) A (pyNext it) (fun r s₁=>match r with
   | none=>R (.ok .next) s₁
   | some v=>wpAny (model prog w) A (letOwnedTupleGo target it v) (fun _ s₁'=>wpAny (model prog w) A (assign target env v) (fun _ s₂=>wpAny (model prog w) A (nE ifs env) (fun ok s₂'=>if ok=true then wpAny (model prog w) A (eval elt env) (fun x s₃ =>
     wpAny (model prog w) A (call (.builtin "list.append") [acc,x]) (fun _ s₄=>∃ m,m<n∧I m s₄) (notedBy (model prog w) A env fun e s'=>R (.error e) s') s₃)
     (notedBy (model prog w) A env fun e s'=>R (.error e) s') s₂' else ∃ m,m<n∧I m s₂') (notedBy (model prog w) A env fun e s'=>R (.error e) s') s₂) (notedBy (model prog w) A env fun e s'=>R (.error e) s') s₁') (notedBy (model prog w) A env fun e s'=>R (.error e) s') s₁) (notedBy (model prog w) A env fun e s'=>R (.error e) s') s)
  (n:Nat) (h:I n s) :
  codeAny (model prog w) A (.compLoop (.ListComp elt [⟨target,iter,ifs,0⟩] scope pos) 0 it acc env) R s:=by
 refine codeAny_loop rfl I (fun n s hI=>?_) n h
 show wpAny _ _ ((compTurn (.ListComp elt [⟨target,iter,ifs,0⟩] scope pos) 0 it acc env).onRaise (fun x=>do noteFrame x env;theTreesLotGoes x)) _ _ s
 refine wpAny_noted ?_
 rw[compTurn_list]
 refine Iz (wpAny_standAt (Iz (wpAny_mono (turn n s hI) (fun r s₁ h₁=>?_) fun _ _ h'=>h')))
 cases r with
 | none=>exact IM h₁
 | some v =>
  refine Iz (wpAny_mono h₁ (fun _ s₁' h₁'=>?_) fun _ _ h'=>h')
  refine Iz (wpAny_mono h₁' (fun _ s₂ h₂=>Iz (wpAny_mono h₂ (fun ok s₂' h₃=>?_) fun _ _ h'=>h')) fun _ _ h'=>h')
  cases ok with
  | true =>
   refine Iz (Iz (wpAny_mono h₃ (fun x s₃ h₄=>Iz (wpAny_mono h₄ (fun _ s₄ h₅=>IM (IM ⟨rfl,h₅⟩)) fun _ _ h'=>h')) fun _ _ h'=>h'))
  | false=>exact Iz (IM (IM ⟨rfl,h₃⟩))
end
def aK(X:Cx)(ifs:List Expr)(t:TT):Prop :=
 ∀(pins:List (Addr × Obj)) (s:Shared) (σ:St) (H:Hp) (Q:Bool→Hp→Prop),Inv X pins σ H s→t σ H Q→wpAny (model X.prog X.w) X.A (nE ifs X.env) (TP X pins σ Q) X.xe s
def FH:TT:=fun _ H Q=>Q true H
theorem tO{X:Cx}:aK X [] FH:=fun pins s σ H Q I q=>IM ⟨H,I,q⟩
noncomputable def O3(cells:List (Str × Addr)):List (Str × NameKind)→List (Str × Addr)→List (Str × Addr)
 | [],acc=>acc
 | (n,k) :: r,acc=>if k == .free then O3 cells r ((n,(cells.lookup n).getD 0) :: acc)else O3 cells r acc
theorem S2{env:Env}:∀(names:List (Str × NameKind)) (acc:List (Str × Addr)),(∀ n,(n,NameKind.free)∈names→∃ c,env.cells.lookup n=some c) →
  (forIn names acc (fun(x:Str × NameKind) (cs:List (Str × Addr))=>if (x.2 == NameKind.free)=true then(do let a ← cellOf env x.1;pure (ForInStep.yield ((x.1,a) :: cs)))else pure (ForInStep.yield cs)):Sem (List (Str × Addr)))=pure (O3 env.cells names acc)
 | [],acc,_=>rfl
 | (n,k) :: r,acc,h=>by
  rw[LU]
  unfold O3
  by_cases hk:(k == NameKind.free)=true
  ·have e:k = .free:=by cases k<;>first|rfl|(exact absurd hk (by decide))
   subst e
   obtain⟨c,hc⟩:=h n IG
   rw[if_pos hk,if_pos hk]
   have e1:cellOf env n=pure c:=by unfold cellOf;rw[hc]
   rw[e1,pure_bind,pure_bind,hc]
   exact S2 r _ fun m hm=>h m (IC _ hm)
  ·rw[if_neg hk,if_neg hk,pure_bind]
   exact S2 r _ fun m hm=>h m (IC _ hm)
theorem kv{scope:Scope}{env:Env}(h:∀ n,(n,NameKind.free)∈scope.names→∃ c,env.cells.lookup n=some c):closureFor scope env=pure (O3 env.cells scope.names []):=by
 have:=S2 (env:=env) scope.names [] h
 unfold closureFor
 first
  | (simp only[]at this ⊢;rw[← this];simp only[bind_pure];rfl)
  | (rw[← this];rfl)
  | (simp only[bind_pure,pure_bind];exact this)
theorem L3{cells:List (Str × Addr)}{x:Str}{c:Addr}:∀(names:List (Str × NameKind)) (acc:List (Str × Addr)),(∀ n,(n,NameKind.free)∈names→∃ c,cells.lookup n=some c)→(∀ y d,acc.lookup y=some d→cells.lookup y=some d)→(O3 cells names acc).lookup x=some c→cells.lookup x=some c
 | [],acc,_,ha,h=>ha x c h
 | (n,k) :: r,acc,hn,ha,h=>by
  unfold O3 at h
  by_cases hk:(k == NameKind.free)=true
  ·rw[if_pos hk]at h
   have e:k = .free:=by cases k<;>first|rfl|(exact absurd hk (by decide))
   subst e
   obtain⟨d,hd⟩:=hn n IG
   refine L3 r _ (fun m hm=>hn m (IC _ hm)) (fun y e hy=>?_) h
   rw[Ku]at hy
   split at hy
   ·rename_i hz
    have hz':y=n:=by simpa using hz
    subst hz'
    rw[hd]at hy ⊢
    cases hy;rfl
   ·exact ha y e hy
  ·rw[if_neg hk]at h
   exact L3 r _ (fun m hm=>hn m (IC _ hm)) ha h
theorem P8{cells:List (Str × Addr)}{x:Str}:∀(names:List (Str × NameKind)) (acc:List (Str × Addr)),((x,NameKind.free)∈names ∨ ∃ c,acc.lookup x=some c)→∃ c,(O3 cells names acc).lookup x=some c
 | [],acc,h=>by
  rcases h with h|h
  ·cases h
  ·exact h
 | (n,k) :: r,acc,h=>by
  unfold O3
  by_cases hk:(k == NameKind.free)=true
  ·rw[if_pos hk]
   refine P8 r _ ?_
   by_cases hx:x=n
   ·right;rw[Ku];simp[hx]
   ·rcases h with h|⟨c,h⟩
    ·rcases IE.mp h with z|z
     ·injection z with z1 _;exact absurd z1 hx
     ·exact .inl z
    ·right
     refine⟨c,?_⟩
     rw[Ku]
     have:(x == n)=false:=by simpa using hx
     rw[this];exact h
  ·rw[if_neg hk]
   refine P8 r _ ?_
   rcases h with h|h
   ·rcases IE.mp h with z|z
    ·injection z with _ z2
     subst z2
     exact absurd rfl hk
    ·exact .inl z
   ·exact .inr h
theorem ak{scope:Scope}{env:Env}{x:Str}{k:NameKind}(h:(relabel scope env).names.lookup x=some k)(hk:k = .cell∨k = .free)(hcell:∀ y∈scope.names,y.2 ≠ .cell):(x,NameKind.free)∈scope.names:=by
 have go:∀(l:List (Str × NameKind)),(∀ y∈l,y.2 ≠ .cell)→(l.map fun(n,k)=>if (k == NameKind.free && env.scope.kind == .function && env.kindOf n == some .cell)=true then(n,NameKind.cell)else(n,k)).lookup x=some k→(x,NameKind.free)∈l:=by
  intro l
  induction l with
  | nil=>intro _ h;cases h
  | cons p r ih =>
   intro hl h
   obtain⟨n,j⟩:=p
   rw[Jj,Ku]at h
   by_cases hj:j = .free
   ·subst hj
    by_cases hx:x=n
    ·subst hx;exact IG
    ·refine IC _ (ih (fun y hy=>hl y (IC _ hy)) ?_)
     have e:∀ b:Bool,(x == (if b=true then(n,NameKind.cell)else(n,NameKind.free)).1)=false:=fun b=>by cases b<;>simpa using hx
     dsimp only at h
     rw[e]at h
     exact h
   ·have e:(j == NameKind.free)=false:=by simpa using hj
    have hc:=hl (n,j) IG
    dsimp only at h
    rw[e]at h
    simp only[Nh,Kn,if_false]at h
    by_cases hx:x=n
    ·have:(x == n)=true:=by simpa using hx
     rw[this]at h
     have h':j=k:=by simpa using h
     subst h'
     rcases hk with z|z
     ·exact absurd z hc
     ·exact absurd z hj
    ·have:(x == n)=false:=by simpa using hx
     rw[this]at h
     exact IC _ (ih (fun y hy=>hl y (IC _ hy)) h)
 exact go scope.names hcell h
noncomputable def cxF(X:Cx)(scope:Scope)(cl:List (Str × Addr))(N':List Str)(s3:Shared)(H3:Hp)(C:Addr)(fp:List Addr)(pins:List (Addr × Obj)):Cx :=
 { X with N:=N',s₀:=s3,H₀:=H3,env:=compEnvC scope cl C X.env,outer:=X.stack,ex:=fp,fn:=fun _=>false,pn:=X.pn++pins,xe:=fun _ _=>False }
noncomputable def ia(n:Nat)(caps:List Nat)(σ:St):St:=Km n none++caps.map fun i=>(σ[i]?).getD none
def kO(n:Nat)(caps:List Nat)(wi:TI)(g:TG)(tc:TT)(te:TE):TE:=fun σ H Q=>wi σ H fun J H1=>∀ D,H1 D=none→∃ W:Nat→Nat→Hp→Prop,(∃ m,W 0 m (upd H1 D (.lst [])))∧∀ i m H,W i m H →
 (J.stop i H∧Q (.ref D) H)∨(J.go i H∧∀ x H',J.yld i H x H'→g x (ia n caps σ) H' fun σ2 H2=>tc σ2 H2 fun b H2'=>if b=true then te σ2 H2' fun v H3=>∃ ys,H3 D=some (.lst ys)∧ys.length<sizeLine∧∃ m',m'<m∧W (i+1) m' (upd H3 D (.lst (ys++[v])))else ∃ m',m'<m∧W (i+1) m' H2')
section
variable {X:Cx} {elt tg iter:Expr} {scope:Scope} {cl:List (Str × Addr)} {tgs cps:List Str} {caps:List Nat} {wi:TI} {g:TG} {tc:TT} {te:TE} {pos:Pos} {ifs:List Expr}
def vW(s3:Shared)(H3:Hp)(fp:List Addr)(cl:List (Str × Addr))(x:Str)(v:V):Prop :=
 ∃(u:Value) (c:Addr) (o:Obj),j6 v u∧cl.lookup x=some c∧s3.heap.get? c=some o∧o.data = .cell (some u)∧H3 c=none∧c∉fp
theorem Inv.reset{pins pins':List (Addr × Obj)}{σ0 σ':St}{H3 H':Hp}{s3 s':Shared}{fp:List Addr}{C:Addr}(I:Inv (cxF X scope cl (tgs++cps) s3 H3 C fp pins) pins' σ' H' s')
  (hsc:∀ x∈cps,(relabel scope X.env).names.lookup x=some .cell∨(relabel scope X.env).names.lookup x=some .free) (hl:caps.length=cps.length)
  (hc:∀(j:Nat) (x:Str) (v:V),cps[j]? = some x→(caps.map fun i=>(σ0[i]?).getD none)[j]? = some (some v)→vW s3 H3 fp cl x v) :
  Inv (cxF X scope cl (tgs++cps) s3 H3 C fp pins) pins' (ia tgs.length caps σ0) H' s':=by
 obtain⟨m,hn,_⟩:=I.loc
 refine⟨I.ok,I.os,I.bare,I.base,⟨m,hn,fun i x v e1 e2 e3=>?_⟩,I.cell,I.free,I.freeC,I.pin,I.hok,by simp[ia,cxF,hl]⟩
 have e1:(tgs++cps)[i]? = some x:=e1
 unfold ia at e2
 rw[Ld]at e1 e2
 rw[KY]at e2
 by_cases hi:i<tgs.length
 ·rw[if_pos hi]at e2
  rw[JN]at e2
  split at e2<;>cases e2
 ·rw[if_neg hi]at e1 e2
  obtain⟨u,c,o,r,h1,h2,h3,h4,h5⟩:=hc (i - tgs.length) x v e1 e2
  obtain⟨sl,k⟩:=I.base.any h2 h4 h5
  refine⟨u,r,.inr ⟨?_,c,h1,_,k,h3⟩⟩
  rcases hsc x (IU e1)with z|z
  ·exact .inl z
  ·exact .inr z
theorem ku{pins:List (Addr × Obj)}{σ0:St}{σ:St}{H3:Hp}{s3:Shared}{fp:List Addr}{it D C:Addr}{tn:Nat→Heap→Prop}{J:It}{h₁:Heap}{tk:Nat}{m:Str→Option Value}{R:Result→Shared→Prop}{Qd:Hp→Prop}
  (hc:X.calm=true) (hcell:∀ x∈scope.names,x.2 ≠ .cell) (hkind:scope.kind = .function)
  (hcl:∀ x c,cl.lookup x=some c→X.env.cells.lookup x=some c) (hhas:∀ x,(x,NameKind.free)∈scope.names→∃ c,cl.lookup x=some c)
  (hsc:∀ x∈cps,(relabel scope X.env).names.lookup x=some .cell∨(relabel scope X.env).names.lookup x=some .free) (hl:caps.length=cps.length)
  (hcap:∀(j:Nat) (x:Str) (v:V),cps[j]? = some x→(caps.map fun i=>(σ0[i]?).getD none)[j]? = some (some v)→vW s3 H3 fp cl x v)
  (hg:∀ cl s3 H3 C fp pins,PG (cxF X scope cl (tgs++cps) s3 H3 C fp pins) tg g) (hq:∀ cl s3 H3 C fp pins,aK (cxF X scope cl (tgs++cps) s3 H3 C fp pins) ifs tc) (he:∀ cl s3 H3 C fp pins,PE (cxF X scope cl (tgs++cps) s3 H3 C fp pins) elt te)
  (I3:Inv X pins σ H3 s3) (T:ml X.prog X.w X.K tg J fp it tn) (st3:tn 0 s3.heap) (f3:∀ b∈fp,S3 X pins H3 b) (hC:C=s3.heap.objs.size) (hn:h₁.Ns C m) (hk:∀ b o,s3.heap.get? b=some o→h₁.get? b=some o)
  (W:Nat→Nat→Hp→Prop) (m0:Nat) (w0:W 0 m0 H3)
  (turn:∀ i m H,W i m H→(J.stop i H∧Qd H)∨(J.go i H∧∀ x H',J.yld i H x H'→g x (ia tgs.length caps σ0) H' fun σ2 H2=>tc σ2 H2 fun b H2'=>if b=true then te σ2 H2' fun v H3=>∃ ys,H3 D=some (.lst ys)∧ys.length<sizeLine∧∃ m',m'<m∧W (i+1) m' (upd H3 D (.lst (ys++[v])))else ∃ m',m'<m∧W (i+1) m' H2'))
  (hR:∀ s' H' σ',Inv (cxF X scope cl (tgs++cps) s3 H3 C fp pins) [] σ' H' s'→Qd H'→R (.ok .next) s') :
  codeAny (model X.prog X.w) X.A (.compStart (.ListComp elt [⟨tg,iter,ifs,0⟩] scope pos) 0 (.ref it) (.ref D) (compEnvC scope cl C X.env)) R { s3 with heap:=h₁,toks:=tk }:=by
 have lt3:∀ b∈fp,b<s3.heap.objs.size:=fun b hb=>by
  obtain⟨o,e,_⟩:=T.obj 0 _ st3 b hb
  exact II e
 have ok':(cxF X scope cl (tgs++cps) s3 H3 C fp pins).Ok:={
  mod:=I3.ok.mod
  kind:=hkind
  glob:=I3.ok.glob
  blt:=I3.ok.blt
  above:=MG hC.symm
  inj:=fun x y c e e'=>I3.ok.inj x y c (hcl x c e) (hcl y c e')
  has:=fun x h=>by
   rcases h with h|h
   ·exact hhas x (ak h (.inl rfl) hcell)
   ·exact hhas x (ak h (.inr rfl) hcell)
  cab:=fun x c h=>by cases h
  hd:=fun _=>I3.ok.hd hc
  frames:=I3.ok.frames
  stk:=.inl rfl
  exf:=fun b hb=>⟨fun z=>by
   have z':b=C:=z
   have h1:=lt3 b hb
   rw[z',hC]at h1
   exact JZ _ h1,fun x c e=>(f3 b hb).2.2.2.2.1 x c (hcl x c e)⟩
  bs:=fun b o e=>I3.bs b o e
  bsz:=IT I3.ok.bsz I3.sz
  noex:=fun b o e hb=>by
   obtain⟨_,_,_,q,_⟩:=f3 b hb
   rcases q with q|q
   ·exact I3.ok.noex b o e q
   ·have h1:=II e
    exact absurd (IF (IF h1 I3.ok.bsz) q) (JZ _)
  exfs:=fun b hb z=>by
   obtain⟨_,q1,q2,_⟩:=f3 b hb
   rcases IE.mp (I3.stkSub b z)with y|y
   ·exact q1 y
   ·exact q2 y
  funs:=I3.stack
  frf:=I3.stkFree }
 have J0:Inv (cxF X scope cl (tgs++cps) s3 H3 C fp pins) [] (Km (tgs++cps).length none) H3 { s3 with heap:=h₁,toks:=tk }:={
  ok:=ok'
  os:=rfl
  bare:=I3.bare
  base:=Un.kept hk
  loc:=⟨m,hn,fun i x v _ e _=>by
   rw[JN]at e
   split at e<;>cases e⟩
  cell:=fun x c e=>by
   obtain⟨v,o,ho,hd⟩:=I3.cell x c (hcl x c e)
   exact⟨v,o,hk c o ho,hd⟩
  free:=I3.hok.fresh (MG hC.symm)
  freeC:=fun x c e=>I3.freeC x c (hcl x c e)
  pin:=fun p hp=>by
   have hp':p∈X.pn++pins:=by simpa[cxF]using hp
   obtain⟨a1,a2,a3,a4,a5⟩:=I3.pin p hp'
   refine⟨hk _ _ a1,a2,fun z=>?_,fun z=>?_,a5⟩
   ·have z':p.1=C:=z
    have h1:=II a1
    rw[z',hC]at h1
    exact JZ _ h1
   ·rcases IE.mp (I3.stkSub _ z)with y|y
    ·exact a3 y
    ·exact a4 y
  hok:=I3.hok.kept hk
  len:=by simp[cxF] }
 have stat:∀{H':Hp},(∀ b∈fp,H' b=none)→∀ b∈fp,S3 (cxF X scope cl (tgs++cps) s3 H3 C fp pins) [] H' b:=fun hn b hb=>by
  obtain⟨_,_,_,_,_,q⟩:=f3 b hb
  exact⟨hn b hb,(ok'.exf b hb).1,ok'.exfs b hb,.inl hb,(ok'.exf b hb).2,fun p hp=>q p (by simpa[cxF]using hp)⟩
 have loop:codeAny (model X.prog X.w) X.A (.compLoop (.ListComp elt [⟨tg,iter,ifs,0⟩] scope pos) 0 (.ref it) (.ref D) (compEnvC scope cl C X.env)) R { s3 with heap:=h₁,toks:=tk }:=by
  refine hJ (fun n s'=>∃ i σ' H',Inv (cxF X scope cl (tgs++cps) s3 H3 C fp pins) [] σ' H' s'∧tn i s'.heap∧(∀ b∈fp,H' b=none)∧W i n H') ?_ m0
   ⟨0,_,H3,J0,T.keep _ _ _ st3 fun b hb o e=>hk b o e,fun b hb=>(f3 b hb).1,w0⟩
  rintro n s4 ⟨i,σ4,H4,I4,st4,fr4,w4⟩
  rcases turn i n H4 w4 with⟨stop,qn⟩|⟨go,step⟩
  ·refine thn (T.done (cxF X scope cl (tgs++cps) s3 H3 C fp pins) rfl rfl rfl hc i [] s4 σ4 H4 _ I4 (stat fr4) st4 stop) fun r s5 zz=>?_
   obtain⟨hr,I5⟩:=zz
   subst hr
   exact hR s5 H4 σ4 I5 qn
  ·refine thn (T.item (cxF X scope cl (tgs++cps) s3 H3 C fp pins) rfl rfl rfl hc i [] s4 σ4 H4 _ I4 (stat fr4) st4 go) fun r s5 zz=>?_
   obtain⟨u,hr,h5⟩:=zz
   subst hr
   refine thn h5 fun _ s6 zz=>?_
   obtain⟨x,H6,I6,r6,y6,st6,fr6⟩:=zz
   have I6w:=I6.reset hsc hl hcap
   have I6':=I6w.pinned (stat fr6) (T.obj _ _ st6)
   refine wpAny_mono (hg cl s3 H3 C fp pins _ s6 _ H6 x u _ I6' r6 (step x H6 y6)) (fun _ s7 ⟨σ7,H7,I7,q7⟩=>?_) fun _ _ z=>z.elim
   refine wpAny_mono (hq cl s3 H3 C fp pins _ s7 σ7 H7 _ I7 q7) (fun b s7' ⟨H7',I7',q7'⟩=>?_) fun _ _ z=>z.elim
   cases b with
   | false =>
    obtain⟨m',hm,w8⟩:=q7'
    refine⟨m',hm,i+1,σ7,H7',I7'.unpinned,T.keep _ _ _ st6 fun b hb o e=>(I7'.pin (b,o) (IW _ (IW _ (C8 hb e)))).1,fun b hb=>?_,w8⟩
    obtain⟨o,e,d⟩:=T.obj _ _ st6 b hb
    exact(I7'.pin (b,o) (IW _ (IW _ (C8 hb e)))).2.1
   | true =>
    refine wpAny_mono (he cl s3 H3 C fp pins _ s7' σ7 H7' _ I7' q7') (fun v s8 ⟨y,H8,I8,r8,q8⟩=>?_) fun _ _ z=>z.elim
    obtain⟨ys,hy,hz,m',hm,w8⟩:=q8
    refine wpAny_mono (eL (X:=cxF X scope cl (tgs++cps) s3 H3 C fp pins) _ s8 σ7 H8 (.ref D) [y] (.ref D) [v] (fun _ H9=>W (i+1) m' H9) I8 rfl (.cons r8 .nil) ⟨D,ys,y,rfl,rfl,hy,hz,w8⟩) (fun _ s9 ⟨_,H9,I9,_,w9⟩=>?_) fun _ _ z=>z.elim
    refine⟨m',hm,i+1,σ7,H9,I9.unpinned,T.keep _ _ _ st6 fun b hb o e=>(I9.pin (b,o) (IW _ (IW _ (C8 hb e)))).1,fun b hb=>?_,w9⟩
    obtain⟨o,e,d⟩:=T.obj _ _ st6 b hb
    exact(I9.pin (b,o) (IW _ (IW _ (C8 hb e)))).2.1
 exact codeAny_compStart_list loop (T.self _ 0 _ _ _ (T.keep _ _ _ st3 fun b hb o e=>hk b o e) loop)
theorem eS(hc:X.calm=true)(hcell:∀ x∈scope.names,x.2 ≠ .cell)(hkind:scope.kind = .function)(hnames:∀ x∈scope.names,x.2 = .local→scope.names.lookup x.1=some .local)
  (hfr:∀ x∈scope.names,x.2 = .free→x.1∈cps) (hN:caps.map (fun i=>X.N[i]?)=cps.map some) (hX:∀ x∈cps,X.env.scope.names.lookup x=some .cell∧scope.names.lookup x=some .free)
  (hsc:∀ x∈cps,(relabel scope X.env).names.lookup x=some .cell∨(relabel scope X.env).names.lookup x=some .free)
  (hi:PI X tg iter wi) (hg:∀ cl s3 H3 C fp pins,PG (cxF X scope cl (tgs++cps) s3 H3 C fp pins) tg g) (hq:∀ cl s3 H3 C fp pins,aK (cxF X scope cl (tgs++cps) s3 H3 C fp pins) ifs tc) (he:∀ cl s3 H3 C fp pins,PE (cxF X scope cl (tgs++cps) s3 H3 C fp pins) elt te)
  (hs:∀ x,foldedSetIterable iter X.env x=pure x) {use:Option (Value→Sem Unit)} {Qf:Value→Shared→Prop} {pins:List (Addr × Obj)} {s:Shared} {σ:St} {H:Hp} {Q:VK} (I:Inv X pins σ H s) (h:kO tgs.length caps wi g tc te σ H Q)
  (hU:∀(D C:Addr) (s':Shared) (H4:Hp) (m4:Str→Option Value),s'.heap.Ns C m4→S3 X pins H4 C→(∀ h',Heap.SameBut C s'.heap h'→Inv X pins σ H4 { s' with heap:=h' })→Q (.ref D) H4→compPost (model X.prog X.w) X.A X.xe use Qf (.ref D) C (.ok .next) s') :
  wpAny (model X.prog X.w) X.A (comprehension (.ListComp elt [⟨tg,iter,ifs,0⟩] scope pos) scope X.env (firstIterPos [⟨tg,iter,ifs,0⟩] pos) (newList []) false (eval iter X.env) use) Qf X.xe s:=by
 have hl:caps.length=cps.length:=by
  have:=congrArg LC hN
  simpa using this
 have hcells:∀ n,(n,NameKind.free)∈scope.names→∃ c,X.env.cells.lookup n=some c:=fun n hn=>I.ok.has n (.inl (hX n (hfr _ hn rfl)).1)
 refine wpAny_comprehension_free (use:=use) rfl hs (kv hcells) hkind hnames (thn (hi pins s σ H _ I h) fun v s1 h1=>thn h1 fun itv s2 h2=>?_)
 obtain⟨it,fp,tn,J,H',e,I2,T,st2,f2,hW⟩:=h2
 subst e
 refine wpAny_newObj_type (hd:=by size_fits) (wpAny_newFunctionEnv hcell (by intro y hy;simp at hy) (fun h₁ hns₁ hsb₁=>?_) hkind)
 dsimp only at hns₁ hsb₁ ⊢
 have I3:=I2.lnew (ys:=[]) (its:=[]) (t':=s2.toks) .nil (Jr _)
 obtain⟨W,⟨m0,w0⟩,turn⟩:=hW _ I2.fresh
 have st3:tn 0 (s2.heap.push { cls:=.type "list",data:=.seq ([]:List Value).toArray }):=T.keep _ _ _ st2 fun b hb o e=>IB _ e
 have f3:∀ b∈fp,S3 X pins (upd H' s2.heap.objs.size (.lst [])) b:=fun b hb=>by
  obtain⟨q0,q⟩:=f2 b hb
  obtain⟨o,e,_⟩:=T.obj 0 _ st2 b hb
  exact⟨by rw[f9 (Jk (II e))];exact q0,q⟩
 have old:∀ b o,(s2.heap.push { cls:=.type "list",data:=.seq ([]:List Value).toArray }).get? b=some o→h₁.get? b=some o:=fun b o e =>
  hsb₁.extBut b o (Jk (II e)) (IB _ e)
 have hcap:∀(j:Nat) (x:Str) (v:V),cps[j]? = some x→(caps.map fun i=>(σ[i]?).getD none)[j]? = some (some v) →
   vW { s2 with heap:=s2.heap.push { cls:=.type "list",data:=.seq ([]:List Value).toArray },toks:=s2.toks } (upd H' s2.heap.objs.size (.lst [])) fp (O3 X.env.cells scope.names []) x v:=fun j x v ex ev=>by
  have hx:=hX x (IU ex)
  have hj:(caps.map (fun i=>X.N[i]?))[j]? = some (some x):=by rw[hN,Jb,ex];rfl
  rw[Jb]at ev hj
  cases hcj:caps[j]? with
  | none=>rw[hcj]at ev;cases ev
  | some i =>
   rw[hcj]at ev hj
   have ev':(σ[i]?).getD none=some v:=by simpa using ev
   have hj':X.N[i]? = some x:=by simpa using hj
   have es:σ[i]? = some (some v):=by
    cases q:σ[i]? with
    | none=>rw[q]at ev';cases ev'
    | some w=>rw[q]at ev';rw[show w=some v by simpa using ev']
   obtain⟨m,hn,hlook⟩:=I3.loc
   obtain⟨u,ru,lk⟩:=hlook i x v hj' es (.inr (.inl hx.1))
   rcases lk with⟨k1,_⟩|⟨_,c,hc1,o,ho,hd⟩
   ·have k1':X.env.scope.names.lookup x=some .local:=k1
    rw[hx.1]at k1';cases k1'
   ·have hmem:(x,NameKind.free)∈scope.names:=by
     have hlk:=hx.2
     have go:∀ l:List (Str × NameKind),l.lookup x=some .free→(x,NameKind.free)∈l:=by
      intro l
      induction l with
      | nil=>intro z;cases z
      | cons p r ih =>
       intro z
       obtain⟨n,k⟩:=p
       rw[Ku]at z
       split at z
       ·rename_i q;have q':x=n:=by simpa using q
        have z':k = .free:=by simpa using z
        rw[q',z'];exact IG
       ·exact IC _ (ih z)
     exact go _ hlk
    obtain⟨c',hc'⟩:=P8 (cells:=X.env.cells) scope.names [] (.inl hmem)
    have:=L3 scope.names [] hcells (fun y d z=>by cases z) hc'
    rw[hc1]at this
    cases this
    refine⟨u,c,o,ru,hc',ho,hd,I3.freeC x c hc1,fun hb=>?_⟩
    exact(f3 c hb).2.2.2.2.1 x c hc1 rfl
 refine ku (s3:={ s2 with heap:=s2.heap.push { cls:=.type "list",data:=.seq ([]:List Value).toArray },toks:=s2.toks }) (Qd:=fun H=>Q (.ref s2.heap.objs.size) H) (tk:=s2.toks+([]:List (Str × Value)).length) (cl:=O3 X.env.cells scope.names [])
  hc hcell hkind (fun x c z=>L3 scope.names [] hcells (fun y d z=>by cases z) z) (fun x z=>P8 scope.names [] (.inl z)) hsc hl hcap hg hq he I3 T st3 f3 rfl hns₁ old W m0 w0 turn fun s' H4 σ4 I4 q4=>?_
 obtain⟨m4,hn4,_⟩:=I4.loc
 have hCfree:H4 _=none:=I4.free
 have nC:∀ b u,H4 b=some u→b≠(s2.heap.push { cls:=.type "list",data:=.seq ([]:List Value).toArray }).objs.size:=fun b u e z=>by
  rw[z]at e
  have:=e.symm.trans hCfree
  cases this
 have lt:∀ b o,(s2.heap.push { cls:=.type "list",data:=.seq ([]:List Value).toArray }).get? b=some o→b≠(s2.heap.push { cls:=.type "list",data:=.seq ([]:List Value).toArray }).objs.size:=fun b o e=>Jk (II e)
 have ub:=I4.base
 have fC:S3 X pins H4 (s2.heap.push { cls:=.type "list",data:=.seq ([]:List Value).toArray }).objs.size:=I3.fpOk (IL _) hCfree
 refine hU _ _ s' H4 m4 hn4 fC (fun h' hsb=>?_) q4
 have un:Un (frs X.stack) fp (upd H' s2.heap.objs.size (.lst [])) H4 (s2.heap.push { cls:=.type "list",data:=.seq ([]:List Value).toArray }) h':={
  keep:=fun b o e n x y=>(hsb.2 b (lt b o e)).trans (ub.keep b o e n x y)
  slot:=fun b o e n x y=>let ⟨q,z⟩:=ub.slot b o e n x y;⟨q,(hsb.2 b (lt b o e)).trans z⟩
  free:=ub.free
  there:=fun b o e y=>let ⟨q,z⟩:=ub.there b o e y;⟨q,(hsb.2 b (lt b o e)).trans z⟩
  tups:=ub.tups
  frzs:=ub.frzs
  tbls:=ub.tbls }
 refine I3.call' (s':={ s' with heap:=h' }) I4.os un (fun b u e=>?_) I4.bare fun b hb=>?_
 ·refine(I4.hok b u e).stay (fun c v hcv q=>(hsb.2 c ?_).trans q) (fun _ q=>q) fun _ _ q=>q
  rcases hcv with z|z
  ·rw[z];exact nC b u e
  ·exact nC c _ z
 ·obtain⟨q0,q1,q2,q3,q4,q5⟩:=f3 b hb
  exact⟨q3,q1,q4,q5⟩
theorem tV(hc:X.calm=true)(hcell:∀ x∈scope.names,x.2 ≠ .cell)(hkind:scope.kind = .function)(hnames:∀ x∈scope.names,x.2 = .local→scope.names.lookup x.1=some .local)
  (hfr:∀ x∈scope.names,x.2 = .free→x.1∈cps) (hN:caps.map (fun i=>X.N[i]?)=cps.map some) (hX:∀ x∈cps,X.env.scope.names.lookup x=some .cell∧scope.names.lookup x=some .free)
  (hsc:∀ x∈cps,(relabel scope X.env).names.lookup x=some .cell∨(relabel scope X.env).names.lookup x=some .free)
  (hi:PI X tg iter wi) (hg:∀ cl s3 H3 C fp pins,PG (cxF X scope cl (tgs++cps) s3 H3 C fp pins) tg g) (hq:∀ cl s3 H3 C fp pins,aK (cxF X scope cl (tgs++cps) s3 H3 C fp pins) ifs tc) (he:∀ cl s3 H3 C fp pins,PE (cxF X scope cl (tgs++cps) s3 H3 C fp pins) elt te)
  (hs:∀ x,foldedSetIterable iter X.env x=pure x:=by intro _;rfl):PE X (.ListComp elt [⟨tg,iter,ifs,0⟩] scope pos) (kO tgs.length caps wi g tc te):=by
 intro pins s σ H Q I h
 rw[eval_ListComp]
 exact eS hc hcell hkind hnames hfr hN hX hsc hi hg hq he hs I h fun D C s' H4 m4 hn4 fC hI q4=>⟨m4,hn4,fun h' hsb=>⟨.ref D,H4,hI h' hsb,rfl,q4⟩⟩
def PU(X:Cx)(i:Nat)(x:Str)(pos':Pos)(e:Expr)(te:TE):Prop:=∀(pins:List (Addr × Obj)) (s:Shared) (σ:St) (H:Hp) (Q:VK),Inv X pins σ H s→te σ H Q →
 wpAny (model X.prog X.w) X.A (evalThenUse e X.env (assign (.Name x pos') X.env)) (fun _ s'=>∃ v H',Inv X pins (σ.set i (some v)) H' s'∧Q v H') X.xe s
theorem PU.imp{X:Cx}{i:Nat}{x:Str}{pos':Pos}{e:Expr}{t t':TE}(h:PU X i x pos' e t)(f:∀ σ H Q,t' σ H Q→t σ H Q):PU X i x pos' e t':=fun pins s σ H Q I q=>h pins s σ H Q I (f σ H Q q)
theorem xJ{i:Nat}{x:Str}{pos' pos:Pos}{e:Expr}{te:TE}(h:PU X i x pos' e te)(hs:swapsWith e (some (.Name x pos')) pos.line X.env=pure true):PS X (.Assign [.Name x pos'] e pos) (Be te (uP i)):=by
 intro pins s σ H D I q
 rw[exec_Assign_Name_used _ _ _ _ hs]
 refine Iz (wpAny_standAt (Iz (thn (h pins s σ H _ I q) fun _ s1 ⟨v,H1,I1,q1⟩=>IM ?_)))
 exact⟨_,H1,I1,q1⟩
theorem tL(hc:X.calm=true)(hcell:∀ x∈scope.names,x.2 ≠ .cell)(hkind:scope.kind = .function)(hnames:∀ x∈scope.names,x.2 = .local→scope.names.lookup x.1=some .local)
  (hfr:∀ x∈scope.names,x.2 = .free→x.1∈cps) (hN:caps.map (fun i=>X.N[i]?)=cps.map some) (hX:∀ x∈cps,X.env.scope.names.lookup x=some .cell∧scope.names.lookup x=some .free)
  (hsc:∀ x∈cps,(relabel scope X.env).names.lookup x=some .cell∨(relabel scope X.env).names.lookup x=some .free)
  (hi:PI X tg iter wi) (hg:∀ cl s3 H3 C fp pins,PG (cxF X scope cl (tgs++cps) s3 H3 C fp pins) tg g) (hq:∀ cl s3 H3 C fp pins,aK (cxF X scope cl (tgs++cps) s3 H3 C fp pins) ifs tc) (he:∀ cl s3 H3 C fp pins,PE (cxF X scope cl (tgs++cps) s3 H3 C fp pins) elt te)
  {i:Nat} {x:Str} {pos':Pos} (hNd:X.N.Nodup) (hxi:X.N[i]? = some x) (hx:Loc X.env.scope x) (hf:X.fn x=true∨X.env.scope.names.lookup x=some .local)
  (hs:∀ x,foldedSetIterable iter X.env x=pure x:=by intro _;rfl):PU X i x pos' (.ListComp elt [⟨tg,iter,ifs,0⟩] scope pos) (kO tgs.length caps wi g tc te):=by
 intro pins s σ H Q I h
 refine Iz (thn (eS (use:=some (assign (.Name x pos') X.env)) (Qf:=fun _ s'=>∃ v H',Inv X pins (σ.set i (some v)) H' s'∧Q v H') hc hcell hkind hnames hfr hN hX hsc hi hg hq he hs I h fun D C s' H4 m4 hn4 fC hI q4=>?_) fun _ s1 z=>IM z)
 have I4:Inv X pins σ H4 s':=hI s'.heap (Heap.SameBut.refl _ _)
 show wpAny _ _ (assign (.Name x pos') X.env (.ref D)) _ _ s'
 refine wpAny_assign_Name (eC (v:=.ref D) I4 hNd hxi hx rfl (fun s2 I2 ⟨a,hsb,ha⟩=>?_) hf)
 have hac:C≠a:=by
  rcases ha with ha|ha
  ·rw[ha];exact fC.2.1
  ·exact Ne.symm (fC.2.2.2.2.1 x a ha)
 refine⟨m4,hn4.sameBut hsb hac,fun h' hs'=>⟨.ref D,H4,?_,q4⟩⟩
 exact I2.turned (t':=s2.toks) (fun b o hb e=>hs'.extBut b o hb e) fC.1 fC.2.1 fC.2.2.2.1 fC.2.2.2.2.1 fC.2.2.2.2.2
end
end L2
namespace L2
open PySem
noncomputable def SI:Bool→Heap→Addr→Addr→Nat→Prop
 | true,h,it,a,i=>h.IsListIter it a i
 | false,h,it,a,i=>h.IsTupleIter it a i
noncomputable def SS:Bool→Heap→Addr→Array Value→Prop
 | true,h,a,xs=>h.IsList a xs
 | false,h,a,xs=>h.IsTuple a xs
theorem SI.at{k:Bool}{h h':Heap}{it a:Addr}{i:Nat}(x:SI k h it a i)(f:∀ o,h.get? it=some o→h'.get? it=some o):SI k h' it a i:=by
 cases k<;>(obtain⟨o,e,r⟩:=x;exact⟨o,f o e,r⟩)
theorem SS.at{k:Bool}{h h':Heap}{a:Addr}{xs:Array Value}(x:SS k h a xs)(f:∀ o,h.get? a=some o→h'.get? a=some o):SS k h' a xs:=by
 cases k<;>(obtain⟨o,e,r⟩:=x;exact⟨o,f o e,r⟩)
theorem SI.obj{k:Bool}{h:Heap}{it a:Addr}{i:Nat}(x:SI k h it a i):∃ o,h.get? it=some o∧∀ v,o.data ≠ .cell v:=by
 cases k<;>(obtain⟨o,e,c,d⟩:=x;exact⟨o,e,fun v z=>by rw[d]at z;cases z⟩)
theorem SS.obj{k:Bool}{h:Heap}{a:Addr}{xs:Array Value}(x:SS k h a xs):∃ o,h.get? a=some o:=by
 cases k<;>(obtain⟨o,e,_⟩:=x;exact⟨o,e⟩)
section
variable {prog:Program} {w:World} {A:Around} {E:Value→Shared→Prop} {s:Shared}
theorem pH{p t:Addr}{n:Nat}{xs:Array Value}{v:Value}{Q:Value→Shared→Prop}(hp:s.heap.IsTupleIter p t n)(ht:s.heap.IsTuple t xs)(hv:xs[n]? = some v)
  (q:∀ h',h'.IsTupleIter p t (n+1)→Heap.SameBut p s.heap h'→Q v { s with heap:=h' }):wpAny (model prog w) A (Builtin.SmallTypes.nextOf (.ref p)) Q E s:=by
 obtain⟨ob,e1,e2,e3⟩:=id hp
 obtain⟨ot,f1,_,cap,f2⟩:=ht
 unfold Builtin.SmallTypes.nextOf
 refine Iz (wpAny_callSpecial?_slot (name:=Str.ofString "__next__") hp.typeIs F.slot_tuple_iterator_next (wpAny_call_entry F.slot_tuple_iterator_next hp.typeIs F.entry_tuple_iterator_next ?_ (F.args_tuple_iterator_next_1 _)))
 show wpAny _ _ (field (.ref p) 0 >>= _) _ _ s
 refine Iz (wpAny_field e1 e3 (x:=.ref t) rfl ?_)
 show wpAny _ _ (if (Value.ref t == Value.none)=true then _ else _) _ _ s
 rw[if_neg (fun z:(Value.ref t == Value.none)=true=>nomatch z)]
 show wpAny _ _ (field (.ref p) 1 >>= _) _ _ s
 refine Iz (wpAny_field e1 e3 (x:=.int n 0) rfl ?_)
 show wpAny _ _ (seqItems? (.ref t) >>= _) _ _ s
 refine Iz (wpAny_seqItems f1 f2 ?_)
 simp only[Ly,hv]
 refine Iz (wpAny_setField e1 e3 (by simp) (IM ⟨v,rfl,IM (q _ ⟨_,KZ _ e1 (Obj.isFreed_of_fields (Obj.data_mapFields e3 _)),(Obj.cls_mapFields ..).trans e2,?_⟩ (Heap.SameBut.update ..))⟩))
 rw[Obj.data_mapFields e3];simp[rawInt]
theorem sk{p t:Addr}{n:Nat}{xs:Array Value}{Q:Value→Shared→Prop}(hA:A.handled=none)(hp:s.heap.IsTupleIter p t n)(ht:s.heap.IsTuple t xs)(hv:xs[n]? = none)
  (q:∀ h' e,Heap.ExtBut p s.heap h'→(∃ o,h'.get? e=some o∧o.cls = .type "StopIteration")→E (.ref e) { s with heap:=h' }):wpAny (model prog w) A (Builtin.SmallTypes.nextOf (.ref p)) Q E s:=by
 obtain⟨ob,e1,e2,e3⟩:=id hp
 obtain⟨ot,f1,_,cap,f2⟩:=ht
 unfold Builtin.SmallTypes.nextOf
 refine Iz (wpAny_callSpecial?_slot (name:=Str.ofString "__next__") hp.typeIs F.slot_tuple_iterator_next (wpAny_call_entry F.slot_tuple_iterator_next hp.typeIs F.entry_tuple_iterator_next ?_ (F.args_tuple_iterator_next_1 _)))
 show wpAny _ _ (field (.ref p) 0 >>= _) _ _ s
 refine Iz (wpAny_field e1 e3 (x:=.ref t) rfl ?_)
 show wpAny _ _ (if (Value.ref t == Value.none)=true then _ else _) _ _ s
 rw[if_neg (fun z:(Value.ref t == Value.none)=true=>nomatch z)]
 show wpAny _ _ (field (.ref p) 1 >>= _) _ _ s
 refine Iz (wpAny_field e1 e3 (x:=.int n 0) rfl ?_)
 show wpAny _ _ (seqItems? (.ref t) >>= _) _ _ s
 refine Iz (wpAny_seqItems f1 f2 ?_)
 simp only[Ly,hv]
 refine Iz (wpAny_rule (Iz (wpAny_setField e1 e3 (by simp) ?_)))
 show wpAny _ _ (newExc (.type "StopIteration") [] >>= _) _ _ _
 refine Iz ?_;simp only[newExc,newTuple]
 refine Iz (wpAny_newObj_type ?_ (by size_fits));refine Iz (m:=firstArgMember _ _) (wpAny_of_eq (a:=Value.none) (by first|rfl|(simp only[firstArgMember];rfl)) ?_)
 refine wpAny_newObj_type ?_ (by size_fits);simp only[raiseNew];refine Iz (wpAny_handled ?_)
 first|rw[show A.in1.handled=none from hA]|rw[hA]
 refine Iz (IM (wpAny_throw (q _ _ (((Heap.SameBut.update ..).extBut.push _).push _) ⟨_,IP _ rfl,rfl⟩)))
theorem aR{k:Bool}{p a:Addr}{n:Nat}{xs:Array Value}{v:Value}{Q:Value→Shared→Prop}(hp:SI k s.heap p a n)(ha:SS k s.heap a xs)(hv:xs[n]? = some v)
  (q:∀ h',SI k h' p a (n+1)→Heap.SameBut p s.heap h'→Q v { s with heap:=h' }):wpAny (model prog w) A (Builtin.SmallTypes.nextOf (.ref p)) Q E s:=by
 cases k with
 | true=>exact wpAny_nextOf_list_item hp ha hv q
 | false=>exact pH hp ha hv q
theorem kT{k:Bool}{p a:Addr}{n:Nat}{xs:Array Value}{Q:Value→Shared→Prop}(hA:A.handled=none)(hp:SI k s.heap p a n)(ha:SS k s.heap a xs)(hv:xs[n]? = none)
  (q:∀ h' e,Heap.ExtBut p s.heap h'→(∃ o,h'.get? e=some o∧o.cls = .type "StopIteration")→E (.ref e) { s with heap:=h' }):wpAny (model prog w) A (Builtin.SmallTypes.nextOf (.ref p)) Q E s:=by
 cases k with
 | true=>exact wpAny_nextOf_list_end hA hp ha hv q
 | false=>exact sk hA hp ha hv q
theorem SI.but{k:Bool}{h h':Heap}{it a b:Addr}{i:Nat}(x:SI k h it a i)(e:Heap.ExtBut b h h')(n:it≠b):SI k h' it a i:=x.at fun o z=>e it o n z
theorem SS.but{k:Bool}{h h':Heap}{a b:Addr}{xs:Array Value}(x:SS k h a xs)(e:Heap.ExtBut b h h')(n:a≠b):SS k h' a xs:=x.at fun o z=>e a o n z
theorem vY{z TI TO p1 p2 l1 l2:Addr}{c1 c2:Bool}{n1 n2:Nat}{xs ys:Array Value}{v1 v2 u1 u2:Value}{Q:Option Value→Shared→Prop}(D:ZipApart z TI TO p1 p2 l1 l2)
  (iz:IsZip s.heap z TI TO .none) (iI:IsPair s.heap TI (.ref p1) (.ref p2)) (iO:IsPair s.heap TO u1 u2) (g1:SI c1 s.heap p1 l1 n1) (g2:SI c2 s.heap p2 l2 n2) (m1:SS c1 s.heap l1 xs) (m2:SS c2 s.heap l2 ys) (w1:xs[n1]? = some v1) (w2:ys[n2]? = some v2)
  (q:∀ h',IsZip h' z TI TO (rawInt s.heap.objs.size)→IsPair h' TO v1 v2→SI c1 h' p1 l1 (n1+1)→SI c2 h' p2 l2 (n2+1)→IsPair h' s.heap.objs.size v1 v2→h'.objs.size=s.heap.objs.size+1 →
   (∀ b o,b≠z→b≠TO→b≠p1→b≠p2→s.heap.get? b=some o→h'.get? b=some o)→Q (some (.ref s.heap.objs.size)) { s with heap:=h' }):wpAny (model prog w) A (pyNext (.ref z)) Q E s:=by
 have ty:s.TypeIs (.ref z) "zip" := ⟨_,iz,rfl⟩
 unfold pyNext
 refine Iz (wpAny_attempt (wpAny_callSpecial?_slot (name:=Str.ofString "__next__") ty F.slot_zip_next (wpAny_call_entry F.slot_zip_next ty F.entry_zip_next ?_ (F.args_zip_next_1 _))))
 show wpAny _ _ (field (.ref z) 2 >>= _) _ _ _
 refine Iz (wpAny_field iz rfl (x:=.bool false) rfl ?_)
 show wpAny _ _ (field (.ref z) 3 >>= _) _ _ _
 refine Iz (wpAny_field iz rfl (x:=.ref TI) rfl (Iz (wpAny_seqItems iI rfl ?_)))
 show wpAny _ _ (Builtin.SmallTypes.ownedTupleIsFree (.ref z) >>= _) _ _ _
 refine Iz ?_;unfold Builtin.SmallTypes.ownedTupleIsFree
 refine Iz (wpAny_field iz rfl (x:=.none) rfl (IM ?_));simp only[if_true]
 refine Iz (wpAny_rule (Iz (wpAny_field iz rfl (x:=.ref TO) rfl (Iz (wpAny_setField_rec iz (by simp) fun ha za sa=>?_)))))
 replace za:IsZip ha z TI TO .ellipsis:=za
 refine Iz ?_;simp only[MS,MW,LU,Ni]
 refine Iz (Iz (wpAny_onRaise ?_))
 show wpAny _ _ (Builtin.SmallTypes.nextOf (.ref p1) >>= _) _ _ _
 refine Iz (aR (g1.but sa.extBut D.i1z) (m1.but sa.extBut D.l1z) w1 fun hb gb sb=>IM ?_)
 have oB:IsPair hb TO u1 u2:=sb.extBut _ _ D.TOi1 (sa.extBut _ _ D.TOz iO)
 refine Iz (wpAny_seqItems oB rfl (Iz (wpAny_updateSeq_pair oB fun hc oC sc=>?_)))
 replace oC:IsPair hc TO v1 u2:=oC
 refine Iz (wpAny_letGo (IM (Iz (Iz (wpAny_onRaise ?_)))))
 show wpAny _ _ (Builtin.SmallTypes.nextOf (.ref p2) >>= _) _ _ _
 refine Iz (aR (((g2.but sa.extBut D.i2z).but sb.extBut D.i12.symm).but sc.extBut D.TOi2.symm) (((m2.but sa.extBut D.l2z).but sb.extBut D.l2i1).but sc.extBut D.l2TO) w2 fun hd gd sd=>IM ?_)
 have oD:IsPair hd TO v1 u2:=sd.extBut _ _ D.TOi2 oC
 refine Iz (wpAny_seqItems oD rfl (Iz (wpAny_updateSeq_pair oD fun he oE se=>?_)))
 replace oE:IsPair he TO v1 v2:=oE
 refine Iz (wpAny_letGo (IM (IM (Iz (wpAny_seqItems oE rfl (Iz (wpAny_newTuple ?_)))))))
 have zs:he.objs.size=s.heap.objs.size:=by rw[se.1,sd.1,sc.1,sb.1,sa.1]
 have zE:IsZip he z TI TO .ellipsis:=se.extBut _ _ D.TOz.symm (sd.extBut _ _ D.i2z.symm (sc.extBut _ _ D.TOz.symm (sb.extBut _ _ D.i1z.symm za)))
 have kE:∀ b o,b≠z→b≠TO→b≠p1→b≠p2→s.heap.get? b=some o→he.get? b=some o:=fun b o b1 b2 b3 b4 e=>se.extBut _ _ b2 (sd.extBut _ _ b4 (sc.extBut _ _ b2 (sb.extBut _ _ b3 (sa.extBut _ _ b1 e))))
 have gE1:SI c1 he p1 l1 (n1+1):=((gb.but sc.extBut D.TOi1.symm).but sd.extBut D.i12).but se.extBut D.TOi1.symm
 have gE2:SI c2 he p2 l2 (n2+1):=gd.but se.extBut D.TOi2.symm
 have ltz:z<he.objs.size:=II zE
 show wpAny _ _ (Builtin.SmallTypes.ownedTupleHandOut (.ref z) (.ref he.objs.size) >>= _) _ _ _
 refine Iz ?_;unfold Builtin.SmallTypes.ownedTupleHandOut
 refine Iz (wpAny_setField_rec (IB _ zE) (by simp) fun hf zf sf=>?_)
 replace zf:IsZip hf z TI TO (rawInt he.objs.size):=zf
 refine wpAny_setField_rec zf (by simp) fun hg zg sg=>?_
 replace zg:IsZip hg z TI TO (rawInt he.objs.size):=zg
 have lift:∀ b o,b≠z→he.get? b=some o→hg.get? b=some o:=fun b o b1 e=>sg.extBut _ _ b1 (sf.extBut _ _ b1 (IB _ e))
 have tG:IsPair hg he.objs.size v1 v2:=sg.extBut _ _ (Kh ltz) (sf.extBut _ _ (Kh ltz) (IP _ rfl))
 have zz:hg.objs.size=he.objs.size+1:=by rw[sg.1,sf.1,JH]
 rw[zs]at zg tG zz
 refine IM ⟨_,rfl,IM ?_⟩
 show Q (some (.ref he.objs.size)) _
 rw[zs]
 exact q hg zg (lift _ _ D.TOz oE) (gE1.at fun o e=>lift _ o D.i1z e) (gE2.at fun o e=>lift _ o D.i2z e) tG zz fun b o b1 b2 b3 b4 e=>lift b o b1 (kE b o b1 b2 b3 b4 e)
theorem AK{z TI TO p1 p2 l1 l2:Addr}{c1 c2:Bool}{n1 n2:Nat}{xs ys:Array Value}{u1 u2:Value}{Q:Option Value→Shared→Prop}(hA:A.handled=none)(D:ZipApart z TI TO p1 p2 l1 l2)
  (iz:IsZip s.heap z TI TO .none) (iI:IsPair s.heap TI (.ref p1) (.ref p2)) (iO:IsPair s.heap TO u1 u2) (g1:SI c1 s.heap p1 l1 n1) (g2:SI c2 s.heap p2 l2 n2) (m1:SS c1 s.heap l1 xs) (m2:SS c2 s.heap l2 ys) (fin:xs[n1]? = none∨ys[n2]? = none)
  (q:∀ h',(∀ b o,b≠z→b≠TO→b≠p1→b≠p2→s.heap.get? b=some o→h'.get? b=some o)→Q none { s with heap:=h' }):wpAny (model prog w) A (pyNext (.ref z)) Q E s:=by
 have ty:s.TypeIs (.ref z) "zip" := ⟨_,iz,rfl⟩
 unfold pyNext
 have out:∀(h':Heap) (e:Addr),(∀ b o,b≠z→b≠TO→b≠p1→b≠p2→s.heap.get? b=some o→h'.get? b=some o)→(∃ o,h'.get? e=some o∧o.cls = .type "StopIteration") →
   wpAny (model prog w) A (do if ← isInstance (.ref e) (.type "StopIteration")then pure none else throw (.ref e):Sem (Option Value)) Q E { s with heap:=h' }:=fun h' e k ⟨o,e1,e2⟩ =>
  Iz (wpAny_isInstance (T := "StopIteration") (b:=true) ⟨o,e1,e2⟩ isSubtype_stop (IM (q h' k)))
 refine Iz (wpAny_attempt (wpAny_callSpecial?_slot (name:=Str.ofString "__next__") ty F.slot_zip_next (wpAny_call_entry F.slot_zip_next ty F.entry_zip_next ?_ (F.args_zip_next_1 _))))
 show wpAny _ _ (field (.ref z) 2 >>= _) _ _ _
 refine Iz (wpAny_field iz rfl (x:=.bool false) rfl ?_)
 show wpAny _ _ (field (.ref z) 3 >>= _) _ _ _
 refine Iz (wpAny_field iz rfl (x:=.ref TI) rfl (Iz (wpAny_seqItems iI rfl ?_)))
 show wpAny _ _ (Builtin.SmallTypes.ownedTupleIsFree (.ref z) >>= _) _ _ _
 refine Iz ?_;unfold Builtin.SmallTypes.ownedTupleIsFree
 refine Iz (wpAny_field iz rfl (x:=.none) rfl (IM ?_));simp only[if_true]
 refine Iz (wpAny_rule (Iz (wpAny_field iz rfl (x:=.ref TO) rfl (Iz (wpAny_setField_rec iz (by simp) fun ha za sa=>?_)))))
 replace za:IsZip ha z TI TO .ellipsis:=za
 refine Iz ?_;simp only[MS,MW,LU,Ni]
 refine Iz (Iz (wpAny_onRaise ?_))
 show wpAny _ _ (Builtin.SmallTypes.nextOf (.ref p1) >>= _) _ _ _
 cases w1:xs[n1]? with
 | none =>
  refine Iz (kT hA (g1.but sa.extBut D.i1z) (m1.but sa.extBut D.l1z) w1 fun hb e sb zz=>?_)
  obtain⟨oe,oe1,oe2⟩:=zz
  have zb:IsZip hb z TI TO .ellipsis:=sb _ _ D.i1z.symm za
  have nz:e≠z:=fun y=>by subst y;rw[zb]at oe1;cases oe1;simp at oe2
  refine wpAny_setField_rec zb (by simp) fun hc _ sc=>out hc e (fun b o b1 _ b3 _ y=>sc.extBut _ _ b1 (sb _ _ b3 (sa.extBut _ _ b1 y))) ⟨oe,sc.extBut _ _ nz oe1,oe2⟩
 | some v1 =>
  have w2:ys[n2]? = none:=fin.resolve_left (by rw[w1];exact fun y=>nomatch y)
  refine Iz (aR (g1.but sa.extBut D.i1z) (m1.but sa.extBut D.l1z) w1 fun hb gb sb=>IM ?_)
  have oB:IsPair hb TO u1 u2:=sb.extBut _ _ D.TOi1 (sa.extBut _ _ D.TOz iO)
  refine Iz (wpAny_seqItems oB rfl (Iz (wpAny_updateSeq_pair oB fun hc oC sc=>?_)))
  refine Iz (wpAny_letGo (IM (Iz (Iz (wpAny_onRaise ?_)))))
  show wpAny _ _ (Builtin.SmallTypes.nextOf (.ref p2) >>= _) _ _ _
  refine Iz (kT hA (((g2.but sa.extBut D.i2z).but sb.extBut D.i12.symm).but sc.extBut D.TOi2.symm) (((m2.but sa.extBut D.l2z).but sb.extBut D.l2i1).but sc.extBut D.l2TO) w2 fun hd e sd zz=>?_)
  obtain⟨oe,oe1,oe2⟩:=zz
  have zd:IsZip hd z TI TO .ellipsis:=sd _ _ D.i2z.symm (sc.extBut _ _ D.TOz.symm (sb.extBut _ _ D.i1z.symm za))
  have nz:e≠z:=fun y=>by subst y;rw[zd]at oe1;cases oe1;simp at oe2
  refine wpAny_setField_rec zd (by simp) fun he _ se=>out he e (fun b o b1 b2 b3 b4 y=>se.extBut _ _ b1 (sd _ _ b4 (sc.extBut _ _ b2 (sb.extBut _ _ b3 (sa.extBut _ _ b1 y))))) ⟨oe,se.extBut _ _ nz oe1,oe2⟩
end
noncomputable abbrev itO(k:Bool)(a:Addr):Obj:={ cls:=.type (if k then "list_iterator" else "tuple_iterator"),data:=.fields #[.ref a,.int 0 0] }
noncomputable abbrev zA(k1:Bool)(h:Heap)(l1:Addr):Heap:=h.push (itO k1 l1)
noncomputable abbrev zB(k1 k2:Bool)(h:Heap)(l1 l2:Addr):Heap:=(zA k1 h l1).push (itO k2 l2)
noncomputable abbrev zC(k1 k2:Bool)(h:Heap)(l1 l2:Addr):Heap:=(zB k1 k2 h l1 l2).push { cls:=.type "tuple",data:=.seq #[.ref h.objs.size,.ref (zA k1 h l1).objs.size] }
noncomputable abbrev zD(k1 k2:Bool)(h:Heap)(l1 l2:Addr):Heap:=(zC k1 k2 h l1 l2).push { cls:=.type "tuple",data:=.seq #[.none,.none] }
noncomputable abbrev zE(k1 k2:Bool)(h:Heap)(l1 l2:Addr):Heap:=(zD k1 k2 h l1 l2).push { cls:=.type "zip",data:=.fields #[.none,.bool false,.bool false,.ref (zB k1 k2 h l1 l2).objs.size,.ref (zC k1 k2 h l1 l2).objs.size] }
set_option maxHeartbeats 2000000 in
theorem AJ(k1 k2:Bool)(l1 l2:Addr)(xs ys:Array Value) :
  Meets (Builtin.«zip.__new__» ⟨[.type "zip",.ref l1,.ref l2],[]⟩) (fun _ R s=>SS k1 s.heap l1 xs∧SS k2 s.heap l2 ys∧R (.ok (.ret (.ref (zD k1 k2 s.heap l1 l2).objs.size))) { s with heap:=zE k1 k2 s.heap l1 l2 }) :=
 .of_wp fun prog w A R s h=>by
  obtain⟨hp,g,d,tk,os⟩:=s
  obtain⟨ha,hb,h⟩:=h
  have hsub:=sub_zip
  cases k1 with
  | true =>
   have a1:Heap.IsList (Shared.heap ⟨hp,g,d,tk,os⟩) l1 xs:=ha
   cases k2 with
   | true =>
    have a2:Heap.IsList (Shared.heap ⟨hp.push { cls:=.type "list_iterator",data:=.fields #[.ref l1,.int 0 0] },g,d,tk,os⟩) l2 ys:=Heap.IsList.push hb _
    wp_walk using wpAny_pyIter_list a1,wpAny_pyIter_list a2
    exact⟨_,rfl,h⟩
   | false =>
    have a2:Heap.IsTuple (Shared.heap ⟨hp.push { cls:=.type "list_iterator",data:=.fields #[.ref l1,.int 0 0] },g,d,tk,os⟩) l2 ys:=Heap.IsTuple.push hb _
    wp_walk using wpAny_pyIter_list a1,wpAny_pyIter_tuple a2
    exact⟨_,rfl,h⟩
  | false =>
   have a1:Heap.IsTuple (Shared.heap ⟨hp,g,d,tk,os⟩) l1 xs:=ha
   cases k2 with
   | true =>
    have a2:Heap.IsList (Shared.heap ⟨hp.push { cls:=.type "tuple_iterator",data:=.fields #[.ref l1,.int 0 0] },g,d,tk,os⟩) l2 ys:=Heap.IsList.push hb _
    wp_walk using wpAny_pyIter_tuple a1,wpAny_pyIter_list a2
    exact⟨_,rfl,h⟩
   | false =>
    have a2:Heap.IsTuple (Shared.heap ⟨hp.push { cls:=.type "tuple_iterator",data:=.fields #[.ref l1,.int 0 0] },g,d,tk,os⟩) l2 ys:=Heap.IsTuple.push hb _
    wp_walk using wpAny_pyIter_tuple a1,wpAny_pyIter_tuple a2
    exact⟨_,rfl,h⟩
section
variable {prog:Program} {w:World} {A:Around} {E:Value→Shared→Prop} {s:Shared}
theorem yJ{k1 k2:Bool}{l1 l2:Addr}{xs ys:Array Value}{Q:Value→Shared→Prop}(ha:SS k1 s.heap l1 xs)(hb:SS k2 s.heap l2 ys)
  (q:∀ h',IsZip h' (s.heap.objs.size+4) (s.heap.objs.size+2) (s.heap.objs.size+3) .none→IsPair h' (s.heap.objs.size+2) (.ref s.heap.objs.size) (.ref (s.heap.objs.size+1))→IsPair h' (s.heap.objs.size+3) .none .none →
   SI k1 h' s.heap.objs.size l1 0→SI k2 h' (s.heap.objs.size+1) l2 0→h'.objs.size=s.heap.objs.size+5→(∀ b o,s.heap.get? b=some o→h'.get? b=some o)→Q (.ref (s.heap.objs.size+4)) { s with heap:=h' }) :
  wpAny (model prog w) A (call (.type "zip") [.ref l1,.ref l2]) Q E s:=by
 refine callType_new F.called_zip (by decide) (F.typeCall_zip_2 _ _) (F.newCall_zip_2 _ _) (fun obj=>F.args_object_init_3 obj _ _) F.entry_zip_new (AJ k1 k2 l1 l2 xs ys) ⟨ha,hb,?_⟩
 have s1:(zA k1 s.heap l1).objs.size=s.heap.objs.size+1:=JH ..
 have s2:(zB k1 k2 s.heap l1 l2).objs.size=s.heap.objs.size+2:=(JH ..).trans (by rw[s1])
 have s3:(zC k1 k2 s.heap l1 l2).objs.size=s.heap.objs.size+3:=(JH ..).trans (by rw[s2])
 have s4:(zD k1 k2 s.heap l1 l2).objs.size=s.heap.objs.size+4:=(JH ..).trans (by rw[s3])
 have s5:(zE k1 k2 s.heap l1 l2).objs.size=s.heap.objs.size+5:=(JH ..).trans (by rw[s4])
 have o5:(zE k1 k2 s.heap l1 l2).get? (zD k1 k2 s.heap l1 l2).objs.size=some _:=IP _ rfl
 have up1:∀ b o,(zD k1 k2 s.heap l1 l2).get? b=some o→(zE k1 k2 s.heap l1 l2).get? b=some o:=fun b o e=>IB _ e
 have o4:(zE k1 k2 s.heap l1 l2).get? (zC k1 k2 s.heap l1 l2).objs.size=some _:=up1 _ _ (IP _ rfl)
 have up2:∀ b o,(zC k1 k2 s.heap l1 l2).get? b=some o→(zE k1 k2 s.heap l1 l2).get? b=some o:=fun b o e=>up1 b o (IB _ e)
 have o3:(zE k1 k2 s.heap l1 l2).get? (zB k1 k2 s.heap l1 l2).objs.size=some _:=up2 _ _ (IP _ rfl)
 have up3:∀ b o,(zB k1 k2 s.heap l1 l2).get? b=some o→(zE k1 k2 s.heap l1 l2).get? b=some o:=fun b o e=>up2 b o (IB _ e)
 have o2:(zE k1 k2 s.heap l1 l2).get? (zA k1 s.heap l1).objs.size=some (itO k2 l2):=up3 _ _ (IP _ rfl)
 have up4:∀ b o,(zA k1 s.heap l1).get? b=some o→(zE k1 k2 s.heap l1 l2).get? b=some o:=fun b o e=>up3 b o (IB _ e)
 have o1:(zE k1 k2 s.heap l1 l2).get? s.heap.objs.size=some (itO k1 l1):=up4 _ _ (IP _ rfl)
 have mk:∀(k:Bool) (b a:Addr),(zE k1 k2 s.heap l1 l2).get? b=some (itO k a)→SI k (zE k1 k2 s.heap l1 l2) b a 0:=fun k b a e=>by cases k<;>exact⟨_,e,rfl,rfl⟩
 show _∧_
 rw[s2,s3,s4]at o5
 rw[s1,s2]at o3
 rw[s3]at o4
 rw[s1]at o2
 rw[s4]
 exact⟨⟨_,o5,rfl⟩,q _ o5 o3 o4 (mk _ _ _ o1) (mk _ _ _ o2) s5 fun b o e=>up4 b o (IB _ e)⟩
end
end L2
namespace L2
open PySem PySem.Spec PyProof.Rows
section
variable {X:Cx} {pins:List (Addr × Obj)} {σ:St} {H:Hp} {s:Shared} {h':Heap}
theorem Inv.turnedN{t':Nat}{ch:List Addr}(I:Inv X pins σ H s)(k:∀ b o,b∉ch→s.heap.get? b=some o→h'.get? b=some o)(hf:∀ b∈ch,S3 X pins H b):Inv X pins σ H { s with heap:=h',toks:=t' }:=by
 have nit:∀ b u,H b=some u→b∉ch:=fun b u e z=>by rw[(hf b z).1]at e;cases e
 refine I.step (g':=s.gens) (d':=s.drawn) (ch:=ch) (fun b hb=>?_) (fun b o _ _ hc e _=>k b o hc e) (fun b o _ _ hc e _=>⟨o.slots,k b o hc e⟩) (fun _ _ _ _ n=>n)
  (fun b o hc e=>⟨o,k b o hc e⟩) (fun _ _ e=>e) (fun _ _ _ e=>e) (fun b ps e=>⟨#[],by rw[e];simp⟩) (fun m hm=>?_) (fun b u e=>?_) I.bare
 ·obtain⟨_,q1,_,q3,q4,q5⟩:=hf b hb
  exact⟨q3,q1,q4,q5⟩
 ·obtain⟨o,es,ep,ho,r⟩:=hm
  exact⟨o,es,ep,k _ o (fun z=>(hf _ z).2.1 rfl) ho,r⟩
 ·refine(I.hok b u e).stay (fun c v hc q=>k c v ?_ q) (fun _ q=>q) fun _ _ q=>q
  rcases hc with z|z
  ·rw[z];exact nit b u e
  ·exact nit c _ z
end
def SqK(K:Iy)(k:Bool)(H:Hp)(a:Addr)(xs:List V):Prop:=if k=true then SqL K H a xs else SqT K H a xs
theorem Inv.sqk{X:Cx}{pins:List (Addr × Obj)}{σ:St}{H:Hp}{s:Shared}(I:Inv X pins σ H s){k:Bool}{a:Addr}{xs:List V}(h:SqK X.K k H a xs):∃ its:List Value,i5 xs its∧SS k s.heap a its.toArray:=by
 cases k with
 | true =>
  obtain⟨its,r,p,_⟩:=I.list (show SqL X.K H a xs from h)
  exact⟨its,r,p.isList⟩
 | false =>
  obtain⟨its,r,p,_⟩:=I.tuple (show SqT X.K H a xs from h)
  exact⟨its,r,p⟩
theorem Inv.sqk_inj{X:Cx}{pins:List (Addr × Obj)}{σ:St}{H:Hp}{s:Shared}(I:Inv X pins σ H s){k:Bool}{a:Addr}{xs ys:List V}(h:SqK X.K k H a xs)(h2:SqK X.K k H a ys):xs=ys:=by
 cases k with
 | true=>exact I.list_inj (show SqL X.K H a xs from h) (show SqL X.K H a ys from h2)
 | false=>exact I.tuple_inj (show SqT X.K H a xs from h) (show SqT X.K H a ys from h2)
noncomputable def Itz(K:Iy)(k1 k2:Bool)(l1 l2:Addr):It :=
 ⟨fun i H=>∃ xs ys x y,SqK K k1 H l1 xs∧SqK K k2 H l2 ys∧xs[i]? = some x∧ys[i]? = some y,
  fun i H v H'=>∃ T x y,H T=none∧v = .ref T∧H'=upd H T (.tup [x,y])∧(∀ xs,SqK K k1 H l1 xs→xs[i]? = some x)∧∀ ys,SqK K k2 H l2 ys→ys[i]? = some y,
  fun i H=>∃ xs ys,SqK K k1 H l1 xs∧SqK K k2 H l2 ys∧(xs.length≤i∨ys.length≤i)⟩
def Fy(k1 k2:Bool)(z TI TO p1 p2 l1 l2:Addr)(i:Nat)(h:Heap):Prop:=IsZip h z TI TO .none∧IsPair h TI (.ref p1) (.ref p2)∧(∃ a b,IsPair h TO a b)∧SI k1 h p1 l1 i∧SI k2 h p2 l2 i
theorem sj{P:Program}{w:World}{K:Iy}{elts:List Expr}{kx:Nat}{tp:Pos}{k1 k2:Bool}{z TI TO p1 p2 l1 l2:Addr}(D:ZipApart z TI TO p1 p2 l1 l2) :
  ml P w K (.Tuple elts kx tp) (Itz K k1 k2 l1 l2) [z,TI,TO,p1,p2] z (Fy k1 k2 z TI TO p1 p2 l1 l2) where
 mem:=by simp
 obj:=fun i h ⟨iz,iI,⟨a,b,iO⟩,g1,g2⟩ c hc=>by
  simp only[IE,Ji,or_false]at hc
  rcases hc with rfl|rfl|rfl|rfl|rfl
  ·exact⟨_,iz,fun v e=>by cases e⟩
  ·exact⟨_,iI,fun v e=>by cases e⟩
  ·exact⟨_,iO,fun v e=>by cases e⟩
  ·exact g1.obj
  ·exact g2.obj
 keep:=fun i h h' ⟨iz,iI,⟨a,b,iO⟩,g1,g2⟩ k=>⟨k z (by simp) _ iz,k TI (by simp) _ iI,⟨a,b,k TO (by simp) _ iO⟩,g1.at fun o e=>k p1 (by simp) o e,g2.at fun o e=>k p2 (by simp) o e⟩
 item:=by
  intro X hP hw hK hc i pins s σ H E I hf st hg
  subst hP hw hK
  obtain⟨iz,iI,⟨a,b,iO⟩,g1,g2⟩:=st
  obtain⟨xs,ys,x,y,q1,q2,hx,hy⟩:=hg
  obtain⟨is1,r1,m1⟩:=I.sqk q1
  obtain⟨is2,r2,m2⟩:=I.sqk q2
  obtain⟨u1,hu1,ru1⟩:=r1.get hx
  obtain⟨u2,hu2,ru2⟩:=r2.get hy
  refine vY D iz iI iO g1 g2 m1 m2 (v1:=u1) (v2:=u2) (by simpa using hu1) (by simpa using hu2) fun h' a1 a2 a3 a4 a5 a6 kk=>?_
  refine⟨_,rfl,?_⟩
  refine wpAny_letOwnedTupleGo_zip (s:={ s with heap:=h' }) a1 fun h2 b1 b2=>?_
  have lt:∀{c o},s.heap.get? c=some o→c≠s.heap.objs.size:=fun e=>Jk (II e)
  have nz:s.heap.objs.size≠z:=Ne.symm (lt iz)
  have I1:Inv X pins σ (upd H s.heap.objs.size (.tup [x,y])) { s with heap:=s.heap.push { cls:=.type "tuple",data:=.seq #[u1,u2] },toks:=s.toks } :=
   I.laid (o:=.tup [x,y]) (fun b ob q=>IB _ q) (IL _) ⟨(show 2≤sizeLine by decide),[u1,u2],.cons ru1 (.cons ru2 .nil),IsTup.new _ _⟩
  have nfp:∀ c∈[z,TI,TO,p1,p2],c≠s.heap.objs.size:=fun c hc=>by
   simp only[IE,Ji,or_false]at hc
   rcases hc with rfl|rfl|rfl|rfl|rfl
   ·exact lt iz
   ·exact lt iI
   ·exact lt iO
   ·obtain⟨o,e,_⟩:=g1.obj;exact lt e
   ·obtain⟨o,e,_⟩:=g2.obj;exact lt e
  have hf':∀ c∈[z,TI,TO,p1,p2],S3 X pins (upd H s.heap.objs.size (.tup [x,y])) c:=fun c hc=>by
   obtain⟨f0,f1⟩:=hf c hc
   exact⟨by rw[f9 (nfp c hc)];exact f0,f1⟩
  have I2:Inv X pins σ (upd H s.heap.objs.size (.tup [x,y])) { s with heap:=h2,toks:=s.toks }:=by
   refine Inv.turnedN (s:={ s with heap:=s.heap.push { cls:=.type "tuple",data:=.seq #[u1,u2] },toks:=s.toks }) (t':=s.toks) (h':=h2) (ch:=[z,TI,TO,p1,p2]) I1 (fun c o hcn e=>?_) hf'
   simp only[IE,Ji,or_false,not_or]at hcn
   obtain⟨n1,n2,n3,n4,n5⟩:=hcn
   refine b2.extBut c o n1 ?_
   by_cases hcs:c=s.heap.objs.size
   ·subst hcs
    have e':(s.heap.push { cls:=.type "tuple",data:=.seq #[u1,u2] }).get? s.heap.objs.size=some o:=e
    rw[IP _ rfl]at e'
    cases e'
    exact a5
   ·have e':(s.heap.push { cls:=.type "tuple",data:=.seq #[u1,u2] }).get? c=some o:=e
    have hlt:c<s.heap.objs.size:=by
     have:=II e'
     rw[JH]at this
     exact Nat.lt_of_le_of_ne (Nat.le_of_lt_succ this) hcs
    have hold:s.heap.get? c=some o:=by
     have:∃ o',s.heap.get? c=some o':=by
      cases q:s.heap.get? c with
      | some o'=>exact⟨o',rfl⟩
      | none=>exact absurd e' (by rw[MC _ _ _ hcs];rw[q];exact fun z=>nomatch z)
     obtain⟨o',ho'⟩:=this
     have:=IB { cls:=.type "tuple",data:=.seq #[u1,u2] } ho'
     rw[e']at this
     cases this;exact ho'
    exact kk c o n1 n3 n4 n5 hold
  refine⟨.ref s.heap.objs.size,_,I2,rfl,⟨_,x,y,I.hok.fresh (IL _),rfl,rfl,fun zs hz=>by rw[I.sqk_inj hz q1];exact hx,fun zs hz=>by rw[I.sqk_inj hz q2];exact hy⟩,?_,fun c hc=>(hf' c hc).1⟩
  have lift:∀ c o,c≠z→h'.get? c=some o→h2.get? c=some o:=fun c o n e=>b2.extBut c o n e
  exact⟨b1,lift _ _ D.TIz (kk _ _ D.TIz D.TITO D.TIi1 D.TIi2 iI),⟨_,_,lift _ _ D.TOz a2⟩,a3.at fun o e=>lift _ o D.i1z e,a4.at fun o e=>lift _ o D.i2z e⟩
 done:=by
  intro X hP hw hK hc i pins s σ H E I hf st hg
  subst hP hw hK
  obtain⟨iz,iI,⟨a,b,iO⟩,g1,g2⟩:=st
  obtain⟨xs,ys,q1,q2,hx⟩:=hg
  obtain⟨is1,r1,m1⟩:=I.sqk q1
  obtain⟨is2,r2,m2⟩:=I.sqk q2
  have e1:=r1.length
  have e2:=r2.length
  refine AK (I.ok.hd hc) D iz iI iO g1 g2 m1 m2 (hx.elim (fun h=>.inl (by simp;omega)) fun h=>.inr (by simp;omega)) fun h' kk=>⟨rfl,?_⟩
  refine I.turnedN (t':=s.toks) (ch:=[z,TI,TO,p1,p2]) (fun c o hcn e=>?_) hf
  simp only[IE,Ji,or_false,not_or]at hcn
  obtain⟨n1,n2,n3,n4,n5⟩:=hcn
  exact kk c o n1 n3 n4 n5 e
 self:=fun _ _ _ _ _ st h=>wpAny_pyIter_zip st.1 h
def Gi(K:Iy)(ta:TA):TI:=fun σ H R=>ta σ H fun vs H1=>∃ k1 k2 l1 l2,vs=[.ref l1,.ref l2]∧(∃ xs,SqK K k1 H1 l1 xs)∧(∃ ys,SqK K k2 H1 l2 ys)∧R (Itz K k1 k2 l1 l2) H1
theorem BE{X:Cx}{elts:List Expr}{kx:Nat}{tp:Pos}{a b:Expr}{ta:TA}{p pos:Pos}(hg:Gl X "zip")(hm:X.mg "zip" = none)(ha:PA X [a,b] ta)
  (hs:starEach [a,b] X.env=[(false,eval a X.env),(false,eval b X.env)]:=by rfl) (hs2:starEach [b] X.env=[(false,eval b X.env)]:=by rfl):PI X (.Tuple elts kx tp) (.Call (.Name "zip" p) [a,b] [] pos) (Gi X.K ta):=by
 intro pins s σ H R I h
 refine Call_ (Z2 I hg hm PyProof.Rows.boot_zip (PyProof.Rows.callWith_type1 (thn (ha pos pins s σ H _ I h) fun us s1 ⟨vs,H1,I1,r1,q1⟩=>?_) (by rw[hs,hs2]) (by rw[hs2];rfl)))
 obtain⟨k1,k2,l1,l2,e,⟨xs,q2⟩,⟨ys,q3⟩,q⟩:=q1
 subst e
 cases r1 with
 | cons r rr =>
  cases rr with
  | cons r' rr =>
   cases rr
   cases r
   cases r'
   obtain⟨is1,_,m1⟩:=I1.sqk q2
   obtain⟨is2,_,m2⟩:=I1.sqk q3
   have lt1:l1<s1.heap.objs.size:=by obtain⟨o,e⟩:=m1.obj;exact II e
   have lt2:l2<s1.heap.objs.size:=by obtain⟨o,e⟩:=m2.obj;exact II e
   refine yJ m1 m2 fun h' a1 a2 a3 a4 a5 a6 kk=>?_
   refine wpAny_pyIter_zip (s:={ s1 with heap:=h' }) a1 ?_
   have D:ZipApart (s1.heap.objs.size+4) (s1.heap.objs.size+2) (s1.heap.objs.size+3) s1.heap.objs.size (s1.heap.objs.size+1) l1 l2:=PyProof.Rows.zipApart_new lt1 lt2
   refine⟨s1.heap.objs.size+4,_,_,_,H1,rfl,I1.kept (t':=s1.toks) kk,sj D,⟨a1,a2,⟨_,_,a3⟩,a4,a5⟩,fun c hc=>?_,q⟩
   have hge:s1.heap.objs.size≤c:=by
    simp only[IE,Ji,or_false]at hc
    rcases hc with rfl|rfl|rfl|rfl|rfl
    ·exact Kv _ _
    ·exact Kv _ _
    ·exact Kv _ _
    ·exact IL _
    ·exact Kv _ _
   exact I1.fpOk hge (I1.hok.fresh hge)
section
variable {X:Cx} {pins:List (Addr × Obj)} {σ:St} {H:Hp} {s:Shared} {p:Addr}
theorem Inv.swap{a b:HO}(I:Inv X pins σ H s)(hp:H p=some a)(ha:(∀ x,a ≠ .own x)∧∀ xs,a ≠ .tup xs)(h1:∀ xs,X.H₀ p≠some (.tup xs))(h2:∀ o u,X.H₀ p≠some (.frz o u))(h3:∀ ps,X.H₀ p≠some (.tbl ps))
  (new:v8 X.prog X.w H s.heap p b):Inv X pins σ (upd H p b) s:=by
 have ne:∀{c:Addr},H c=none→c≠p:=fun{c} q z=>by subst z;rw[hp]at q;cases q
 have st:∀{c:Addr} {o:HO},v8 X.prog X.w H s.heap c o→v8 X.prog X.w (upd H p b) s.heap c o:=fun{c o} x =>
  x.stay (fun _ _ _ q=>q) (fun d q=>by
   have:d≠p:=by intro z;subst z;rw[hp]at q;cases q;exact ha.1 _ rfl
   rw[f9 this];exact q) fun d xs q=>by
   have:d≠p:=by intro z;subst z;rw[hp]at q;cases q;exact ha.2 _ rfl
   rw[f9 this];exact q
 refine⟨I.ok,I.os,I.bare,⟨I.base.keep,I.base.slot,fun c o e n x=>?_,I.base.there,fun c xs q=>?_,fun c o u q=>?_,fun c ps q=>?_⟩,I.loc,I.cell,?_,fun x c e=>?_,fun q hq=>?_,fun c o q=>?_,I.len⟩
 ·have:=I.base.free c o e n x
  rw[f9 (ne this)];exact this
 ·have:c≠p:=by intro z;subst z;exact h1 xs q
  rw[f9 this];exact I.base.tups c xs q
 ·have:c≠p:=by intro z;subst z;exact h2 o u q
  rw[f9 this];exact I.base.frzs c o u q
 ·have:c≠p:=by intro z;subst z;exact h3 ps q
  rw[f9 this];exact I.base.tbls c ps q
 ·rw[f9 (ne I.free)];exact I.free
 ·rw[f9 (ne (I.freeC x c e))];exact I.freeC x c e
 ·obtain⟨a1,a2,a3,a4,a5⟩:=I.pin q hq
  exact⟨a1,by rw[f9 (ne a2)];exact a2,a3,a4,a5⟩
 ·by_cases z:c=p
  ·subst z;rw[h7]at q;cases q;exact st new
  ·rw[f9 z]at q;exact st (I.hok c o q)
theorem Inv.freeze{xs:List V}(I:Inv X pins σ H s)(hp:H p=some (.lst xs)):∃ o,Inv X pins σ (upd H p (.frz o (.lst xs))) s:=by
 have k:=I.hok p _ hp
 obtain⟨z,its,n,r,e⟩:=id k
 refine⟨_,I.swap hp ⟨fun _ q=>(nomatch q),fun _ q=>(nomatch q)⟩ (fun ys q=>?_) (fun o u q=>?_) (fun ps q=>?_) ⟨e,k⟩⟩
 ·rw[I.base.tups p ys q]at hp;cases hp
 ·rw[I.base.frzs p o u q]at hp;cases hp
 ·obtain⟨more,q⟩:=I.base.tbls p ps q;rw[q]at hp;cases hp
structure AH(X:Cx)(p:Addr):Prop where
 t:∀ xs,X.H₀ p≠some (.tup xs)
 f:∀ o u,X.H₀ p≠some (.frz o u)
 b:∀ ps,X.H₀ p≠some (.tbl ps)
theorem Inv.loose{xs:List V}(I:Inv X pins σ H s)(hp:H p=some (.lst xs)):AH X p :=
 ⟨fun ys q=>(by rw[I.base.tups p ys q]at hp;cases hp),fun o u q=>(by rw[I.base.frzs p o u q]at hp;cases hp),fun ps q=>(by obtain⟨more,q⟩:=I.base.tbls p ps q;rw[q]at hp;cases hp)⟩
def DZ(t:TE):TE:=fun σ H Q=>t σ H fun v H1=>∃ p xs,v = .ref p∧H1 p=some (.lst xs)∧∀ o,Q v (upd H1 p (.frz o (.lst xs)))
theorem Y7{x:Expr}{t:TE}(h:PE X x t):PE X x (DZ t):=fun pins s σ H Q I q =>
 wpAny_mono (h pins s σ H _ I q) (fun u s1 zz=>by
  obtain⟨v,H1,I1,r,p,xs,e,hp,q1⟩:=zz
  obtain⟨o,I2⟩:=I1.freeze hp
  exact⟨v,_,I2,r,q1 o⟩) fun _ _ z=>z
theorem Bw{i:Nat}{y:Str}{pos':Pos}{x:Expr}{t:TE}(h:PU X i y pos' x t):PU X i y pos' x (DZ t):=fun pins s σ H Q I q =>
 wpAny_mono (h pins s σ H _ I q) (fun u s1 zz=>by
  obtain⟨v,H1,I1,p,xs,e,hp,q1⟩:=zz
  obtain⟨o,I2⟩:=I1.freeze hp
  exact⟨v,_,I2,q1 o⟩) fun _ _ z=>z
def DY(t:TE):TE:=fun σ H Q=>t σ H fun v H1=>(∃ p xs,v = .ref p∧H1 p=some (.lst xs)∧∀ o,Q v (upd H1 p (.frz o (.lst xs))))∨Q v H1
theorem xV{x:Expr}{t:TE}(h:PE X x t):PE X x (DY t):=fun pins s σ H Q I q =>
 wpAny_mono (h pins s σ H _ I q) (fun u s1 zz=>by
  obtain⟨v,H1,I1,r,z⟩:=zz
  rcases z with⟨p,xs,e,hp,q1⟩|q1
  ·obtain⟨o,I2⟩:=I1.freeze hp
   exact⟨v,_,I2,r,q1 o⟩
  ·exact⟨v,H1,I1,r,q1⟩) fun _ _ z=>z
noncomputable def W6(p:Addr)(xs:List V):HO:=.ext fun h=>xs.length≤sizeLine∧∃(its:List Value) (n:Nat),i5 xs its∧h.get? p=some { cls:=.type "list",data:=.seq its.toArray n }
theorem Inv.hide{xs:List V}(I:Inv X pins σ H s)(hp:H p=some (.lst xs)):Inv X pins σ (upd H p (W6 p xs)) s:=by
 have k:=I.hok p _ hp
 have l:=I.loose hp
 obtain⟨z,its,n,r,e⟩:=id k
 exact I.swap hp ⟨fun _ q=>(nomatch q),fun _ q=>(nomatch q)⟩ l.t l.f l.b ⟨⟨z,its,n,r,e⟩,⟨_,e⟩,fun h1 h2 ⟨z,its,n,r,e⟩ k=>⟨z,its,n,r,k _ e⟩⟩
theorem Inv.show'{xs:List V}(I:Inv X pins σ H s)(l:AH X p)(hp:H p=some (W6 p xs)):Inv X pins σ (upd H p (.lst xs)) s:=by
 obtain⟨k,_,_⟩:=I.hok p _ hp
 exact I.swap hp ⟨fun _ q=>(nomatch q),fun _ q=>(nomatch q)⟩ l.t l.f l.b k
def sD(p:Addr)(t:TE):TE:=fun σ H Q=>∃ xs,H p=some (.lst xs)∧t σ (upd H p (W6 p xs)) fun v H1=>H1 p=some (W6 p xs)∧Q v (upd H1 p (.lst xs))
theorem nT{x:Expr}{t:TE}(h:PE X x t):PE X x fun σ H Q=>∃ p,sD p t σ H Q:=fun pins s σ H Q I ⟨p,xs,hp,q⟩ =>
 wpAny_mono (h pins s σ _ _ (I.hide hp) q) (fun u s1 ⟨v,H1,I2,r,hp1,q1⟩=>⟨v,_,I2.show' (I.loose hp) hp1,r,q1⟩) fun _ _ z=>z
def sA(p:Addr)(t:TT):TT:=fun σ H Q=>∃ xs,H p=some (.lst xs)∧t σ (upd H p (W6 p xs)) fun v H1=>H1 p=some (W6 p xs)∧Q v (upd H1 p (.lst xs))
theorem eG{ifs:List Expr}{t:TT}(h:aK X ifs t):aK X ifs fun σ H Q=>∃ p,sA p t σ H Q:=fun pins s σ H Q I ⟨p,xs,hp,q⟩ =>
 wpAny_mono (h pins s σ _ _ (I.hide hp) q) (fun u s1 ⟨H1,I2,hp1,q1⟩=>⟨_,I2.show' (I.loose hp) hp1,q1⟩) fun _ _ z=>z
def sC(p:Addr)(g:TG):TG:=fun v σ H Q=>∃ xs,H p=some (.lst xs)∧g v σ (upd H p (W6 p xs)) fun σ1 H1=>H1 p=some (W6 p xs)∧Q σ1 (upd H1 p (.lst xs))
theorem nS{tg:Expr}{g:TG}(h:PG X tg g):PG X tg fun v σ H Q=>∃ p,sC p g v σ H Q:=fun pins s σ H v u Q I r ⟨p,xs,hp,q⟩ =>
 wpAny_mono (h pins s σ _ v u _ (I.hide hp) r q) (fun u s1 ⟨σ1,H1,I2,hp1,q1⟩=>⟨σ1,_,I2.show' (I.loose hp) hp1,q1⟩) fun _ _ z=>z
end
section
variable {X:Cx} {pos:Pos}
end
section
variable {X:Cx} {e:Expr} {te:TE} {st:Expr} {ts:TO} {pos p2:Pos}
end
theorem pY:typeLookup (.type "list_reverseiterator") "__len__" = pure none:=by rw[typeLookup_type,builtinLookup_eq_fast];kernel_rfl
theorem lR:typeLookup (.type "list_reverseiterator") "__length_hint__" = pure (some (.builtin "list_reverseiterator.__length_hint__")):=by rw[typeLookup_type,builtinLookup_eq_fast];kernel_rfl
section
variable {prog:Program} {w:World} {A:Around} {E:Value→Shared→Prop} {s:Shared}
theorem tD{it l:Addr}{i:Int}{Q:Bool→Shared→Prop}(hit:s.heap.IsRevIter it l i)(h:Q false s):wpAny (model prog w) A (Builtin.List.listLengthHint (.ref it)) Q E s:=by
 have hT:=hit.typeIs
 unfold Builtin.List.listLengthHint
 refine Iz (wpAny_specialOf hT pY ?_)
 show wpAny _ A (specialOf (Value.ref it) (Str.ofString "__length_hint__") >>= _) Q E s
 refine Iz (wpAny_specialOf hT lR ?_)
 generalize hv:("list_reverseiterator.__length_hint__" : String)=nm
 wp_delta
 rw[show splitId nm=some ("list_reverseiterator","__length_hint__")by subst hv;decide +kernel]
 subst hv
 refine Iz (wpAny_isInstance (T := "list_reverseiterator") (b:=true) hT (by rw[isSubtype_type];kernel_rfl) ?_)
 refine wpAny_ite_split (fun z=>absurd z (by decide)) (fun _=>?_)
 refine wpAny_ite_split (fun _=>?_) (fun z=>absurd (by decide +kernel) z)
 refine wpAny_ite_split (fun z=>absurd z (by decide)) (fun _=>?_)
 exact IM h
noncomputable abbrev pC(items:Array Value):Nat→Value→Prop:=fun j x=>items[items.size - 1 - j]? = some x
noncomputable abbrev yT(prog:Program)(w:World)(A:Around)(R:Result→Shared→Prop):Fin→Shared→Prop:=fun z s'=>match z with|.done f=>R (.ok f) s'|.again c'=>c'.quiet=true∧codeAny (model prog w) A c' R s'
theorem lG{R:Result→Shared→Prop}{it l S:Addr}{items:Array Value}{c₀:Nat}(hh:A.handled=none)(hit:s.heap.IsRevIter it l ((items.size:Int) - 1))(hl:s.heap.IsList l items)(hne:l≠it)(hi:S≠it)(hj:S≠l)(hz:items.size≤sizeLine)
  (hS:s.heap.get? S=some { cls:=.type "list",data:=.seq #[] c₀ })
  (fin:∀ h' tk acc c1,(∀ b o,b≠S→b≠it→s.heap.get? b=some o→h'.get? b=some o)→h'.get? S=some { cls:=.type "list",dict:=none,data:=.seq acc c1,slots:=#[] }→ItemsOf (pC items) acc items.size→R (.ok (.ret .none)) { s with heap:=h',toks:=tk }) :
  wpAny (model prog w) A.in1 (Builtin.List.listExtendWith (.ref S) (.ref it) .none) (yT prog w A R) (fun e s'=>R (.error e) s') s:=by
 have V:=(Walks.listRev (prog:=prog) (w:=w) (A:=A.in1) hh it l hne items).toS
 have nf:S∉[it,l]:=fun q=>by
  rcases IE.mp q with q|q
  ·exact hi q
  ·exact hj (Ja.mp q)
 unfold Builtin.List.listExtendWith
 refine Iz (wpAny_typeOf hit.typeIs ?_)
 have n1:Builtin.List.listSameRef (.ref S) (.ref it)=false:=by simp[Builtin.List.listSameRef,hi]
 have n2:(Value.type "list_reverseiterator" == Value.type "list")=false:=by decide
 have n3:(Value.type "list_reverseiterator" == Value.type "tuple")=false:=by decide
 simp only[n1,n2,n3,Bool.or_false,Kn,if_false]
 refine Iz (wpAny_pyIter_revIter hit (Iz (wpAny_holding (tD hit ?_))))
 refine wpAny_ite_split (fun z=>absurd z (by decide +kernel)) (fun _=>?_)
 refine IM ⟨plainId_quiet F.plain_extend_loop _,?_⟩
 have h0:((items.size:Int) - 1 - ((0:Nat):Int))=(items.size:Int) - 1:=by omega
 refine codeAny_extend_loopS V hz S nf .none items.size 0 s #[] c₀ rfl (Jr _) ⟨Jr _,by rw[h0];exact hit,hl⟩ hS (ItemsOf.nil _) fun s2 acc c1 mv g1 g2=>?_
 rw[Moved.eq_with mv]
 exact fin s2.heap s2.toks acc c1 (fun b o q1 q2 q3=>mv.heap b o (fun q=>(IE.mp q).elim q1 fun q'=>q2 (Ja.mp q')) q3) g1 g2
theorem tw{R:Result→Shared→Prop}{it l S:Addr}{items:Array Value}(hh:A.handled=none)(hit:s.heap.IsRevIter it l ((items.size:Int) - 1))(hl:s.heap.IsList l items)(hne:l≠it)(hi:S≠it)(hj:S≠l)(hz:items.size≤sizeLine)
  (hS:s.heap.get? S=some { cls:=.type "list",data:=.seq #[] })
  (fin:∀ h' tk acc c1,(∀ b o,b≠S→b≠it→s.heap.get? b=some o→h'.get? b=some o)→h'.get? S=some { cls:=.type "list",dict:=none,data:=.seq acc c1,slots:=#[] }→ItemsOf (pC items) acc items.size→R (.ok (.ret .none)) { s with heap:=h',toks:=tk }) :
  wpAny (model prog w) A.in1 (Builtin.«list.__init__» ⟨[.ref S,.ref it],[]⟩) (yT prog w A R) (fun e s'=>R (.error e) s') s:=by
 show wpAny _ A.in1 (Builtin.List.listItems (.ref S) >>= fun was=>Builtin.List.listUpdate (.ref S) (fun _=>#[]) >>= fun _=>letGo was.toList.reverse >>= fun _=>Builtin.List.listExtendWith (.ref S) (.ref it) .none) (yT prog w A R) (fun e s'=>R (.error e) s') s
 unfold Builtin.List.listItems
 refine Iz (Iz (wpAny_seqItems hS rfl (IM ?_)))
 show wpAny _ A.in1 (updateSeq S (fun _=>#[]) >>= fun _=>letGo (#[]:Array Value).toList.reverse >>= fun _=>Builtin.List.listExtendWith (.ref S) (.ref it) .none) (yT prog w A R) (fun e s'=>R (.error e) s') s
 refine Iz (wpAny_updateSeq hS rfl (Iz (wpAny_letGo ?_)))
 have g:=KZ (Obj.mapSeq fun _=>(#[]:Array Value)) hS rfl
 have oth:∀ b o,b≠S→s.heap.get? b=some o→(s.heap.update S (Obj.mapSeq fun _=>(#[]:Array Value))).get? b=some o:=fun b o q1 q2=>(KS _ _ (Ne.symm q1)).trans q2
 refine lG hh (hit.at fun o e=>oth it o (Ne.symm hi) e) (hl.at fun o e=>oth l o (Ne.symm hj) e) hne hi hj hz g fun h' tk acc c1 q1 q2 q3=>?_
 exact fin h' tk acc c1 (fun b o b1 b2 e=>q1 b o b1 b2 (oth b o b1 e)) q2 q3
theorem dq{it l:Addr}{items:Array Value}{Q:Value→Shared→Prop}(hh:A.handled=none)(hit:s.heap.IsRevIter it l ((items.size:Int) - 1))(hl:s.heap.IsList l items)(hne:l≠it)(hz:items.size≤sizeLine)
  (fin:∀ h' tk acc c1,(∀ b o,b≠it→s.heap.get? b=some o→h'.get? b=some o)→h'.get? s.heap.objs.size=some { cls:=.type "list",dict:=none,data:=.seq acc c1,slots:=#[] }→ItemsOf (pC items) acc items.size→Q (.ref s.heap.objs.size) { s with heap:=h',toks:=tk }) :
  wpAny (model prog w) A (call (.type "list") [.ref it]) Q E s:=by
 obtain⟨oi,hoi,_⟩:=id hit
 obtain⟨ol,hol,_⟩:=id hl
 have i1:s.heap.objs.size≠it:=Kh (II hoi)
 have i2:s.heap.objs.size≠l:=Kh (II hol)
 let h1:=s.heap.push { cls:=.type "list",data:=.seq #[] }
 have up:∀ b o,s.heap.get? b=some o→h1.get? b=some o:=fun b o e=>IB _ e
 have gS:h1.get? s.heap.objs.size=some { cls:=.type "list",data:=.seq #[] }:=IP _ rfl
 refine callType_codes (Q₁:=fun x s1=>x = .ref s.heap.objs.size∧s1 = { s with heap:=h1 }) F.called_list (F.typeCall_list_1 _) F.entry_list_init (code_list_new _ ⟨rfl,rfl⟩) ?_
 rintro x s1 ⟨rfl,rfl⟩
 refine⟨⟨_,gS,rfl⟩,F.args_list_init_2 _ _,tw (A:=A.in1) hh (hit.at fun o e=>up it o e) (hl.at fun o e=>up l o e) hne i1 i2 hz gS fun h' tk acc c1 q1 q2 q3=>?_⟩
 exact⟨rfl,fin h' tk acc c1 (fun b o b1 e=>q1 b o (Jk (II e)) b1 (up b o e)) q2 q3⟩
end
section
variable {X:Cx}
noncomputable def xD(p a:Addr)(n:Nat):Heap→Prop:=fun h=>h.get? p=some (revObj a ((n:Int) - 1))
noncomputable def cQ(H:Hp)(a:Addr):Hp:=fun b=>if b=a then none else H b
theorem cP{H:Hp}{a b:Addr}(h:b≠a):cQ H a b=H b:=if_neg h
theorem cO{H:Hp}{a:Addr}:cQ H a a=none:=if_pos rfl
theorem ko:v9 X (.type "reversed") (fun xs H Q=>∃ a ys,xs=[.ref a]∧SqL X.K H a ys∧∀ p,H p=none→p≠a→X.s₀.heap.objs.size≤p→Q (.ref p) (upd H p (.ext (xD p a ys.length)))):=by
 intro pins s σ H xs us Q I rv h
 obtain⟨a,ys,rfl,sq,q⟩:=h
 obtain⟨u,rfl,ru⟩:=rv.one
 cases ru
 obtain⟨its,r,ht,hz⟩:=I.list sq
 have hl:=r.length
 obtain⟨o,ho,_⟩:=id ht.isList
 refine call_reversed_list ht.isList ⟨.ref s.heap.objs.size,_,I.laid (t':=s.toks) (o:=.ext (xD s.heap.objs.size a ys.length)) (fun b u e=>IB _ e) (IL _) ?_,rfl,q _ I.fresh (Kh (II ho)) I.sz⟩
 have e:(s.heap.push (revObj a ((its.toArray.size:Int) - 1))).get? s.heap.objs.size=some (revObj a ((ys.length:Int) - 1)):=by
  rw[IP _ rfl,hl];rfl
 exact⟨e,⟨_,e⟩,fun h1 h2 z k=>k _ z⟩
theorem pO{items:Array Value}{acc:Array Value}(h:ItemsOf (pC items) acc items.size):acc.toList=items.toList.reverse:=by
 obtain⟨h1,h2⟩:=h
 apply Kk
 ·rw[Ky,Array.length_toList,Array.length_toList,h1]
 ·intro j g1 g2
  rw[Array.length_toList]at g1
  have e:=h2 j acc[j] (Array.getElem?_eq_getElem g1)
  have e2:items.size - 1 - j<items.size:=by omega
  have e3:items[items.size - 1 - j]? = some (items[items.size - 1 - j]'e2):=Array.getElem?_eq_getElem e2
  have e4:items[items.size - 1 - j]'e2=acc[j]:=Option.some.inj (e3.symm.trans e)
  rw[List.getElem_reverse,Array.getElem_toList,Array.getElem_toList,← e4]
  congr 1
theorem me(hc:X.calm=true):v9 X (.type "list") (fun xs H Q=>∃ it a ys,xs=[.ref it]∧H it=some (.ext (xD it a ys.length))∧SqL X.K H a ys∧a≠it∧X.s₀.heap.objs.size≤it∧∀ p,H p=none→Q (.ref p) (cQ (upd H p (.lst ys.reverse)) it)):=by
 intro pins s σ H xs us Q I rv h
 obtain⟨it,a,ys,rfl,hit,sq,hne,hge,q⟩:=h
 obtain⟨u,rfl,ru⟩:=rv.one
 cases ru
 obtain⟨its,r,ht,hz⟩:=I.list sq
 have hl:=r.length
 have hob:s.heap.get? it=some (revObj a ((ys.length:Int) - 1)):=(I.hok it _ hit).1
 have hsz:its.toArray.size=ys.length:=by rw[IY];exact hl.symm
 refine dq (I.ok.hd hc) ⟨_,hob,rfl,by rw[hsz];rfl⟩ ht.isList hne (by rw[hsz];exact hz) fun h' tk acc c1 k1 k2 k3=>?_
 have hacc:=pO k3
 have fr:=I.fresh
 have ex:∀{b o},s.heap.get? b=some o→b≠s.heap.objs.size:=fun e=>Jk (II e)
 have old:∀{b u},H b=some u→b≠s.heap.objs.size:=fun{b u} e z=>by rw[z,fr]at e;cases e
 have nit:∀{b u},H b=some u→u ≠ .ext (xD it a ys.length)→b≠it:=fun{b u} e n z=>by
  rw[z,hit]at e;exact n (Option.some.inj e).symm
 have here:∀{b},b≠s.heap.objs.size→b≠it→cQ (upd H s.heap.objs.size (.lst ys.reverse)) it b=H b:=fun b1 b2=>by rw[cP b2,f9 b1]
 have un:Un (frs X.stack) [it] H (cQ (upd H s.heap.objs.size (.lst ys.reverse)) it) s.heap h':={
  keep:=fun b o e n _ hx=>k1 b o (fun z=>hx (by simp[z])) e
  slot:=fun b o e n _ hx=>⟨o.slots,k1 b o (fun z=>hx (by simp[z])) e⟩
  free:=fun b o e n hx=>by rw[here (ex e) (fun z=>hx (by simp[z]))];exact n
  there:=fun b o e hx=>⟨o,k1 b o (fun z=>hx (by simp[z])) e⟩
  tups:=fun b xs e=>by rw[here (old e) (nit e (by simp))];exact e
  frzs:=fun b o u e=>by rw[here (old e) (nit e (by simp))];exact e
  tbls:=fun b ps e=>⟨#[],by rw[here (old e) (nit e (by simp))];simpa using e⟩ }
 have ok:HOk X.prog X.w (cQ (upd H s.heap.objs.size (.lst ys.reverse)) it) h':=fun b u e=>by
  have b2:b≠it:=fun z=>by rw[z,cO]at e;cases e
  rw[cP b2]at e
  by_cases b1:b=s.heap.objs.size
  ·subst b1
   rw[h7]at e
   cases e
   exact⟨by rw[Ky];exact hz,acc.toList,c1,by rw[hacc];exact r.reverse,k2⟩
  ·rw[f9 b1]at e
   refine(I.hok b u e).stay (fun c v hcv z=>k1 c v ?_ z) (fun c z=>?_) fun c xs z=>?_
   ·rcases hcv with z2|z2
    ·rw[z2];exact b2
    ·exact nit z2 (by simp)
   ·rw[here (old z) (nit z (by simp))];exact z
   ·rw[here (old z) (nit z (by simp))];exact z
 refine⟨.ref s.heap.objs.size,_,I.call (g':=s.gens) (d':=s.drawn) (t':=tk) un ok I.bare (fun b hb=>?_),rfl,q _ fr⟩
 obtain rfl:b=it:=by simpa using hb
 refine⟨.inr hge,fun z=>?_,fun x c e z=>?_,fun p hp z=>?_⟩
 ·rw[z,I.free]at hit;cases hit
 ·rw[← z,I.freeC x c e]at hit;cases hit
 ·rw[← z,(I.pin p hp).2.1]at hit;cases hit
end
section
variable {X:Cx}
end
section
variable {prog:Program} {w:World} {A:Around} {E:Value→Shared→Prop} {s:Shared}
end
section
variable {prog:Program} {w:World} {A:Around} {E:Value→Shared→Prop} {s:Shared}
end
section
variable {X:Cx}
end
section
variable {prog:Program} {w:World} {A:Around} {E:Value→Shared→Prop} {s:Shared}
end
section
variable {X:Cx}
end
section
variable {prog:Program} {w:World} {A:Around} {E:Value→Shared→Prop} {s:Shared}
theorem og{h h2:Heap}{a b:Addr}{its:Array Value}(x:h.IsList a its)(hs:Heap.ExtBut b h h2)(ne:a≠b):h2.IsList a its:=x.at fun o e=>hs a o ne e
theorem ke{it l:Addr}{its:Array Value}(hne:l≠it):∀(n i:Nat) (s:Shared) (Q:List Value→Shared→Prop),s.heap.IsListIter it l i→s.heap.IsList l its→i+n≤its.size →
  (∀ h2,h2.IsListIter it l (i+n)→Heap.SameBut it s.heap h2→Q ((its.toList.drop i).take n) { s with heap:=h2 })→wpAny (model prog w) A (draw (.ref it) n) Q E s
 | 0,i,s,Q,hi,_,_,k=>by
  show wpAny _ _ (pure []) Q E s
  refine IM ?_
  simpa using k s.heap hi (Heap.SameBut.refl ..)
 | n+1,i,s,Q,hi,hl,hle,k=>by
  have lt:i<its.size:=by omega
  show wpAny _ _ (pyNext (.ref it) >>= _) Q E s
  refine Iz (wpAny_pyNext_list_item hi hl (x:=its[i]) (by simp[lt]) fun h1 hi1 hs1=>Iz (wpAny_holding ?_))
  refine ke hne n (i+1) _ _ hi1 (og hl hs1.extBut hne) (by omega) fun h2 hi2 hs2=>IM ?_
  have e:its.toList.drop i=its[i] :: its.toList.drop (i+1):=by simp[List.drop_eq_getElem_cons,lt]
  have z:=k h2 (by rw[show i+(n+1)=i+1+n by omega];exact hi2) (hs1.trans hs2)
  rw[e,Lj]at z
  exact z
theorem kK{l:Addr}{its:Array Value}{ts:List (Bool × (Value→Sem Unit))}{Q:Unit→Shared→Prop}(hh:A.handled=none)(hl:s.heap.IsList l its)(hn:ts.length=its.size)(hst:ts.findIdx? (·.1)=none)
  (k:∀ h2,Heap.ExtBut s.heap.objs.size s.heap h2→wpAny (model prog w) A (assignInOrder (ts.map (·.2)) its.toList) Q E { s with heap:=h2 }):wpAny (model prog w) A (unpack (.ref l) ts) Q E s:=by
 have ne:l≠s.heap.objs.size:=by obtain⟨o,ho,_⟩:=hl;exact Jk (II ho)
 unfold unpack
 rw[hn,hst]
 refine Iz (wpAny_holding ?_)
 unfold unpackItems
 refine Iz ?_
 unfold notIterableAtAll
 refine Iz (wpAny_specialOf hl.typeIs F.slot_list_iter.lookup (IM ?_))
 simp only[Kn,if_false]
 refine Iz (wpAny_holding (wpAny_pyIter_list hl ?_))
 refine Iz (wpAny_holding (ke ne its.size 0 _ _ ⟨_,IP _ rfl,rfl,rfl⟩ (hl.at fun o e=>IB _ e) (by omega) fun h1 hi1 hs1=>?_))
 have all:List.take its.size (List.drop 0 its.toList)=its.toList:=by
  rw[Nj];exact JD (by simp)
 rw[all,if_neg (by simp)]
 have hl1:h1.IsList l its:=og (hl.at fun o e=>IB _ e) hs1.extBut ne
 refine Iz (wpAny_holding (wpAny_pyNext_list_end hh hi1 hl1 (by simp) fun h2 he=>?_))
 simp only[Option.isSome_none,Kn,if_false]
 exact IM (k h2 fun b o hb e=>he b o hb (hs1.extBut b o hb (IB _ e)))
end
section
variable {X:Cx} {pos:Pos}
def Ct(K:Iy)(n:Nat)(t:TGs):TG:=fun v σ H Q=>∃ a xs,v = .ref a∧SqL K H a xs∧xs.length=n∧t xs σ H Q
theorem xS{es:List Expr}{k:Nat}{t:TGs}{n:Nat}(hc:X.calm=true)(h:PGs X es t)(hn:(assignEach es X.env).length=n:=by rfl)
  (hst:(assignEach es X.env).findIdx? (·.1)=none:=by rfl):PG X (.Tuple es k pos) (Ct X.K n t):=by
 intro pins s σ H v u Q I r hw
 obtain⟨a,xs,e1,hq,hl,hw⟩:=hw
 subst e1
 cases r
 obtain⟨its,rv,ht,hz⟩:=I.list hq
 rw[assign_Tuple]
 refine Iz (wpAny_standAt (kK (I.ok.hd hc) ht.isList (by simp[hn,← hl,rv.length]) hst fun h2 hx=>?_))
 have I1:Inv X pins σ H { s with heap:=h2 }:=I.kept (t':=s.toks) fun b o e=>hx b o (Jk (II e)) e
 exact h pins _ σ H xs _ Q I1 (by simpa using rv) hw
end
section
variable {X:Cx}
end
section
variable {prog:Program} {w:World} {A:Around} {E:Value→Shared→Prop} {s:Shared}
end
end L2
namespace L2
open PySem
section
variable {prog:Program} {w:World} {A:Around} {E:Value→Shared→Prop} {s:Shared}
theorem uW{k:Bool}{e p l:Addr}{n:Nat}{xs:Array Value}{v old:Value}{Q:Option Value→Shared→Prop}(ie:IsEnum s.heap e p n old)(g:SI k s.heap p l n)(m:SS k s.heap l xs)(hv:xs[n]? = some v)(hne:e≠p)
  (q:∀ h',IsEnumOut h' e p ((n:Int)+1) v s.heap.objs.size→SI k h' p l (n+1)→h'.get? s.heap.objs.size=some { cls:=.type "tuple",data:=.seq #[.int n s.toks,v] }→h'.objs.size=s.heap.objs.size+1 →
   (∀ b o,b≠e→b≠p→s.heap.get? b=some o→h'.get? b=some o)→Q (some (.ref s.heap.objs.size)) { s with heap:=h',toks:=s.toks+1 }):wpAny (model prog w) A (pyNext (.ref e)) Q E s:=by
 have ty:s.TypeIs (.ref e) "enumerate" := ⟨_,ie,rfl⟩
 unfold pyNext
 refine Iz (wpAny_attempt (wpAny_callSpecial?_slot (name:=Str.ofString "__next__") ty F.slot_enumerate_next (wpAny_call_entry F.slot_enumerate_next ty F.entry_enumerate_next ?_ (F.args_enumerate_next_1 _))))
 obtain⟨hp,gs,dr,tk,os⟩:=s
 show wpAny _ _ (field (.ref e) 2 >>= _) _ _ _
 refine Iz (wpAny_field ie rfl (x:=.ref p) rfl (Iz (aR g m hv fun ha ga sa=>?_)))
 replace sa:Heap.SameBut p hp ha:=sa
 have ea:IsEnum ha e p n old:=(sa.2 e hne).trans ie
 show wpAny _ _ (field (.ref e) 3 >>= _) _ _ ⟨ha,gs,dr,tk,os⟩
 refine Iz (wpAny_field ea rfl (x:=rawInt n) rfl ?_)
 show wpAny _ _ (field (.ref e) 4 >>= _) _ _ ⟨ha,gs,dr,tk,os⟩
 refine Iz (wpAny_field ea rfl (x:=.none) rfl ?_)
 show wpAny _ _ (mkInt n >>= _) _ _ ⟨ha,gs,dr,tk,os⟩
 refine Iz (wpAny_mkInt ?_)
 show wpAny _ _ (setField (.ref e) 3 (rawInt ((n:Int)+1)) >>= _) _ _ ⟨ha,gs,dr,tk+1,os⟩
 refine Iz (wpAny_setField_rec ea (by simp) fun hb eb sb=>?_)
 replace sb:Heap.SameBut e ha hb:=sb
 replace eb:IsEnum hb e p ((n:Int)+1) old:=eb
 show wpAny _ _ (setField (.ref e) 4 .none >>= _) _ _ ⟨hb,gs,dr,tk+1,os⟩
 refine Iz (wpAny_setField_rec eb (by simp) fun hc ec sc=>?_)
 replace sc:Heap.SameBut e hb hc:=sc
 replace ec:IsEnum hc e p ((n:Int)+1) old:=ec
 show wpAny _ _ (newTuple [.int n tk,v] >>= _) _ _ ⟨hc,gs,dr,tk+1,os⟩
 refine Iz (wpAny_newTuple ?_)
 have zc:hc.objs.size=hp.objs.size:=by rw[sc.1,sb.1,sa.1]
 have ltE:e<hp.objs.size:=II ie
 obtain⟨hd,hhd⟩:∃ hd,hd=hc.push { cls:=.type "tuple",data:=.seq #[.int n tk,v] }:=⟨_,rfl⟩
 have ed:IsEnum hd e p ((n:Int)+1) old:=by rw[hhd];exact IB _ ec
 have td:hd.get? hp.objs.size=some { cls:=.type "tuple",data:=.seq #[.int n tk,v] }:=by rw[hhd,← zc];exact IP _ rfl
 have zd:hd.objs.size=hp.objs.size+1:=by rw[hhd,JH,zc]
 have kd:∀ b o,b≠e→b≠p→hp.get? b=some o→hd.get? b=some o:=fun b o b1 b2 z=>by rw[hhd];exact IB _ (sc.extBut b o b1 (sb.extBut b o b1 (sa.extBut b o b2 z)))
 have gd:SI k hd p l (n+1):=((ga.but sb.extBut (Ne.symm hne)).but sc.extBut (Ne.symm hne)).at fun o z=>by rw[hhd];exact IB _ z
 show wpAny _ _ (Builtin.SmallTypes.ownedTupleIsFree (.ref e) >>= _) _ _ ⟨hc.push { cls:=.type "tuple",data:=.seq #[.int n tk,v] },gs,dr,tk+1,os⟩
 rw[← hhd,zc]
 refine Iz ?_;unfold Builtin.SmallTypes.ownedTupleIsFree
 refine Iz (wpAny_field ed rfl (x:=.none) rfl (IM ?_));simp only[if_true]
 refine Iz (wpAny_rule (Iz (wpAny_field ed rfl (x:=old) rfl (Iz (wpAny_setField_rec ed (by simp) fun hf ef sf=>?_)))))
 replace sf:Heap.SameBut e hd hf:=sf
 replace ef:IsEnum hf e p ((n:Int)+1) v:=ef
 show wpAny _ _ (Builtin.SmallTypes.ownedTupleHandOut (.ref e) (.ref hp.objs.size) >>= _) _ _ ⟨hf,gs,dr,tk+1,os⟩
 refine Iz ?_;unfold Builtin.SmallTypes.ownedTupleHandOut
 refine Iz (wpAny_setField_rec ef (by simp) fun hg eg sg=>?_)
 replace sg:Heap.SameBut e hf hg:=sg
 replace eg:IsEnumOut hg e p ((n:Int)+1) v hp.objs.size:=eg
 refine wpAny_setField_rec eg (by simp) fun hh eh sh=>?_
 replace sh:Heap.SameBut e hg hh:=sh
 replace eh:IsEnumOut hh e p ((n:Int)+1) v hp.objs.size:=eh
 refine Iz (wpAny_letGo (IM ⟨_,rfl,IM (q hh eh ?_ ?_ ?_ ?_)⟩))
 ·exact((gd.but sf.extBut (Ne.symm hne)).but sg.extBut (Ne.symm hne)).but sh.extBut (Ne.symm hne)
 ·exact sh.extBut _ _ (Kh ltE) (sg.extBut _ _ (Kh ltE) (sf.extBut _ _ (Kh ltE) td))
 ·show hh.objs.size=hp.objs.size+1
  rw[sh.1,sg.1,sf.1,zd]
 ·exact fun b o b1 b2 z=>sh.extBut b o b1 (sg.extBut b o b1 (sf.extBut b o b1 (kd b o b1 b2 z)))
theorem yG{k:Bool}{e p l:Addr}{n:Nat}{xs:Array Value}{old:Value}{Q:Option Value→Shared→Prop}(hA:A.handled=none)(ie:IsEnum s.heap e p n old)(g:SI k s.heap p l n)(m:SS k s.heap l xs)(hv:xs[n]? = none)
  (q:∀ h',Heap.ExtBut p s.heap h'→Q none { s with heap:=h' }):wpAny (model prog w) A (pyNext (.ref e)) Q E s:=by
 have ty:s.TypeIs (.ref e) "enumerate" := ⟨_,ie,rfl⟩
 unfold pyNext
 refine Iz (wpAny_attempt (wpAny_callSpecial?_slot (name:=Str.ofString "__next__") ty F.slot_enumerate_next (wpAny_call_entry F.slot_enumerate_next ty F.entry_enumerate_next ?_ (F.args_enumerate_next_1 _))))
 show wpAny _ _ (field (.ref e) 2 >>= _) _ _ _
 refine Iz (wpAny_field ie rfl (x:=.ref p) rfl (Iz (kT hA g m hv fun h' x he' zz=>?_)))
 obtain⟨o,ho,hc⟩:=zz
 exact Iz (wpAny_isInstance (T := "StopIteration") (b:=true) ⟨o,ho,hc⟩ isSubtype_stop (IM (q _ he')))
end
set_option maxHeartbeats 2000000 in
theorem uX(l:Addr)(xs:Array Value)(n:Nat)(dct:Option Addr)(sl:Array (Option Value)) :
  Meets (Builtin.«enumerate.__new__» ⟨[.type "enumerate",.ref l],[]⟩) (fun _ R s=>s.heap.get? l=some { cls:=.type "tuple",dict:=dct,data:=.seq xs n,slots:=sl } ∧
   R (.ok (.ret (.ref (zA false s.heap l).objs.size))) { s with heap:=(zA false s.heap l).push { cls:=.type "enumerate",data:=.fields #[.none,.bool false,.ref s.heap.objs.size,rawInt 0,.none,.none] } }) :=
 .of_wp fun prog w A R s h=>by
  obtain⟨hp,g,d,tk,os⟩:=s
  obtain⟨hl,h⟩:=h
  have hsub:=sub_enumerate
  have hT:Heap.IsTuple (Shared.heap ⟨hp,g,d,tk,os⟩) l xs:=⟨_,hl,rfl,n,rfl⟩
  wp_walk using AutoSeq1.wpAny_loadPart' hl
  refine wpAny_stack_any fun st=>IM ?_
  split
  ·rename_i c _ _ _ _ _
   cases(c == Value.type "enumerate")
   ·wp_walk using AutoSeq1.wpAny_loadPart' hl,wpAny_pyIter_tuple hT
    exact⟨_,rfl,h⟩
   ·wp_walk using AutoSeq1.wpAny_loadPart' hl,wpAny_pyIter_tuple hT
    exact⟨_,rfl,h⟩
  ·wp_walk using AutoSeq1.wpAny_loadPart' hl,wpAny_pyIter_tuple hT
   exact⟨_,rfl,h⟩
section
variable {prog:Program} {w:World} {A:Around} {E:Value→Shared→Prop} {s:Shared}
theorem vE{k:Bool}{l:Addr}{xs:Array Value}{Q:Value→Shared→Prop}(m:SS k s.heap l xs)
  (q:∀ h',IsEnum h' (s.heap.objs.size+1) s.heap.objs.size 0 .none→SI k h' s.heap.objs.size l 0→h'.objs.size=s.heap.objs.size+2→(∀ b o,s.heap.get? b=some o→h'.get? b=some o)→Q (.ref (s.heap.objs.size+1)) { s with heap:=h' }) :
  wpAny (model prog w) A (call (.type "enumerate") [.ref l]) Q E s:=by
 cases k with
 | true=>exact call_enumerate_list m q
 | false =>
  obtain⟨⟨c,dct,dt,sl⟩,hl,hc,n,hd⟩:=m
  simp only at hc hd
  subst hc;subst hd
  refine callType_new F.called_enumerate (by decide) (F.typeCall_enumerate_1 _) (F.newCall_enumerate_1 _) (fun obj=>F.args_object_init_2 obj _) F.entry_enumerate_new (uX l xs n dct sl) ⟨hl,?_⟩
  have s1:(zA false s.heap l).objs.size=s.heap.objs.size+1:=JH ..
  have o1:((zA false s.heap l).push { cls:=.type "enumerate",data:=.fields #[.none,.bool false,.ref s.heap.objs.size,rawInt 0,.none,.none] }).get? (zA false s.heap l).objs.size=some _:=IP _ rfl
  show _∧_
  rw[s1]at o1 ⊢
  exact⟨⟨_,o1,rfl⟩,q _ o1 ⟨_,IB _ (IP _ rfl),rfl,rfl⟩ (by rw[JH,s1]) fun b o e=>IB _ (IB _ e)⟩
end
end L2
namespace L2
open PySem PySem.Spec PyProof.Rows
noncomputable def Ite(K:Iy)(k:Bool)(l:Addr):It :=
 ⟨fun i H=>∃ xs x,SqK K k H l xs∧xs[i]? = some x,
  fun i H v H'=>∃ T x,H T=none∧v = .ref T∧H'=upd H T (.tup [.int i,x])∧∀ xs,SqK K k H l xs→xs[i]? = some x,
  fun i H=>∃ xs,SqK K k H l xs∧xs.length≤i⟩
def Dg(k:Bool)(e p l:Addr)(i:Nat)(h:Heap):Prop:=(∃ old,IsEnum h e p i old)∧SI k h p l i
theorem pG{P:Program}{w:World}{K:Iy}{elts:List Expr}{kx:Nat}{tp:Pos}{k:Bool}{e p l:Addr}(hne:e≠p):ml P w K (.Tuple elts kx tp) (Ite K k l) [e,p] e (Dg k e p l) where
 mem:=by simp
 obj:=fun i h ⟨⟨old,ie⟩,g⟩ c hc=>by
  simp only[IE,Ji,or_false]at hc
  rcases hc with rfl|rfl
  ·exact⟨_,ie,fun v z=>by cases z⟩
  ·exact g.obj
 keep:=fun i h h' ⟨⟨old,ie⟩,g⟩ kk=>⟨⟨old,kk e (by simp) _ ie⟩,g.at fun o z=>kk p (by simp) o z⟩
 item:=by
  intro X hP hw hK hc i pins s σ H E I hf st hg
  subst hP hw hK
  obtain⟨⟨old,ie⟩,g⟩:=st
  obtain⟨xs,x,q1,hx⟩:=hg
  obtain⟨is1,r1,m1⟩:=I.sqk q1
  obtain⟨u1,hu1,ru1⟩:=r1.get hx
  refine uW ie g m1 (v:=u1) (by simpa using hu1) hne fun h' a1 a2 a3 a4 kk=>?_
  refine⟨_,rfl,?_⟩
  refine wpAny_letOwnedTupleGo_enum (s:={ s with heap:=h',toks:=s.toks+1 }) a1 fun h2 b1 b2=>?_
  have lt:∀{c o},s.heap.get? c=some o→c≠s.heap.objs.size:=fun z=>Jk (II z)
  have I1:Inv X pins σ (upd H s.heap.objs.size (.tup [.int i,x])) { s with heap:=s.heap.push { cls:=.type "tuple",data:=.seq #[.int i s.toks,u1] },toks:=s.toks+1 } :=
   I.laid (o:=.tup [.int i,x]) (fun b ob q=>IB _ q) (IL _) ⟨(show 2≤sizeLine by decide),[.int i s.toks,u1],.cons ⟨_,rfl⟩ (.cons ru1 .nil),IsTup.new _ _⟩
  have nfp:∀ c∈[e,p],c≠s.heap.objs.size:=fun c hc=>by
   simp only[IE,Ji,or_false]at hc
   rcases hc with rfl|rfl
   ·exact lt ie
   ·obtain⟨o,z,_⟩:=g.obj;exact lt z
  have hf':∀ c∈[e,p],S3 X pins (upd H s.heap.objs.size (.tup [.int i,x])) c:=fun c hc=>by
   obtain⟨f0,f1⟩:=hf c hc
   exact⟨by rw[f9 (nfp c hc)];exact f0,f1⟩
  have I2:Inv X pins σ (upd H s.heap.objs.size (.tup [.int i,x])) { s with heap:=h2,toks:=s.toks+1 }:=by
   refine Inv.turnedN (s:={ s with heap:=s.heap.push { cls:=.type "tuple",data:=.seq #[.int i s.toks,u1] },toks:=s.toks+1 }) (t':=s.toks+1) (h':=h2) (ch:=[e,p]) I1 (fun c o hcn z=>?_) hf'
   simp only[IE,Ji,or_false,not_or]at hcn
   obtain⟨n1,n2⟩:=hcn
   refine b2.extBut c o n1 ?_
   have z':(s.heap.push { cls:=.type "tuple",data:=.seq #[.int i s.toks,u1] }).get? c=some o:=z
   by_cases hcs:c=s.heap.objs.size
   ·subst hcs
    rw[IP _ rfl]at z'
    cases z'
    exact a3
   ·rw[MC _ _ _ hcs]at z'
    exact kk c o n1 n2 z'
  refine⟨.ref s.heap.objs.size,_,I2,rfl,⟨_,x,I.hok.fresh (IL _),rfl,rfl,fun zs hz=>by rw[I.sqk_inj hz q1];exact hx⟩,?_,fun c hc=>(hf' c hc).1⟩
  have ec:((i+1:Nat):Int)=(i:Int)+1:=by omega
  exact⟨⟨u1,by rw[ec];exact b1⟩,a2.at fun o z=>b2.extBut p o (Ne.symm hne) z⟩
 done:=by
  intro X hP hw hK hc i pins s σ H E I hf st hg
  subst hP hw hK
  obtain⟨⟨old,ie⟩,g⟩:=st
  obtain⟨xs,q1,hx⟩:=hg
  obtain⟨is1,r1,m1⟩:=I.sqk q1
  have e1:=r1.length
  refine yG (I.ok.hd hc) ie g m1 (by simp;omega) fun h' kk=>⟨rfl,?_⟩
  refine I.turnedN (t':=s.toks) (ch:=[e,p]) (fun c o hcn z=>?_) hf
  simp only[IE,Ji,or_false,not_or]at hcn
  exact kk c o hcn.2 z
 self:=fun _ _ _ _ _ st h=>let ⟨⟨_,ie⟩,_⟩:=st;wpAny_pyIter_enum ie h
def EJ(K:Iy)(ta:TA):TI:=fun σ H R=>ta σ H fun vs H1=>∃ k l,vs=[.ref l]∧(∃ xs,SqK K k H1 l xs)∧R (Ite K k l) H1
theorem xQ{X:Cx}{elts:List Expr}{kx:Nat}{tp:Pos}{a:Expr}{ta:TA}{p pos:Pos}(hg:Gl X "enumerate")(hm:X.mg "enumerate" = none)(ha:PA X [a] ta)(hs:starEach [a] X.env=[(false,eval a X.env)]:=by rfl) :
  PI X (.Tuple elts kx tp) (.Call (.Name "enumerate" p) [a] [] pos) (EJ X.K ta):=by
 intro pins s σ H R I h
 refine Call_ (Z2 I hg hm PyProof.Rows.boot_enumerate (PyProof.Rows.callWith_type1 (thn (ha pos pins s σ H _ I h) fun us s1 ⟨vs,H1,I1,r1,q1⟩=>?_) hs rfl))
 obtain⟨k,l,e,⟨xs,q2⟩,q⟩:=q1
 subst e
 cases r1 with
 | cons r rr =>
  cases rr
  cases r
  obtain⟨is1,_,m1⟩:=I1.sqk q2
  refine vE m1 fun h' a1 a2 a3 kk=>?_
  refine wpAny_pyIter_enum (s:={ s1 with heap:=h' }) a1 ?_
  refine⟨s1.heap.objs.size+1,_,_,_,H1,rfl,I1.kept (t':=s1.toks) kk,pG (Nat.succ_ne_self _),⟨⟨_,a1⟩,a2⟩,fun c hc=>?_,q⟩
  have hge:s1.heap.objs.size≤c:=by
   simp only[IE,Ji,or_false]at hc
   rcases hc with rfl|rfl
   ·exact Kv _ _
   ·exact IL _
  exact I1.fpOk hge (I1.hok.fresh hge)
end L2
namespace L2
open PySem
theorem PE.imp{X:Cx}{x:Expr}{t t':TE}(h:PE X x t)(i:∀ σ H Q,t' σ H Q→t σ H Q):PE X x t':=fun pins s σ H Q I q=>h pins s σ H Q I (i σ H Q q)
theorem PT.imp{X:Cx}{x:Expr}{t t':TT}(h:PT X x t)(i:∀ σ H Q,t' σ H Q→t σ H Q):PT X x t':=fun pins s σ H Q I q=>h pins s σ H Q I (i σ H Q q)
theorem PW.imp{X:Cx}{x:Expr}{t t':TT}(h:PW X x t)(i:∀ σ H Q,t' σ H Q→t σ H Q):PW X x t':=fun wh pins s σ H Q I q=>h wh pins s σ H Q I (i σ H Q q)
theorem PA.imp{X:Cx}{x:List Expr}{t t':TA}(h:PA X x t)(i:∀ σ H Q,t' σ H Q→t σ H Q):PA X x t':=fun pos pins s σ H Q I q=>h pos pins s σ H Q I (i σ H Q q)
theorem PS.imp{X:Cx}{x:Stmt}{t t':TS}(h:PS X x t)(i:∀ E σ H,t' E σ H→t E σ H):PS X x t':=fun pins s σ H D I q=>h pins s σ H D I (i D σ H q)
theorem PSs.imp{X:Cx}{x:List Stmt}{t t':TS}(h:PSs X x t)(i:∀ E σ H,t' E σ H→t E σ H):PSs X x t':=fun pins s σ H D I q=>h pins s σ H D I (i D σ H q)
theorem OpR.imp{X:Cx}{f:Value→Value→Sem Value}{r r':R2}(h:OpR X f r)(i:∀ x y H Q,r' x y H Q→r x y H Q):OpR X f r':=fun pins s σ H x y v u Q I rx ry q=>h pins s σ H x y v u Q I rx ry (i x y H Q q)
theorem IxR.imp{X:Cx}{r r':R2}(h:IxR X r)(i:∀ x y H Q,r' x y H Q→r x y H Q):IxR X r':=fun va sl pins s σ H x y v u Q I rx ry q=>h va sl pins s σ H x y v u Q I rx ry (i x y H Q q)
theorem PG.imp{X:Cx}{x:Expr}{t t':TG}(h:PG X x t)(i:∀ v σ H Q,t' v σ H Q→t v σ H Q):PG X x t':=fun pins s σ H v u Q I r q=>h pins s σ H v u Q I r (i v σ H Q q)
theorem PGs.imp{X:Cx}{x:List Expr}{t t':TGs}(h:PGs X x t)(i:∀ v σ H Q,t' v σ H Q→t v σ H Q):PGs X x t':=fun pins s σ H v u Q I r q=>h pins s σ H v u Q I r (i v σ H Q q)
end L2
namespace DL
open PySem PySem.Spec L2
open PyProof.Rows hiding St
inductive D where
 | non|bl (b:Bool)|int (i:Int)|str (x:Str)|ref (a:Addr)|tup (ds:List D)|vl (ds:List D)|ty (n:String)|dic|exc (c:Str)
def KL(K:Iy)(a:Addr)(xs:List V):Prop:=∀ H:Hp,SqL K H a xs
mutual
inductive Has (K:Iy) (H:Hp):V→D→Prop
 | non:Has K H .non .non
 | bl (b:Bool):Has K H (.bl b) (.bl b)
 | int (i:Int):Has K H (.int i) (.int i)
 | str (x:Str):Has K H (.str x) (.str x)
 | ref (a:Addr):Has K H (.ref a) (.ref a)
 | ty (n:String):Has K H (.ty n) (.ty n)
 | tup {a:Addr} {xs:List V} {ds:List D}:SqT K H a xs→HasL K H xs ds→Has K H (.ref a) (.tup ds)
 | vl {a:Addr} {xs:List V} {ds:List D}:((∃ o,H a=some (.frz o (.lst xs)))∨KL K a xs)→HasL K H xs ds→Has K H (.ref a) (.vl ds)
 | dic {a:Addr}:(∃ o:Obj,H a=some (.frz o (.own 0))∧o.cls = .type "dict")→Has K H (.ref a) .dic
 | exc {a:Addr} {c:Str}:(∃(o:Obj) (C:Addr),H a=some (.frz o (.own 0))∧o.cls = .ref C∧PySem.W.nsIn K mainGlobals c=some (some (.ref C)))→Has K H (.ref a) (.exc c)
inductive HasL (K:Iy) (H:Hp):List V→List D→Prop
 | nil:HasL K H [] []
 | cons {v:V} {d:D} {vs:List V} {ds:List D}:Has K H v d→HasL K H vs ds→HasL K H (v :: vs) (d :: ds)
end
structure KT0(H H':Hp):Prop where
 tp:∀ a xs,Rd H a (.tup xs)→Rd H' a (.tup xs)
 fz:∀ a o u,H a=some (.frz o u)→H' a=some (.frz o u)
structure KT(H H':Hp):Prop extends KT0 H H' where
 ex:∀ a φ,H a=some (.ext φ)→H' a=some (.ext φ)
theorem KT.refl(H:Hp):KT H H:=⟨⟨fun _ _ h=>h,fun _ _ _ h=>h⟩,fun _ _ h=>h⟩
theorem KT.trans{H H1 H2:Hp}(a:KT H H1)(b:KT H1 H2):KT H H2:=⟨⟨fun p xs h=>b.tp p xs (a.tp p xs h),fun p o xs h=>b.fz p o xs (a.fz p o xs h)⟩,fun p φ h=>b.ex p φ (a.ex p φ h)⟩
theorem KT0.sq{K:Iy}{H H':Hp}(k:KT0 H H'){a:Addr}{xs:List V}(h:SqT K H a xs):SqT K H' a xs:=h.elim (fun z=>.inl (k.tp a xs z)) .inr
theorem KT.sq{K:Iy}{H H':Hp}(k:KT H H'){a:Addr}{xs:List V}(h:SqT K H a xs):SqT K H' a xs:=k.toKT0.sq h
theorem KT0.at{H:Hp}{p:Addr}{o:HO}(h1:∀ xs,¬ Rd H p (.tup xs))(h2:∀ q u,H p≠some (.frz q u)):KT0 H (upd H p o) where
 tp:=fun a xs r=>by
  have hn:a≠p:=by intro e;subst e;exact h1 xs r
  rcases r with r|⟨q,r⟩
  ·exact .inl (by rw[f9 hn];exact r)
  ·exact .inr ⟨q,by rw[f9 hn];exact r⟩
 fz:=fun a q xs r=>by
  have hn:a≠p:=by intro e;subst e;exact h2 q xs r
  rw[f9 hn];exact r
theorem KT.at{H:Hp}{p:Addr}{o:HO}(h1:∀ xs,¬ Rd H p (.tup xs))(h2:∀ q u,H p≠some (.frz q u))(h3:∀ φ,H p≠some (.ext φ)):KT H (upd H p o):=⟨KT0.at h1 h2,fun a φ r=>by
  have hn:a≠p:=by intro e;subst e;exact h3 φ r
  rw[f9 hn];exact r⟩
theorem KT.alloc{H:Hp}{p:Addr}{o:HO}(h:H p=none):KT H (upd H p o):=KT.at (fun xs r=>by rcases r with r|⟨_,r⟩<;>(rw[h]at r;cases r)) (fun q xs r=>by rw[h]at r;cases r) fun φ r=>by rw[h]at r;cases r
theorem KT.any{H:Hp}{p:Addr}{xs:List V}{o:HO}(h:H p=some (.lst xs)):KT H (upd H p o):=KT.at (fun xs r=>by rcases r with r|⟨_,r⟩<;>(rw[h]at r;cases r)) (fun q xs r=>by rw[h]at r;cases r) fun φ r=>by rw[h]at r;cases r
theorem KT.write{H:Hp}{p:Addr}{xs ys:List V}(h:H p=some (.lst xs)):KT H (upd H p (.lst ys)):=KT.any h
theorem KT0.ext{H:Hp}{p:Addr}{φ:Heap→Prop}{o:HO}(h:H p=some (.ext φ)):KT0 H (upd H p o):=KT0.at (fun xs r=>by rcases r with r|⟨_,r⟩<;>(rw[h]at r;cases r)) fun q xs r=>by rw[h]at r;cases r
theorem KT.new{H H':Hp}{p:Addr}{o:HO}(k:KT H H')(h:H p=none):KT H (upd H' p o) where
 tp:=fun a xs r=>by
  have hn:a≠p:=by intro e;subst e;rcases r with r|⟨_,r⟩<;>(rw[h]at r;cases r)
  rcases k.tp a xs r with r|⟨q,r⟩
  ·exact .inl (by rw[f9 hn];exact r)
  ·exact .inr ⟨q,by rw[f9 hn];exact r⟩
 fz:=fun a q xs r=>by
  have hn:a≠p:=by intro e;subst e;rw[h]at r;cases r
  rw[f9 hn];exact k.fz a q xs r
 ex:=fun a φ r=>by
  have hn:a≠p:=by intro e;subst e;rw[h]at r;cases r
  rw[f9 hn];exact k.ex a φ r
mutual
theorem Has.mono0{K:Iy}{H H':Hp}(k:KT0 H H'):∀{v:V} {d:D},Has K H v d→Has K H' v d
 | _,_,.non=>.non
 | _,_,.bl b=>.bl b
 | _,_,.int i=>.int i
 | _,_,.str x=>.str x
 | _,_,.ref a=>.ref a
 | _,_,.ty n=>.ty n
 | _,_,.tup s l=>.tup (k.sq s) (HasL.mono0 k l)
 | _,_,.vl h l=>.vl (h.elim (fun⟨o,e⟩=>.inl ⟨o,k.fz _ _ _ e⟩) .inr) (HasL.mono0 k l)
 | _,_,.dic h=>.dic (let ⟨o,e,c⟩:=h;⟨o,k.fz _ _ _ e,c⟩)
 | _,_,.exc h=>.exc (let ⟨o,C,e,c⟩:=h;⟨o,C,k.fz _ _ _ e,c⟩)
theorem HasL.mono0{K:Iy}{H H':Hp}(k:KT0 H H'):∀{v:List V} {d:List D},HasL K H v d→HasL K H' v d
 | _,_,.nil=>.nil
 | _,_,.cons a b=>.cons (Has.mono0 k a) (HasL.mono0 k b)
end
theorem Has.mono{K:Iy}{H H':Hp}(k:KT H H'){v:V}{d:D}(h:Has K H v d):Has K H' v d:=h.mono0 k.toKT0
theorem HasL.mono{K:Iy}{H H':Hp}(k:KT H H'){v:List V}{d:List D}(h:HasL K H v d):HasL K H' v d:=h.mono0 k.toKT0
section
variable {K:Iy} {H H':Hp}
theorem HasL.length:∀{vs:List V} {ds:List D},HasL K H vs ds→vs.length=ds.length
 | _,_,.nil=>rfl
 | _,_,.cons _ b=>congrArg Nat.succ (HasL.length b)
theorem HasL.get:∀{vs:List V} {ds:List D} {i:Nat} {d:D},HasL K H vs ds→ds[i]? = some d→∃ v,vs[i]? = some v∧Has K H v d
 | _,_,_,_,.nil,e=>by simp at e
 | _,_,0,_,.cons a _,e=>by simp at e;subst e;exact⟨_,rfl,a⟩
 | _,_,i+1,d,.cons _ b,e=>by
  obtain⟨v,h1,h2⟩:=HasL.get (i:=i) (d:=d) b (by simpa using e)
  exact⟨v,by simpa using h1,h2⟩
theorem HasL.getV:∀{vs:List V} {ds:List D} {i:Nat} {v:V},HasL K H vs ds→vs[i]? = some v→∃ d,ds[i]? = some d∧Has K H v d
 | _,_,_,_,.nil,e=>by simp at e
 | _,_,0,_,.cons a _,e=>by simp at e;subst e;exact⟨_,rfl,a⟩
 | _,_,i+1,d,.cons _ b,e=>by
  obtain⟨v,h1,h2⟩:=HasL.getV (i:=i) (v:=d) b (by simpa using e)
  exact⟨v,by simpa using h1,h2⟩
theorem HasL.set{v:V}{d:D}(r:Has K H v d):∀{vs:List V} {ds:List D} (i:Nat),HasL K H vs ds→HasL K H (vs.set i v) (ds.set i d)
 | _,_,_,.nil=>.nil
 | _,_,0,.cons _ t=>.cons r t
 | _,_,i+1,.cons q t=>.cons q (HasL.set r i t)
theorem HasL.append:∀{xs ys:List V} {us ws:List D},HasL K H xs us→HasL K H ys ws→HasL K H (xs++ys) (us++ws)
 | _,_,_,_,.nil,s=>s
 | _,_,_,_,.cons r t,s=>.cons r (HasL.append t s)
theorem HasL.take:∀{xs:List V} {us:List D} (n:Nat),HasL K H xs us→HasL K H (xs.take n) (us.take n)
 | _,_,0,_=>.nil
 | _,_,_+1,.nil=>.nil
 | _,_,n+1,.cons r t=>.cons r (HasL.take n t)
theorem HasL.drop:∀{xs:List V} {us:List D} (n:Nat),HasL K H xs us→HasL K H (xs.drop n) (us.drop n)
 | _,_,0,r=>r
 | _,_,_+1,.nil=>.nil
 | _,_,n+1,.cons _ t=>HasL.drop n t
theorem HasL.ints:∀(ns:List Int),HasL K H (ns.map V.int) (ns.map D.int)
 | []=>.nil
 | n :: r=>.cons (.int n) (HasL.ints r)
end
inductive MO where
 | lst (ds:List D)
 | ins (c:Str) (fs:List (Str × D))
noncomputable abbrev Mem:=Addr→Option MO
noncomputable def B7(M:Mem)(a:Addr)(o:MO):Mem:=fun b=>if b=a then some o else M b
theorem i3{M:Mem}{a:Addr}{o:MO}:B7 M a o a=some o:=by unfold B7;rw[if_pos rfl]
theorem F9{M:Mem}{a b:Addr}{o:MO}(h:b≠a):B7 M a o b=M b:=by unfold B7;rw[if_neg h]
theorem S6{M:Mem}{a:Addr}{o u:MO}:B7 (B7 M a o) a u=B7 M a u:=by
 funext b;unfold B7;by_cases h:b=a<;>simp[h]
structure mr(K:Iy)(H:Hp)(ys:List (Str × V))(fs:List (Str × D)):Prop where
 names:ys.map (·.1)=fs.map (·.1)
 has:HasL K H (ys.map (·.2)) (fs.map (·.2))
theorem mr.mono{K:Iy}{H H':Hp}(k:KT H H'){ys:List (Str × V)}{fs:List (Str × D)}(h:mr K H ys fs):mr K H' ys fs:=⟨h.names,h.has.mono k⟩
theorem mr.mono0{K:Iy}{H H':Hp}(k:KT0 H H'){ys:List (Str × V)}{fs:List (Str × D)}(h:mr K H ys fs):mr K H' ys fs:=⟨h.names,h.has.mono0 k⟩
noncomputable def MOk(K:Iy)(H:Hp)(a:Addr):MO→Prop
 | .lst ds=>∃ xs,H a=some (.lst xs)∧HasL K H xs ds
 | .ins c fs=>∃ C dx ys,H a=some (.ins C dx ys)∧mr K H ys fs∧PySem.W.nsIn K mainGlobals c=some (some (.ref C))
def j7(K:Iy)(H:Hp)(M:Mem):Prop:=∀ a o,M a=some o→MOk K H a o
section
variable {K:Iy} {H H':Hp} {M:Mem}
theorem j7.fresh(h:j7 K H M){p:Addr}(e:H p=none):M p=none:=by
 cases q:M p with
 | none=>rfl
 | some o =>
  cases o with
  | lst ds=>obtain⟨xs,z,_⟩:=h p _ q;rw[e]at z;cases z
  | ins C fs=>obtain⟨_,dx,ys,z,_⟩:=h p _ q;rw[e]at z;cases z
theorem j7.alloc(h:j7 K H M){p:Addr}{u:HO}(e:H p=none):j7 K (upd H p u) M:=fun a o m=>by
 have k:KT H (upd H p u):=KT.alloc e
 cases o with
 | lst ds =>
  obtain⟨xs,z,l⟩:=h a _ m
  have hn:a≠p:=B3 z e
  exact⟨xs,by rw[f9 hn];exact z,l.mono k⟩
 | ins C fs =>
  obtain⟨C0,dx,ys,z,l,hc⟩:=h a _ m
  have hn:a≠p:=B3 z e
  exact⟨C0,dx,ys,by rw[f9 hn];exact z,l.mono k,hc⟩
theorem j7.new(h:j7 K H M){p:Addr}{xs:List V}{ds:List D}(e:H p=none)(l:HasL K H xs ds):j7 K (upd H p (.lst xs)) (B7 M p (.lst ds)):=fun a o m=>by
 by_cases q:a=p
 ·subst q
  rw[i3]at m;cases m
  exact⟨xs,h7,l.mono (KT.alloc e)⟩
 ·rw[F9 q]at m
  exact h.alloc e a o m
theorem j7.write(h:j7 K H M){p:Addr}{xs ys:List V}{ds:List D}(e:H p=some (.lst xs))(l:HasL K H ys ds):j7 K (upd H p (.lst ys)) (B7 M p (.lst ds)):=fun a o m=>by
 have k:KT H (upd H p (.lst ys)):=KT.write e
 by_cases q:a=p
 ·subst q
  rw[i3]at m;cases m
  exact⟨ys,h7,l.mono k⟩
 ·rw[F9 q]at m
  cases o with
  | lst es =>
   obtain⟨zs,z,l⟩:=h a _ m
   exact⟨zs,by rw[f9 q];exact z,l.mono k⟩
  | ins C fs =>
   obtain⟨C0,dx,zs,z,l,hc⟩:=h a _ m
   exact⟨C0,dx,zs,by rw[f9 q];exact z,l.mono k,hc⟩
theorem j7.lst(h:j7 K H M){a:Addr}{ds:List D}(m:M a=some (.lst ds)):∃ xs,H a=some (.lst xs)∧HasL K H xs ds:=h a _ m
end
noncomputable abbrev Ev:=List (Option D)
structure t7(K:Iy)(H:Hp)(σ:St)(e:Ev):Prop where
 len:σ.length=e.length
 has:∀(i:Nat) (d:D),e[i]? = some (some d)→∃ v,σ[i]? = some (some v)∧Has K H v d
section
variable {K:Iy} {H H':Hp} {σ:St} {e:Ev}
theorem t7.mono(k:KT H H')(h:t7 K H σ e):t7 K H' σ e:=⟨h.len,fun i d z=>let ⟨v,a,b⟩:=h.has i d z;⟨v,a,b.mono k⟩⟩
theorem t7.set(h:t7 K H σ e){v:V}{d:D}(r:Has K H v d)(i:Nat):t7 K H (σ.set i (some v)) (e.set i (some d)):=by
 refine⟨by simp[h.len],fun j x z=>?_⟩
 rw[List.getElem?_set]at z ⊢
 by_cases q:i=j
 ·subst q
  rw[if_pos rfl]at z ⊢
  by_cases l:i<e.length
  ·rw[if_pos l]at z
   rw[if_pos (by rw[h.len];exact l)]
   cases z
   exact⟨v,rfl,r⟩
  ·rw[if_neg l]at z;cases z
 ·rw[if_neg q]at z ⊢
  exact h.has j x z
end
noncomputable def S0(N:List Str)(ds:List D):Ev:=ds.map some++Km (N.length - ds.length) none
theorem t7.start0{K:Iy}{H:Hp}{N:List Str}{vs:List V}{ds:List D}(h:HasL K H vs ds):t7 K H (L2.start N vs) (S0 N ds):=by
 have hl:=h.length
 refine⟨by simp[L2.start,S0,hl],fun i d z=>?_⟩
 unfold S0 at z
 unfold L2.start
 rw[Ld]at z ⊢
 simp only[ID]at z ⊢
 rw[hl]
 by_cases q:i<ds.length
 ·rw[if_pos q]at z ⊢
  rw[Jb]at z ⊢
  cases e:ds[i]? with
  | none=>rw[e]at z;cases z
  | some x =>
   rw[e]at z
   have z':x=d:=by simpa using z
   subst z'
   obtain⟨v,a,b⟩:=h.get e
   exact⟨v,by rw[a];rfl,b⟩
 ·rw[if_neg q]at z
  rw[JN]at z
  split at z<;>cases z
noncomputable abbrev DK:=D→Mem→Prop
noncomputable abbrev DTE:=Ev→Mem→DK→Prop
noncomputable abbrev DTT:=Ev→Mem→(Bool→Mem→Prop)→Prop
noncomputable abbrev DTA:=Ev→Mem→(List D→Mem→Prop)→Prop
structure X4 where
 nx:Ev→Mem→Prop
 rt:DK
 bk:Ev→Mem→Prop:=fun _ _=>False
 ct:Ev→Mem→Prop:=fun _ _=>False
noncomputable abbrev DTS:=X4→Ev→Mem→Prop
def cY(K:Iy)(H:Hp)(R:DK)(Q:VK):Prop:=∀ d M',R d M'→∀ v H',KT H H'→j7 K H' M'→Has K H' v d→Q v H'
def vR(K:Iy)(H:Hp)(R:Bool→Mem→Prop)(Q:Bool→Hp→Prop):Prop:=∀ b M',R b M'→∀ H',KT H H'→j7 K H' M'→Q b H'
def yS(K:Iy)(H:Hp)(R:List D→Mem→Prop)(Q:List V→Hp→Prop):Prop:=∀ ds M',R ds M'→∀ vs H',KT H H'→j7 K H' M'→HasL K H' vs ds→Q vs H'
def kG(K:Iy)(H:Hp)(R:Ev→Mem→Prop)(Q:St→Hp→Prop):Prop:=∀ e M',R e M'→∀ σ H',KT H H'→j7 K H' M'→t7 K H' σ e→Q σ H'
structure Fit(K:Iy)(H:Hp)(F:X4)(E:kH):Prop where
 nx:kG K H F.nx E.nx
 rt:cY K H F.rt E.rt
 bk:kG K H F.bk E.bk
 ct:kG K H F.ct E.ct
section
variable {K:Iy} {H H':Hp}
theorem cY.mono{R:DK}{Q:VK}(h:cY K H R Q)(k:KT H H'):cY K H' R Q:=fun d M r v H2 k2 a b=>h d M r v H2 (k.trans k2) a b
theorem vR.mono{R:Bool→Mem→Prop}{Q:Bool→Hp→Prop}(h:vR K H R Q)(k:KT H H'):vR K H' R Q:=fun d M r H2 k2 a=>h d M r H2 (k.trans k2) a
theorem yS.mono{R:List D→Mem→Prop}{Q:List V→Hp→Prop}(h:yS K H R Q)(k:KT H H'):yS K H' R Q:=fun d M r v H2 k2 a b=>h d M r v H2 (k.trans k2) a b
theorem kG.mono{R:Ev→Mem→Prop}{Q:St→Hp→Prop}(h:kG K H R Q)(k:KT H H'):kG K H' R Q:=fun d M r v H2 k2 a b=>h d M r v H2 (k.trans k2) a b
theorem Fit.mono{F:X4}{E:kH}(h:Fit K H F E)(k:KT H H'):Fit K H' F E:=⟨h.nx.mono k,h.rt.mono k,h.bk.mono k,h.ct.mono k⟩
end
def up(K:Iy)(t:DTE):TE:=fun σ H Q=>∃ e M R,t7 K H σ e∧j7 K H M∧t e M R∧cY K H R Q
def upT(K:Iy)(t:DTT):TT:=fun σ H Q=>∃ e M R,t7 K H σ e∧j7 K H M∧t e M R∧vR K H R Q
def upA(K:Iy)(t:DTA):TA:=fun σ H Q=>∃ e M R,t7 K H σ e∧j7 K H M∧t e M R∧yS K H R Q
def upS(K:Iy)(t:DTS):TS:=fun E σ H=>∃ e M F,t7 K H σ e∧j7 K H M∧t F e M∧Fit K H F E
abbrev DPE(X:Cx)(x:Expr)(t:DTE):Prop:=PE X x (up X.K t)
abbrev DPT(X:Cx)(x:Expr)(t:DTT):Prop:=PT X x (upT X.K t)
abbrev DPW(X:Cx)(x:Expr)(t:DTT):Prop:=PW X x (upT X.K t)
abbrev DPA(X:Cx)(x:List Expr)(t:DTA):Prop:=PA X x (upA X.K t)
abbrev DPS(X:Cx)(x:Stmt)(t:DTS):Prop:=PS X x (upS X.K t)
abbrev Gw(X:Cx)(x:List Stmt)(t:DTS):Prop:=PSs X x (upS X.K t)
structure JE(X:Cx)(x:Expr)(t:DTE):Prop where
 out:DPE X x t
structure JT(X:Cx)(x:Expr)(t:DTT):Prop where
 out:DPT X x t
structure JW(X:Cx)(x:Expr)(t:DTT):Prop where
 out:DPW X x t
structure JA(X:Cx)(x:List Expr)(t:DTA):Prop where
 out:DPA X x t
structure JS(X:Cx)(x:Stmt)(t:DTS):Prop where
 out:DPS X x t
structure JSs(X:Cx)(x:List Stmt)(t:DTS):Prop where
 out:Gw X x t
section
variable {X:Cx} {a b c:Expr} {ta tb tc:DTE} {pos:Pos}
def Q1(i:Nat):DTE:=fun e M R=>∃ d,e[i]? = some (some d)∧R d M
def dC(d:D):DTE:=fun _ M R=>R d M
theorem d4(i:Nat){x:Str}{pos:Pos}(hN:X.N[i]? = some x:=by rfl)(hv:Vis X.env.scope x:=by first|exact Or.inl rfl|exact Or.inr (Or.inl rfl)|exact Or.inr (Or.inr rfl))(hd:(x == ("__debug__" : Str))=false:=by decide)
  (hcd:(x == ("__classdict__" : Str))=false:=by decide):JE X (.Name x pos) (Q1 i):=⟨(tR hN hv hd hcd).imp (by
  rintro σ H Q ⟨e,M,R,ok,am,⟨d,z,r⟩,f⟩
  obtain⟨v,h1,h2⟩:=ok.has i d z
  exact⟨v,h1,f d M r v H (KT.refl H) am h2⟩)⟩
theorem P7{v:V}{d:D}(h:PE X a (tC v))(r:∀ H,Has X.K H v d):DPE X a (dC d) :=
 h.imp (by rintro σ H Q ⟨e,M,R,ok,am,z,f⟩;exact f d M z v H (KT.refl H) am (r H))
theorem d6{i j pos}:JE X (.Constant (.int i) j pos) (dC (.int i)):=⟨P7 BN fun _=>.int i⟩
theorem jY{b j pos}:JE X (.Constant (.bool b) j pos) (dC (.bl b)):=⟨P7 Eo fun _=>.bl b⟩
theorem O1{j pos}:JE X (.Constant .none j pos) (dC .non):=⟨P7 BM fun _=>.non⟩
theorem C9{x j pos}:JE X (.Constant (.str x) j pos) (dC (.str x)):=⟨P7 BJ fun _=>.str x⟩
def FD(K:Iy)(v:V)(d:D):Prop:=∀ H,Has K H v d
theorem CA{x:Str}{v:V}{d:D}{u:Value}{pos:Pos}(hg:Gl X x)(hm:X.mg x=some u)(r:j6 v u)(hk:FD X.K v d)(hd:(x == ("__debug__" : Str))=false:=by decide):DPE X (.Name x pos) (dC d) :=
 P7 (xU hg hm r hd) hk
noncomputable abbrev DR2:=D→D→Mem→DK→Prop
def upR(K:Iy)(g:DR2):R2:=fun x y H Q=>∃ dx dy M R,Has K H x dx∧Has K H y dy∧j7 K H M∧g dx dy M R∧cY K H R Q
def DOp(X:Cx)(f:Value→Value→Sem Value)(g:DR2):Prop:=OpR X f (upR X.K g)
def dOp(g:DR2)(ta tb:DTE):DTE:=fun e M R=>ta e M fun x M1=>tb e M1 fun y M2=>g x y M2 R
theorem fi{ta tb:DTE}{g:DR2}{σ:St}{H:Hp}{Q:VK}(h:up X.K (dOp g ta tb) σ H Q):tOp (upR X.K g) (up X.K ta) (up X.K tb) σ H Q:=by
 obtain⟨e,M,R,ok,am,t,f⟩:=h
 refine⟨e,M,_,ok,am,t,fun x M1 h1 v H1 k1 a1 r1=>?_⟩
 refine⟨e,M1,_,ok.mono k1,a1,h1,fun y M2 h2 u H2 k2 a2 r2=>?_⟩
 exact⟨x,y,M2,R,r1.mono k2,r2,a2,h2,f.mono (k1.trans k2)⟩
theorem e8{op:Operator}{g:DR2}(ho:DOp X (binaryOp op) g)(ha:JE X a ta)(hb:JE X b tb):JE X (.BinOp a op b pos) (dOp g ta tb):=⟨have ha:=ha.out;have hb:=hb.out;(Ab ho ha hb).imp fun _ _ _ h=>fi h⟩
theorem Cp{op:CmpOp}{g:DR2}(ho:DOp X (compareOp op) g)(ha:JE X a ta)(hb:JE X b tb)(hm:behindInMarks op b=false):JE X (.Compare a [op] [b] pos) (dOp g ta tb):=⟨have ha:=ha.out;have hb:=hb.out;(xW ho ha hb hm).imp fun _ _ _ h=>fi h⟩
def oU(t:DTE):DTT:=fun e M R=>t e M fun x M'=>∃ k,x = .bl k∧R k M'
theorem jd{K:Iy}{H:Hp}{R:Bool→Mem→Prop}{Q:Bool→Hp→Prop}(f:vR K H R Q):cY K H (fun x M'=>∃ k,x = .bl k∧R k M') (fun x H'=>∃ k,x = .bl k∧Q k H'):=by
 rintro d M' ⟨k,rfl,r⟩ v H' kt am h
 cases h
 exact⟨k,rfl,f k M' r H' kt am⟩
theorem yx{op:CmpOp}{g:DR2}(ho:DOp X (compareOp op) g)(ha:JE X a ta)(hb:JE X b tb)(hm:behindInMarks op b=false):JT X (.Compare a [op] [b] pos) (oU (dOp g ta tb)):=⟨have ha:=ha.out;have hb:=hb.out;(xG ho ha hb hm).imp (by rintro σ H Q ⟨e,M,R,ok,am,t,f⟩;exact fi (Q:=fun x H'=>∃ k,x = .bl k∧Q k H') ⟨e,M,_,ok,am,t,jd f⟩)⟩
theorem W3{x:Expr}{t:DTE}(h:JE X x t)(he:∀ whole,isTrue x X.env whole=(do let v ← whole;standAt x.pos;holding [v] (truthy v)):=by intro _;rfl):JT X x (oU t):=⟨have h:=h.out;(Bx h he).imp (by rintro σ H Q ⟨e,M,R,ok,am,t,f⟩;exact⟨e,M,_,ok,am,t,jd f⟩)⟩
noncomputable def fI(f:Int→Int→D):D→D→Option D
 | .int i,.int j=>some (f i j)
 | _,_=>none
def gF(f:D→D→Option D):DR2:=fun x y M R=>∃ z,f x y=some z∧R z M
def gI(C:Int→Int→Prop)(f:Int→Int→D):DR2:=fun x y M R=>∃ i j,x = .int i∧y = .int j∧C i j∧R (f i j) M
theorem gO{f:Int→Int→D}{x y z:D}(h:fI f x y=some z):∃ i j,x = .int i∧y = .int j∧z=f i j:=by
 cases x with
 | int i =>
  cases y with
  | int j=>exact⟨i,j,rfl,rfl,(Option.some.inj h).symm⟩
  | _=>cases h
 | _=>cases h
theorem kf{f:Value→Value→Sem Value}{C:Int→Int→Prop}{g:Int→Int→V}{g':Int→Int→D}(h:OpR X f (rI C g))(hg:∀ i j H,Has X.K H (g i j) (g' i j)):DOp X f (gI C g') :=
 OpR.imp h (by
  rintro x y H Q ⟨dx,dy,M,R,hx,hy,am,⟨i,j,e1,e2,hc,r⟩,f⟩
  subst e1;subst e2
  cases hx;cases hy
  exact⟨i,j,rfl,rfl,hc,f _ M r _ H (KT.refl H) am (hg i j H)⟩)
theorem cR{f:Value→Value→Sem Value}{g:Int→Int→V}{g':Int→Int→D}(h:OpR X f (rI0 g))(hg:∀ i j H,Has X.K H (g i j) (g' i j)):DOp X f (gF (fI g')) :=
 OpR.imp h (by
  rintro x y H Q ⟨dx,dy,M,R,hx,hy,am,⟨z,e,r⟩,f⟩
  obtain⟨i,j,e1,e2,e3⟩:=gO e
  subst e1;subst e2;subst e3
  cases hx;cases hy
  exact⟨i,j,rfl,rfl,f _ M r _ H (KT.refl H) am (hg i j H)⟩)
theorem L4:DOp X (binaryOp .Add) (gF (fI fun i j=>.int (i+j))):=cR BX fun _ _ _=>.int _
theorem G3:DOp X (binaryOp .Sub) (gF (fI fun i j=>.int (i - j))):=cR BU fun _ _ _=>.int _
theorem lO:DOp X (compareOp .Lt) (gF (fI fun i j=>.bl (decide (i<j)))):=cR Es fun _ _ _=>.bl _
theorem Gb:DOp X (compareOp .LtE) (gF (fI fun i j=>.bl (decide (i≤j)))):=cR Et fun _ _ _=>.bl _
theorem pX:DOp X (compareOp .Gt) (gF (fI fun i j=>.bl (decide (j<i)))):=cR Eu fun _ _ _=>.bl _
theorem ao:DOp X (binaryOp .Mod) (gI (fun _ j=>0<j) fun i j=>.int (i % j)):=kf BW fun _ _ _=>.int _
theorem jO:DOp X (binaryOp .Pow) (gI vX fun i j=>.int (i ^ j.toNat)):=kf BV fun _ _ _=>.int _
noncomputable def gU(f:Int→D):D→Mem→DK→Prop:=fun x M R=>∃ i,x = .int i∧R (f i) M
def dUn(g:D→Mem→DK→Prop)(ta:DTE):DTE:=fun e M R=>ta e M fun x M1=>g x M1 R
theorem Z4(ha:JE X a ta):JE X (.UnaryOp .USub a pos) (dUn (gU fun i=>.int (-i)) ta):=⟨have ha:=ha.out;(El AW ha).imp (by rintro σ H Q ⟨e,M,R,ok,am,t,f⟩;exact⟨e,M,_,ok,am,t,fun x M1 ⟨i,z,r⟩ v H1 k1 a1 r1=>by
  subst z;cases r1;exact⟨i,rfl,f _ M1 r _ H1 k1 a1 (.int _)⟩⟩)⟩
variable {tA tB':DTT} {m9:List Expr}
def Fl(t u:DTT):DTT:=fun e M R=>t e M fun c M1=>if c=true then u e M1 R else R false M1
def dOr(t u:DTT):DTT:=fun e M R=>t e M fun c M1=>if c=true then R true M1 else u e M1 R
def Fe(t:DTT):DTT:=fun e M R=>t e M fun c M1=>R (!c) M1
theorem oG(ha:JT X a tA):JW X (.BoolOp .And [a] pos) tA:=⟨have ha:=ha.out;xF ha⟩
theorem lU(ha:JT X a tA):JW X (.BoolOp .Or [a] pos) tA:=⟨have ha:=ha.out;Bu ha⟩
theorem uH(ha:JT X a tA)(hb:JW X (.BoolOp .And (b :: m9) pos) tB'):JW X (.BoolOp .And (a :: b :: m9) pos) (Fl tA tB'):=⟨have ha:=ha.out;have hb:=hb.out;(Bv ha hb).imp (by rintro σ H Q ⟨e,M,R,ok,am,t,f⟩;exact⟨e,M,_,ok,am,t,fun k M1 h1 H1 k1 a1=>by
  cases k with
  | true=>exact⟨e,M1,R,ok.mono k1,a1,h1,f.mono k1⟩
  | false=>exact f false M1 h1 H1 k1 a1⟩)⟩
theorem oA(ha:JT X a tA)(hb:JW X (.BoolOp .Or (b :: m9) pos) tB'):JW X (.BoolOp .Or (a :: b :: m9) pos) (dOr tA tB'):=⟨have ha:=ha.out;have hb:=hb.out;(Ej ha hb).imp (by rintro σ H Q ⟨e,M,R,ok,am,t,f⟩;exact⟨e,M,_,ok,am,t,fun k M1 h1 H1 k1 a1=>by
  cases k with
  | true=>exact f true M1 h1 H1 k1 a1
  | false=>exact⟨e,M1,R,ok.mono k1,a1,h1,f.mono k1⟩⟩)⟩
theorem lV(ha:JT X a tA):JT X (.UnaryOp .Not a pos) (Fe tA):=⟨have ha:=ha.out;(By ha).imp (by rintro σ H Q ⟨e,M,R,ok,am,t,f⟩;exact⟨e,M,_,ok,am,t,fun k M1 h1 H1 k1 a1=>f (!k) M1 h1 H1 k1 a1⟩)⟩
theorem jX{x:Expr}{t:DTT}(h:JW X x t):JT X x t:=⟨have h:=h.out;PW.pt h⟩
def Au(ta tb:DTE):DTE:=fun e M R=>ta e M fun x M1=>∃ c,x = .bl c∧if c=true then tb e M1 R else R (.bl false) M1
def Ao(ta:DTE):DTE:=fun e M R=>ta e M fun x M1=>∃ c,x = .bl c∧R (.bl (!c)) M1
theorem oy{op}{t:DTE}(h:JE X a t):JE X (.BoolOp op [a] pos) t:=⟨have h:=h.out;BK h⟩
theorem oz(ha:JE X a ta)(hb:JE X (.BoolOp .And (b :: m9) pos) tb):JE X (.BoolOp .And (a :: b :: m9) pos) (Au ta tb):=⟨have ha:=ha.out;have hb:=hb.out;(BO ha hb).imp (by rintro σ H Q ⟨e,M,R,ok,am,t,f⟩;exact⟨e,M,_,ok,am,t,fun x M1 ⟨k,z,h1⟩ v H1 k1 a1 r1=>by
  subst z;cases r1
  refine⟨k,rfl,?_⟩
  cases k with
  | true=>exact⟨e,M1,R,ok.mono k1,a1,h1,f.mono k1⟩
  | false=>exact f _ M1 h1 _ H1 k1 a1 (.bl _)⟩)⟩
theorem yw(ha:JE X a ta):JE X (.UnaryOp .Not a pos) (Ao ta):=⟨have ha:=ha.out;(BL ha).imp (by rintro σ H Q ⟨e,M,R,ok,am,t,f⟩;exact⟨e,M,_,ok,am,t,fun x M1 ⟨k,z,h1⟩ v H1 k1 a1 r1=>by
  subst z;cases r1
  exact⟨k,rfl,f _ M1 h1 _ H1 k1 a1 (.bl _)⟩⟩)⟩
def dIf(t:DTT)(ta tb:DTE):DTE:=fun e M R=>t e M fun c M1=>if c=true then ta e M1 R else tb e M1 R
theorem uF(hc:JT X c tA)(ha:JE X a ta)(hb:JE X b tb):JE X (.IfExp c a b pos) (dIf tA ta tb):=⟨have hc:=hc.out;have ha:=ha.out;have hb:=hb.out;(tU hc ha hb).imp (by rintro σ H Q ⟨e,M,R,ok,am,t,f⟩;exact⟨e,M,_,ok,am,t,fun k M1 h1 H1 k1 a1=>by
  cases k with
  | true=>exact⟨e,M1,R,ok.mono k1,a1,h1,f.mono k1⟩
  | false=>exact⟨e,M1,R,ok.mono k1,a1,h1,f.mono k1⟩⟩)⟩
def CC:DTA:=fun _ M R=>R [] M
def oW(ta:DTE)(tr:DTA):DTA:=fun e M R=>ta e M fun x M1=>tr e M1 fun xs M2=>R (x :: xs) M2
variable {es:List Expr} {tr:DTA}
theorem d5:JA X [] CC:=⟨lJ.imp (by rintro σ H Q ⟨e,M,R,ok,am,t,f⟩;exact f [] M t [] H (KT.refl H) am .nil)⟩
theorem d3(ha:JE X a ta)(hr:JA X es tr)(hs:starEach (a :: es) X.env=(false,eval a X.env) :: starEach es X.env:=by rfl):JA X (a :: es) (oW ta tr):=⟨have ha:=ha.out;have hr:=hr.out;(gj ha hr hs).imp (by rintro σ H Q ⟨e,M,R,ok,am,t,f⟩;exact⟨e,M,_,ok,am,t,fun x M1 h1 v H1 k1 a1 r1 =>
  ⟨e,M1,_,ok.mono k1,a1,h1,fun xs M2 h2 vs H2 k2 a2 r2=>f _ M2 h2 _ H2 (k1.trans k2) a2 (.cons (r1.mono k2) r2)⟩⟩)⟩
def EY(t:DTA):DTE:=fun e M R=>t e M fun ds M1=>ds.length≤sizeLine∧R (.tup ds) M1
def Ff(t:DTA):DTE:=fun e M R=>t e M fun ds M1=>ds.length≤sizeLine∧∀ p,M1 p=none→R (.ref p) (B7 M1 p (.lst ds))
theorem o8{x1}(h:JA X es tr):JE X (.Tuple es x1 pos) (EY tr):=⟨have h:=h.out;(BI h).imp (by rintro σ H Q ⟨e,M,R,ok,am,t,f⟩;exact⟨e,M,_,ok,am,t,fun ds M1 ⟨hz,h1⟩ vs H1 k1 a1 r1=>by
  refine⟨by rw[r1.length];exact hz,fun p hp=>?_⟩
  have k2:KT H1 (upd H1 p (.tup vs)):=KT.alloc hp
  exact f _ M1 h1 _ _ (k1.trans k2) (a1.alloc hp) (.tup (SqT.of h7) (r1.mono k2))⟩)⟩
theorem gJ(h:JA X es tr):JE X (.List es pos) (Ff tr):=⟨have h:=h.out;(tT h).imp (by rintro σ H Q ⟨e,M,R,ok,am,t,f⟩;exact⟨e,M,_,ok,am,t,fun ds M1 ⟨hz,h1⟩ vs H1 k1 a1 r1=>by
  refine⟨by rw[r1.length];exact hz,fun p hp=>?_⟩
  have k2:KT H1 (upd H1 p (.lst vs)):=KT.alloc hp
  exact f _ _ (h1 p (a1.fresh hp)) _ _ (k1.trans k2) (a1.new hp r1) (.ref p)⟩)⟩
theorem HasL.at{K:Iy}{H:Hp}{vs:List V}{ds:List D}(h:HasL K H vs ds){i:Int}{z:D}(e:atI ds i=some z):∃ v,atI vs i=some v∧Has K H v z:=by
 unfold atI at e ⊢
 rw[h.length]
 cases q:ixN ds.length i with
 | none=>rw[q]at e;cases e
 | some j =>
  rw[q]at e
  exact h.get e
def DIx(X:Cx)(g:DR2):Prop:=IxR X (upR X.K g)
theorem EE{g:DR2}(hr:DIx X g)(ha:JE X a ta)(hb:JE X b tb)(hs:iw b):JE X (.Subscript a b pos) (dOp g ta tb):=⟨have ha:=ha.out;have hb:=hb.out;(Em hr ha hb hs).imp fun _ _ _ h=>fi h⟩
noncomputable abbrev DXK:=Value→Mem→Prop
noncomputable abbrev DSp:=List D→Mem→DK→DXK→Prop
def Dd(K:Iy)(H:Hp)(Y:DXK)(E:XK):Prop:=∀ c M',Y c M'→∀ o H',KT H H'→j7 K H' M'→E c o H'
noncomputable def iZ(K:Iy)(sp:DSp):Sp:=fun vs H Q E=>∃ ds M R Y,HasL K H vs ds∧j7 K H M∧sp ds M R Y∧cY K H R Q∧Dd K H Y E
def ki(sp:DSp)(dds:List D)(Y:DXK)(t:DTA):DTE:=fun e M R=>t e M fun ds M1=>sp (ds++dds) M1 R Y
end
section
variable {X:Cx} {CX:CXT} {k:Nat} {f C:Addr} {fd:FuncData} {ps:List Str} {sp:DSp} {dvs:List V} {dds:List D} {ds:List Value} {E:XK} {Y:DXK} {x m:Str} {p pos apos:Pos} {e o:Expr} {es:List Expr} {t:DTA}
theorem CB(F:L7 X.prog X.w X.K X.mg X.base CX k f fd ps (iZ X.K sp))(hr:D7 k X.A)(hg:Gl X x)(hm:X.mg x=some (.ref f))(hk:PySem.W.keepIn X.K (.ref f)=true)(hb:cZ X.K fd ps ds)(hd:i5 dvs ds)(hdd:∀ H,HasL X.K H dvs dds)(hx:ix CX X E)(hY:∀ H,Dd X.K H Y E)
  (ha:DPA X (e :: es) t) (hdb:(x == ("__debug__" : Str))=false:=by decide) (he:starEach (e :: es) X.env=(false,eval e X.env) :: starEach es X.env:=by rfl) (hpl:(backTo pos (starEach es X.env)).any (·.1)=false:=by rfl) :
  DPE X (.Call (.Name x p) (e :: es) [] pos) (ki sp dds Y t) :=
 (xX F hr hg hm hk hb hd hx ha hdb he hpl).imp (by rintro σ H Q ⟨e,M,R,ok,am,t,f⟩;exact⟨e,M,_,ok,am,t,fun xs M1 h1 vs H1 k1 a1 r1 =>
  ⟨xs++dds,M1,R,Y,r1.append (hdd H1),a1,h1,f.mono k1,hY H1⟩⟩)
end
section
variable {X:Cx} {st:Stmt} {m9:List Stmt} {t u:DTS} {e:Expr} {te:DTE} {pos:Pos}
def Ap:DTS:=fun F e M=>F.nx e M
def Fb(t u:DTS):DTS:=fun F e M=>t { F with nx:=u F } e M
theorem j3:JSs X [] Ap:=⟨xI.imp (by rintro E σ H ⟨e,M,F,ok,am,t,f⟩;exact f.nx e M t σ H (KT.refl H) am ok)⟩
theorem d7(h1:JS X st t)(h2:JSs X m9 u):JSs X (st :: m9) (Fb t u):=⟨have h1:=h1.out;have h2:=h2.out;(jD h1 h2).imp (by rintro E σ H ⟨e,M,F,ok,am,t,f⟩;exact⟨e,M,{ F with nx:=u F },ok,am,t,⟨fun e' M' h σ' H' k a o=>⟨e',M',F,o,a,h,f.mono k⟩,f.rt,f.bk,f.ct⟩⟩)⟩
theorem d8(h1:JS X st t):JSs X [st] t:=⟨have h1:=h1.out;xH h1⟩
def Ar(te:DTE):DTS:=fun F e M=>te e M fun _ M1=>F.nx e M1
theorem W2(he:JE X e te)(hs:swapsWith e none pos.line X.env=pure false:=by rfl):JS X (.Expr e pos) (Ar te):=⟨have he:=he.out;(xK he hs).imp (by rintro E σ H ⟨e,M,F,ok,am,t,f⟩;exact⟨e,M,_,ok,am,t,fun d M1 h1 v H1 k1 a1 r1=>f.nx e M1 h1 σ H1 k1 a1 (ok.mono k1)⟩)⟩
def Fc(te:DTE):DTS:=fun F e M=>te e M F.rt
theorem e6(he:JE X e te):JS X (.Return (some e) pos) (Fc te):=⟨have he:=he.out;(BA he).imp (by rintro E σ H ⟨e,M,F,ok,am,t,f⟩;exact⟨e,M,_,ok,am,t,f.rt⟩)⟩
def Fg(c:DTT)(t u:DTS):DTS:=fun F e M=>c e M fun b M1=>if b=true then t F e M1 else u F e M1
theorem o6{c:Expr}{a b:List Stmt}{tc:DTT}(hc:JT X c tc)(ha:JSs X a t)(hb:JSs X b u):JS X (.If c a b pos) (Fg tc t u):=⟨have hc:=hc.out;have ha:=ha.out;have hb:=hb.out;(Ek hc ha hb).imp (by rintro E σ H ⟨e,M,F,ok,am,t,f⟩;exact⟨e,M,_,ok,am,t,fun k M1 h1 H1 k1 a1=>by
  cases k with
  | true=>exact⟨e,M1,F,ok.mono k1,a1,h1,f.mono k1⟩
  | false=>exact⟨e,M1,F,ok.mono k1,a1,h1,f.mono k1⟩⟩)⟩
def vk:DTS:=fun _ _ _=>False
theorem qh:JS X st vk:=⟨tN.imp (by rintro E σ H ⟨_,_,_,_,_,t,_⟩;exact t)⟩
noncomputable abbrev DTG:=D→Ev→Mem→(Ev→Mem→Prop)→Prop
noncomputable abbrev O4:=List D→Ev→Mem→(Ev→Mem→Prop)→Prop
def upG(K:Iy)(g:DTG):TG:=fun v σ H Q=>∃ d e M R,Has K H v d∧t7 K H σ e∧j7 K H M∧g d e M R∧kG K H R Q
def FG(K:Iy)(g:O4):TGs:=fun vs σ H Q=>∃ ds e M R,HasL K H vs ds∧t7 K H σ e∧j7 K H M∧g ds e M R∧kG K H R Q
abbrev DPG(X:Cx)(x:Expr)(g:DTG):Prop:=PG X x (upG X.K g)
abbrev Gx(X:Cx)(x:List Expr)(g:O4):Prop:=PGs X x (FG X.K g)
structure JG(X:Cx)(x:Expr)(g:DTG):Prop where
 out:DPG X x g
structure JGs(X:Cx)(x:List Expr)(g:O4):Prop where
 out:Gx X x g
def S1(i:Nat):DTG:=fun d e M R=>R (e.set i (some d)) M
theorem uE{i:Nat}{x:Str}(hN:X.N.Nodup)(hi:X.N[i]? = some x)(hx:Loc X.env.scope x)(hf:X.fn x=true∨X.env.scope.names.lookup x=some .local:=by first|exact .inl rfl|exact .inr rfl|assumption):JG X (.Name x pos) (S1 i):=⟨PG.imp (xT hN hi hx hf) (by rintro v σ H Q ⟨d,e,M,R,r,ok,am,g,f⟩;exact f _ M g _ H (KT.refl H) am (ok.set r i))⟩
def Ak:O4:=fun ds e M R=>ds=[]∧R e M
def vd(t:DTG)(u:O4):O4:=fun ds e M R=>∃ d r,ds=d :: r∧t d e M fun e' M'=>u r e' M' R
theorem m8:JGs X [] Ak:=⟨PGs.imp xR (by
 rintro v σ H Q ⟨ds,e,M,R,r,ok,am,⟨z,g⟩,f⟩
 subst z;cases r;exact⟨rfl,f e M g σ H (KT.refl H) am ok⟩)⟩
end
section
variable {X:Cx} {st:Stmt} {m9:List Stmt} {t u:DTS} {e:Expr} {te:DTE} {pos:Pos}
theorem e7{x:Expr}{xs:List Expr}{t:DTG}{u:O4}(h1:JG X x t)(h2:JGs X xs u)
  (hs:(assignEach (x :: xs) X.env).map (·.2)=assign x X.env :: (assignEach xs X.env).map (·.2):=by rfl):JGs X (x :: xs) (vd t u):=⟨have h1:=h1.out;have h2:=h2.out;PGs.imp (tQ h1 h2 hs) (by
  rintro vs σ H Q ⟨ds,e,M,R,r,ok,am,⟨d,dr,z,g⟩,f⟩
  subst z
  cases r with
  | cons r rr=>exact⟨_,_,rfl,d,e,M,_,r,ok,am,g,fun e1 M1 h1 σ1 H1 k1 a1 ok1=>⟨dr,e1,M1,R,rr.mono k1,ok1,a1,h1,f.mono k1⟩⟩)⟩
def kg(n:Nat)(t:O4):DTG:=fun d e M R=>∃ ds,d = .tup ds∧ds.length=n∧t ds e M R
theorem q9{xs:List Expr}{k:Nat}{t:O4}{n:Nat}(hc:X.calm=true)(h:JGs X xs t)
  (hn:(assignEach xs X.env).length=n:=by rfl) (hst:(assignEach xs X.env).findIdx? (·.1)=none:=by rfl):JG X (.Tuple xs k pos) (kg n t):=⟨have h:=h.out;PG.imp (BG hc h hn hst) (by
  rintro v σ H Q ⟨d,e,M,R,r,ok,am,⟨ds,z,hl,g⟩,f⟩
  subst z
  cases r with
  | tup s l=>exact⟨_,_,rfl,s,by rw[l.length];exact hl,ds,e,M,R,l,ok,am,g,f⟩)⟩
noncomputable abbrev vU:=D→D→D→Mem→(Mem→Prop)→Prop
noncomputable def EL:vU:=fun o i v M R=>∃ p ds k j,o = .ref p∧i = .int k∧M p=some (.lst ds)∧ixN ds.length k=some j∧R (B7 M p (.lst (ds.set j v)))
def Aj(to ti:DTE)(t:vU):DTG:=fun d e M R=>to e M fun o M1=>ti e M1 fun i M2=>t o i d M2 fun M3=>R e M3
theorem ox{o i:Expr}{to ti:DTE}(ho:JE X o to)(hi:JE X i ti)
  (ha:∀ v,assign (.Subscript o i pos) X.env v=(do
   let ov ← holding [v] (eval o X.env)
   let iv ← holding [v,ov] (eval i X.env)
   standAt pos
   holding [v,ov,iv] (setItem ov iv v)
   release [v,ov,iv] []):=by intro _;rfl):JG X (.Subscript o i pos) (Aj to ti EL):=⟨have ho:=ho.out;have hi:=hi.out;PG.imp (BH ho hi sN ha) fun v σ H Q ⟨d,e,M,R,r,ok,am,g,f⟩ =>
  ⟨e,M,_,ok,am,g,fun x M1 h1 vo H1 k1 a1 r1=>⟨e,M1,_,ok.mono k1,a1,h1,fun y M2 ⟨p,ds,k,j,e1,e2,e3,e4,h2⟩ vi H2 k2 a2 r2=>by
   subst e1;subst e2
   cases r1;cases r2
   obtain⟨xs,hx,l⟩:=a2.lst e3
   have kt:KT H H2:=k1.trans k2
   have kw:KT H2 (upd H2 p (.lst (xs.set j v))):=KT.write hx
   exact⟨p,xs,k,j,rfl,rfl,hx,by rw[l.length];exact e4,f e _ h2 σ _ (kt.trans kw) (a2.write hx (l.set (r.mono kt) j)) ((ok.mono kt).mono kw)⟩⟩⟩⟩
def vn(te:DTE)(g:DTG):DTS:=fun F e M=>te e M fun x M1=>g x e M1 F.nx
theorem A1{tg x:Expr}{tx:DTE}{g:DTG}(he:JE X x tx)(hg:JG X tg g)(hs:swapsWithSole [tg] x pos.line X.env=pure false:=by rfl)(hw:swappedStores [tg] x X.env=pure none:=by rfl)
  (h1:(assignEach [tg] X.env).map (·.2)=[assign tg X.env]:=by rfl):JS X (.Assign [tg] x pos) (vn tx g):=⟨have he:=he.out;have hg:=hg.out;(BD he hg hs hw h1).imp (by rintro E σ H ⟨e,M,F,ok,am,t,f⟩;exact⟨e,M,_,ok,am,t,fun d M1 h1 v H1 k1 a1 r1=>⟨d,e,M1,F.nx,r1,ok.mono k1,a1,h1,f.nx.mono k1⟩⟩)⟩
theorem yv{i:Nat}{x:Str}{tx:DTE}{pos':Pos}(hN:X.N.Nodup)(hi:X.N[i]? = some x)(hx:Loc X.env.scope x)(he:JE X e tx)(hs:swapsWith e (some (.Name x pos')) pos.line X.env=pure false:=by rfl)(hf:X.fn x=true∨X.env.scope.names.lookup x=some .local:=by first|exact .inl rfl|exact .inr rfl|assumption):JS X (.Assign [.Name x pos'] e pos) (vn tx (S1 i)):=⟨have he:=he.out;(Bz hN hi hx he hs hf).imp (by rintro E σ H ⟨e,M,F,ok,am,t,f⟩;exact⟨e,M,_,ok,am,t,fun d M1 h1 v H1 k1 a1 r1=>f.nx _ M1 h1 _ H1 k1 a1 ((ok.mono k1).set r1 i)⟩)⟩
def Fd(i j:Nat)(ta:DTA):DTS:=fun F e M=>ta e M fun ds M1=>∃ x y,ds=[x,y]∧F.nx ((e.set i (some x)).set j (some y)) M1
theorem bg{i j:Nat}{x y:Str}{a b:Expr}{ta:DTA}{px py pt:Pos}{kt k2 pt2}(hc:X.calm=true)(hN:X.N.Nodup)(hi:X.N[i]? = some x)(hj:X.N[j]? = some y)(hij:i≠j)
  (hx:X.env.scope.names.lookup x=some .local) (hy:X.env.scope.names.lookup y=some .local) (ha:JA X [a,b] ta)
  (hw:swappedStores [.Tuple [.Name x px,.Name y py] kt pt] (.Tuple [a,b] k2 pt2) X.env=pure (some [x,y]):=by rfl)
  (hs:swapsWithSole [.Tuple [.Name x px,.Name y py] kt pt] (.Tuple [a,b] k2 pt2) pos.line X.env=pure false:=by rfl):JS X (.Assign [.Tuple [.Name x px,.Name y py] kt pt] (.Tuple [a,b] k2 pt2) pos) (Fd i j ta):=⟨have ha:=ha.out;(BB hc hN hi hj hij hx hy ha hw hs).imp (by rintro E σ H ⟨e,M,F,ok,am,t,f⟩;exact⟨e,M,_,ok,am,t,fun ds M1 ⟨x,y,z,h1⟩ vs H1 k1 a1 r1=>by
  subst z
  cases r1 with
  | cons r1 rr =>
   cases rr with
   | cons r2 rr =>
    cases rr
    exact⟨_,_,rfl,f.nx _ M1 h1 _ H1 k1 a1 (((ok.mono k1).set r1 i).set r2 j)⟩⟩)⟩
def vj(c:DTT)(tb:DTS):DTS:=fun F e M=>∃ W:Nat→Ev→Mem→Prop,(∃ m,W m e M)∧∀ m e M,W m e M →
 c e M fun b M1=>if b=true then tb { F with nx:=fun e' M'=>∃ m',m'<m∧W m' e' M',ct:=fun e' M'=>∃ m',m'<m∧W m' e' M',bk:=F.nx } e M1 else F.nx e M1
theorem Z3{c:Expr}{body:List Stmt}{tc:DTT}{tb:DTS}(hp:PassesOwn (model X.prog X.w) X.A X.env X.xe)(hc:JT X c tc)(hb:JSs X body tb):JS X (.While c body [] pos) (vj tc tb):=⟨have hc:=hc.out;have hb:=hb.out;(tM hp hc hb).imp (by
  rintro E σ H ⟨e,M,F,ok,am,⟨W,⟨m0,w0⟩,turn⟩,f⟩
  refine⟨fun m σ' H'=>∃ e' M',KT H H'∧t7 X.K H' σ' e'∧j7 X.K H' M'∧W m e' M',⟨m0,e,M,KT.refl H,ok,am,w0⟩,?_⟩
  rintro m σ1 H1 ⟨e1,M1,k1,ok1,a1,w1⟩
  refine⟨e1,M1,_,ok1,a1,turn m e1 M1 w1,fun b M2 h2 H2 k2 a2=>?_⟩
  cases b with
  | false=>exact f.nx e1 M2 h2 σ1 H2 (k1.trans k2) a2 (ok1.mono k2)
  | true =>
   refine⟨fun σ' H'=>∃ m',m'<m∧∃ e' M',KT H H'∧t7 X.K H' σ' e'∧j7 X.K H' M'∧W m' e' M',fun σ' H' h=>h,e1,M2,_,ok1.mono k2,a2,h2,?_⟩
   have kk:=k1.trans k2
   exact⟨fun e' M' ⟨m',l,w⟩ σ' H' k' a' o'=>⟨m',l,e',M',kk.trans k',o',a',w⟩,f.rt.mono kk,f.nx.mono kk,fun e' M' ⟨m',l,w⟩ σ' H' k' a' o'=>⟨m',l,e',M',kk.trans k',o',a',w⟩⟩)⟩
noncomputable abbrev DTI:=Ev→Mem→(List D→(Mem→Prop)→Mem→Prop)→Prop
def Fi(ti:DTI)(g:DTG)(tb:DTS):DTS:=fun F e M=>ti e M fun ds stay M1=>∃ W:Nat→Ev→Mem→Prop,W 0 e M1∧(∀ i e M,i≤ds.length→W i e M→stay M) ∧
 (∀(i:Nat) (d:D) e M,ds[i]? = some d→W i e M→g d e M fun e2 M2=>tb { F with nx:=W (i+1),ct:=W (i+1),bk:=F.nx } e2 M2)∧∀ e M,W ds.length e M→F.nx e M
noncomputable def K6(lo:Int)(n:Nat):List D:=(JK n).map fun(i:Nat)=>D.int (lo+(i:Int))
theorem D2(lo:Int)(n:Nat):(K6 lo n).length=n:=by simp[K6]
theorem lH{lo:Int}{n i:Nat}(h:i<n):(K6 lo n)[i]? = some (D.int (lo+(i:Int))):=by simp[K6,h]
def Ai(ta:DTA):DTI:=fun e M R=>ta e M fun ds M1=>∃ j:Int,ds=[.int j]∧-(2 ^ 62)≤j∧j<2 ^ 62∧R (K6 0 j.toNat) (fun _=>True) M1
theorem uV{K:Iy}{H H1 H2:Hp}{F:X4}{E:kH}{W:Nat→Ev→Mem→Prop}{g:DTG}{tb:DTS}{i:Nat}{x:V}{d:D}{σ2:St}{e2:Ev}{M2:Mem}(f:Fit K H F E)(k1:KT H H1)(k2:KT H1 H2)(ok2:t7 K H2 σ2 e2)(a2:j7 K H2 M2)(r:Has K H2 x d)
  (h:g d e2 M2 fun e3 M3=>tb { F with nx:=W (i+1),ct:=W (i+1),bk:=F.nx } e3 M3) :
  upG K g x σ2 H2 fun σ3 H3=>upS K tb { E with nx:=fun σ' H'=>∃ e' M',KT H1 H'∧t7 K H' σ' e'∧j7 K H' M'∧W (i+1) e' M',ct:=fun σ' H'=>∃ e' M',KT H1 H'∧t7 K H' σ' e'∧j7 K H' M'∧W (i+1) e' M',bk:=E.nx } σ3 H3:=by
 refine⟨d,e2,M2,_,r,ok2,a2,h,fun e3 M3 h3 σ3 H3 k3 a3 ok3=>⟨e3,M3,_,ok3,a3,h3,?_⟩⟩
 have kk:KT H H3:=k1.trans (k2.trans k3)
 exact⟨fun e' M' w σ' H' k' a' o'=>⟨e',M',k2.trans (k3.trans k'),o',a',w⟩,f.rt.mono kk,f.nx.mono kk,fun e' M' w σ' H' k' a' o'=>⟨e',M',k2.trans (k3.trans k'),o',a',w⟩⟩
variable {tg iter:Expr} {body:List Stmt} {ti:DTE} {ta:DTA} {g:DTG} {tb:DTS}
theorem Has.il{K:Iy}{H:Hp}{v:V}{ds:List D}(h:Has K H v (.vl ds)):∃ a xs,v = .ref a∧SqL K H a xs∧HasL K H xs ds:=by
 cases h with
 | vl h l=>exact⟨_,_,rfl,h.elim (fun⟨o,e⟩=>.inl (.inr ⟨o,e⟩)) (fun k=>k H),l⟩
end
section
variable {P:Program} {w:World} {K:Iy} {mg:Str→Option Value} {base:Heap}
end
section
variable {X:Cx} {x:Str} {p pos:Pos} {e:Expr} {es:List Expr} {t:DTA} {id T:String}
noncomputable abbrev DRC:=List D→Mem→DK→Prop
noncomputable def upC(K:Iy)(g:DRC):List V→Hp→VK→Prop:=fun xs H Q=>∃ ds M R,HasL K H xs ds∧j7 K H M∧g ds M R∧cY K H R Q
def ax(X:Cx)(f:Value)(g:DRC):Prop:=v9 X f (upC X.K g)
def dCB(g:DRC)(t:DTA):DTE:=fun e M R=>t e M fun ds M1=>g ds M1 R
theorem Fu{g:DRC}{σ:St}{H:Hp}{Q:VK}(h:up X.K (dCB g t) σ H Q):tCB (upC X.K g) (upA X.K t) σ H Q:=by
 obtain⟨e,M,R,ok,am,t,f⟩:=h
 exact⟨e,M,_,ok,am,t,fun ds M1 h1 vs H1 k1 a1 r1=>⟨ds,M1,R,r1,a1,h1,f.mono k1⟩⟩
theorem v9.imp{f:Value}{r r':List V→Hp→VK→Prop}(h:v9 X f r)(i:∀ xs H Q,r' xs H Q→r xs H Q):v9 X f r':=fun pins s σ H xs us Q I rv q=>h pins s σ H xs us Q I rv (i xs H Q q)
theorem HasL.one{K:Iy}{H:Hp}{vs:List V}{d:D}(h:HasL K H vs [d]):∃ v,vs=[v]∧Has K H v d:=by
 cases h with
 | cons r rr=>cases rr;exact⟨_,rfl,r⟩
theorem HasL.two{K:Iy}{H:Hp}{vs:List V}{d d':D}(h:HasL K H vs [d,d']):∃ v v',vs=[v,v']∧Has K H v d∧Has K H v' d':=by
 cases h with
 | cons r rr=>cases rr with|cons r2 rr=>cases rr;exact⟨_,_,rfl,r,r2⟩
def ES:DRC:=fun ds M R=>∃ i:Int,ds=[.int i]∧R (.int (i.natAbs:Int)) M
theorem eW:ax X (.builtin "abs") ES:=v9.imp vD (by
 rintro xs H Q ⟨ds,M,R,hl,am,⟨i,z,r⟩,f⟩
 subst z
 obtain⟨v,rfl,h⟩:=hl.one
 cases h
 have e:(if i<0 then -i else i)=(i.natAbs:Int):=by split<;>omega
 exact⟨i,rfl,by rw[e];exact f _ M r _ H (KT.refl H) am (.int _)⟩)
def EM:DRC:=fun ds M R=>∃ i j:Int,ds=[.int i,.int j]∧R (.int (max i j)) M
theorem AD(hc:X.calm=true):ax X (.builtin "max") EM:=v9.imp (qr hc) (by
 rintro xs H Q ⟨ds,M,R,hl,am,⟨i,j,z,r⟩,f⟩
 subst z
 obtain⟨v,v',rfl,h,h'⟩:=hl.two
 cases h;cases h'
 have e:(if j > i then j else i)=max i j:=by
  rw[Int.max_def];split<;>split<;>omega
 exact⟨i,j,rfl,by rw[e];exact f _ M r _ H (KT.refl H) am (.int _)⟩)
noncomputable def Ci(M:Mem):D→Option Nat
 | .tup ds=>some ds.length
 | .ref p=>match M p with
  | some (.lst ds)=>some ds.length
  | _=>none
 | .vl ds=>some ds.length
 | _=>none
def ql:DRC:=fun ds M R=>∃ d n,ds=[d]∧Ci M d=some n∧R (.int (n:Int)) M
theorem pf:ax X (.builtin "len") ql:=v9.imp ij (by
 rintro xs H Q ⟨ds,M,R,hl,am,⟨d,n,z,hn,r⟩,f⟩
 subst z
 obtain⟨v,rfl,h⟩:=hl.one
 cases d with
 | tup es =>
  cases h with
  | tup s l =>
   cases hn
   exact⟨_,_,rfl,.inr s,by rw[l.length];exact f _ M r _ H (KT.refl H) am (.int _)⟩
 | ref p =>
  cases h
  unfold Ci at hn
  cases q:M p with
  | none=>simp[q]at hn
  | some o =>
   cases o with
   | lst es =>
    simp only[q]at hn
    cases hn
    obtain⟨ys,hy,l⟩:=am.lst q
    exact⟨p,ys,rfl,.inl (SqL.of hy),by rw[l.length];exact f _ M r _ H (KT.refl H) am (.int _)⟩
   | ins C fs=>simp[q]at hn
 | vl es =>
  cases hn
  obtain⟨a,xs,rfl,sq,l⟩:=h.il
  exact⟨a,_,rfl,.inl sq,by rw[l.length];exact f _ M r _ H (KT.refl H) am (.int _)⟩
 | _=>cases hn)
end
theorem Z6:bootBuiltins "abs" = some (.builtin "abs"):=by decide +kernel
theorem vG:bootBuiltins "max" = some (.builtin "max"):=by decide +kernel
theorem ik:bootBuiltins "len" = some (.builtin "len"):=by decide +kernel
theorem Q2:bootBuiltins "isinstance" = some (.builtin "isinstance"):=by decide +kernel
theorem CN:bootBuiltins "int" = some (.type "int"):=by decide +kernel
theorem yK:bootBuiltins "bool" = some (.type "bool"):=by decide +kernel
theorem bo:bootBuiltins "list" = some (.type "list"):=by decide +kernel
theorem kA:bootBuiltins "reversed" = some (.type "reversed"):=by decide +kernel
section
variable {X:Cx} {a b c:Expr} {ta tb tc:DTE} {pos:Pos}
theorem xZ:OpR X (binaryOp .Mult) (rI IntMulOk fun i j=>.int (i*j)):=opI fun _ _ _ _ _ _ _ hc q=>mul_int q hc
def CFd(i j:Int):Prop:=j≠0∧j.natAbs.log2<9000
theorem ua:OpR X (binaryOp .FloorDiv) (rI CFd fun i j=>.int (i.fdiv j)):=opI fun _ _ _ _ _ _ _ hc q=>floordiv_int hc.1 q (.inl (PyProof.noPylong_of_log2 hc.2))
theorem i6:DOp X (binaryOp .Mult) (gI IntMulOk fun i j=>.int (i*j)):=kf xZ fun _ _ _=>.int _
theorem Z0:DOp X (binaryOp .FloorDiv) (gI CFd fun i j=>.int (i.fdiv j)):=kf ua fun _ _ _=>.int _
noncomputable def ixD(M:Mem):D→D→Option D
 | .tup ds,.int i=>atI ds i
 | .ref p,.int i=>match M p with
  | some (.lst ds)=>atI ds i
  | _=>none
 | .vl ds,.int i=>atI ds i
 | _,_=>none
def gIx:DR2:=fun x y M R=>∃ z,ixD M x y=some z∧R z M
theorem IxR.or'{r r':R2}(h:IxR X r)(h':IxR X r'){g:R2}(i:∀ x y H Q,g x y H Q→r x y H Q∨r' x y H Q):IxR X g:=IxR.imp (IxR.or h h') i
theorem EH:DIx X gIx:=IxR.or' Cq yy (by
 rintro x y H Q ⟨dx,dy,M,R,hx,hy,am,⟨z,e,r⟩,f⟩
 cases dy with
 | int i =>
  cases hy
  cases dx with
  | tup ds =>
   cases hx with
   | tup s l =>
    obtain⟨v,h1,h2⟩:=l.at (show atI ds i=some z from e)
    exact .inl ⟨_,_,i,v,rfl,rfl,s,h1,f z M r v H (KT.refl H) am h2⟩
  | ref p =>
   cases hx
   unfold ixD at e
   cases q:M p with
   | none=>simp[q]at e
   | some o =>
    cases o with
    | lst ds =>
     simp only[q]at e
     obtain⟨xs,h1,h2⟩:=am.lst q
     obtain⟨v,h3,h4⟩:=h2.at e
     exact .inr ⟨_,_,i,v,rfl,rfl,SqL.of h1,h3,f z M r v H (KT.refl H) am h4⟩
    | ins C fs=>simp[q]at e
  | vl ds =>
   obtain⟨a,xs,rfl,sq,l⟩:=hx.il
   obtain⟨v,h1,h2⟩:=l.at (show atI ds i=some z from e)
   exact .inr ⟨_,_,i,v,rfl,rfl,sq,h1,f z M r v H (KT.refl H) am h2⟩
  | _=>simp[ixD]at e
 | _=>cases dx<;>simp[ixD]at e)
theorem G7{M:Mem}{p:Addr}{ds:List D}{i:Int}{z:D}(m:M p=some (.lst ds))(h:atI ds i=some z):ixD M (.ref p) (.int i)=some z:=by
 unfold ixD;simp only[m];exact h
noncomputable def isD:D→D→Option Bool
 | .bl a,.bl b=>some (a == b)
 | .non,.non=>some true
 | .bl _,.non=>some false
 | .int _,.non=>some false
 | .str _,.non=>some false
 | .ref _,.non=>some false
 | .tup _,.non=>some false
 | .vl _,.non=>some false
 | .exc _,.non=>some false
 | _,_=>none
theorem eP{x y:D}{b:Bool}(h:isD x y=some b):(∃ p q,x = .bl p∧y = .bl q∧b=(p == q))∨(y = .non∧((x = .non∧b=true)∨(x ≠ .non∧b=false))):=by
 cases x<;>cases y<;>simp[isD]at h<;>simp[h]
theorem oI{K:Iy}{H:Hp}{v:V}{x:D}(h:Has K H v x)(n:x ≠ .non):v ≠ .non:=by
 intro e;subst e;cases h;exact n rfl
def gIs(neg:Bool):DR2:=fun x y M R=>∃ b,isD x y=some b∧R (.bl (neg.xor b)) M
theorem pW:DOp X (compareOp .Is) (gIs false):=by
 intro pins s σ H x y v u Q I rx ry h
 obtain⟨dx,dy,M,R,hx,hy,am,⟨b,e,r⟩,f⟩:=h
 have fin:EP X pins σ Q (.bool b) s:=⟨.bl b,H,I,rfl,by have:=f _ M r (.bl b) H (KT.refl H) am (by simpa using Has.bl (K:=X.K) (H:=H) b);exact this⟩
 rcases eP e with⟨p,q,rfl,rfl,rfl⟩|⟨rfl,hx'⟩
 ·cases hx;cases hy;cases rx;cases ry
  exact is_bool fin
 ·cases hy;cases ry
  refine is_none_gen ?_
  rw[j6.none_iff rx]
  rcases hx' with⟨rfl,rfl⟩|⟨n,rfl⟩
  ·cases hx;exact fin
  ·rw[decide_eq_false (oI hx n)];exact fin
theorem yi:DOp X (compareOp .IsNot) (gIs true):=by
 intro pins s σ H x y v u Q I rx ry h
 obtain⟨dx,dy,M,R,hx,hy,am,⟨b,e,r⟩,f⟩:=h
 have fin:EP X pins σ Q (.bool (!b)) s:=⟨.bl (!b),H,I,rfl,by have:=f _ M r (.bl (!b)) H (KT.refl H) am (by simpa using Has.bl (K:=X.K) (H:=H) (!b));exact this⟩
 rcases eP e with⟨p,q,rfl,rfl,rfl⟩|⟨rfl,hx'⟩
 ·cases hx;cases hy;cases rx;cases ry
  exact isnot_bool fin
 ·cases hy;cases ry
  refine isnot_none_gen ?_
  rw[j6.none_iff rx]
  rcases hx' with⟨rfl,rfl⟩|⟨n,rfl⟩
  ·cases hx;exact fin
  ·rw[decide_eq_false (oI hx n)];exact fin
mutual
inductive PyR (M:Mem):D→PyData→Prop
 | non:PyR M .non .none
 | bl (b:Bool):PyR M (.bl b) (.bool b)
 | int (i:Int):PyR M (.int i) (.int i)
 | str (x:Str):PyR M (.str x) (.str x)
 | tup {ds:List D} {ps:List PyData}:PyRL M ds ps→PyR M (.tup ds) (.tuple ps)
 | lst {p:Addr} {ds:List D} {ps:List PyData}:M p=some (.lst ds)→PyRL M ds ps→PyR M (.ref p) (.list ps)
 | vl {ds:List D} {ps:List PyData}:PyRL M ds ps→PyR M (.vl ds) (.list ps)
inductive PyRL (M:Mem):List D→List PyData→Prop
 | nil:PyRL M [] []
 | cons {d:D} {p:PyData} {ds:List D} {ps:List PyData}:PyR M d p→PyRL M ds ps→PyRL M (d :: ds) (p :: ps)
end
mutual
theorem cm{pins:List (Addr × Obj)}{s:Shared}{σ:St}{H:Hp}{M:Mem}(I:Inv X pins σ H s)(am:j7 X.K H M):∀{d:D} {p:PyData},PyR M d p→∀{v:V} {u:Value},Has X.K H v d→j6 v u→∃ as,Reads s.heap u p as
 | _,_,.non,_,_,h,r=>by cases h;cases r;exact⟨_,.none⟩
 | _,_,.bl b,_,_,h,r=>by cases h;cases r;exact⟨_,.bool b⟩
 | _,_,.int i,_,_,h,r=>by cases h;obtain⟨t,rfl⟩:=r;exact⟨_,.int i t⟩
 | _,_,.str x,_,_,h,r=>by cases h;obtain⟨t,rfl⟩:=r;exact⟨_,.str x t⟩
 | _,_,.tup l,_,_,h,r=>by
  cases h with
  | tup s' hl =>
   cases r
   obtain⟨its,rv,⟨o,e,hc,n,hd⟩,_⟩:=I.tuple s'
   obtain⟨as,ra⟩:=readsL_of I am l hl rv
   exact⟨as,.tuple e hc hd (by simpa using ra)⟩
 | _,_,.lst m l,_,_,h,r=>by
  cases h
  cases r
  obtain⟨xs,hx,hl⟩:=am.lst m
  obtain⟨its,rv,⟨o,n,e,hc,_,hd⟩,_⟩:=I.list (SqL.of hx)
  obtain⟨as,ra⟩:=readsL_of I am l hl rv
  exact⟨_,.list e hc hd (by simpa using ra)⟩
 | _,_,.vl l,_,_,h,r=>by
  obtain⟨a,xs,rfl,sq,hl⟩:=h.il
  cases r
  obtain⟨its,rv,⟨o,n,e,hc,_,hd⟩,_⟩:=I.list sq
  obtain⟨as,ra⟩:=readsL_of I am l hl rv
  exact⟨_,.list e hc hd (by simpa using ra)⟩
theorem readsL_of{pins:List (Addr × Obj)}{s:Shared}{σ:St}{H:Hp}{M:Mem}(I:Inv X pins σ H s)(am:j7 X.K H M):∀{ds:List D} {ps:List PyData},PyRL M ds ps→∀{vs:List V} {us:List Value},HasL X.K H vs ds→i5 vs us→∃ as,ReadsAll s.heap us ps as
 | _,_,.nil,_,_,h,r=>by cases h;cases r;exact⟨_,.nil⟩
 | _,_,.cons a l,_,_,h,r=>by
  cases h with
  | cons h hl =>
   cases r with
   | cons r rl =>
    obtain⟨as,q⟩:=cm I am a h r
    obtain⟨bs,q2⟩:=readsL_of I am l hl rl
    exact⟨_,.cons q q2⟩
end
def gEq(neg:Bool):DR2:=fun x y M R=>∃ px py,PyR M x px∧PyR M y py∧SeqAt.shaped px=true∧SeqAt.shaped py=true∧R (.bl (neg.xor (PyData.eqv px py))) M
theorem Ga(hu:X.A.units+64<cLine):DOp X (compareOp .NotEq) (gEq true):=by
 intro pins s σ H x y v u Q I rx ry h
 obtain⟨dx,dy,M,R,hx,hy,am,⟨px,py,p1,p2,s1,s2,r⟩,f⟩:=h
 obtain⟨as,r1⟩:=cm I am p1 hx rx
 obtain⟨bs,r2⟩:=cm I am p2 hy ry
 exact ne_dataH r1 r2 s1 s2 hu ⟨.bl _,H,I,rfl,by have:=f _ M r _ H (KT.refl H) am (.bl _);simpa using this⟩
mutual
noncomputable def pyD:D→PyData
 | .int i=>.int i
 | .str x=>.str x
 | .bl b=>.bool b
 | .tup ds=>.tuple (pyDL ds)
 | .vl ds=>.list (pyDL ds)
 | _=>.none
noncomputable def pyDL:List D→List PyData
 | []=>[]
 | d :: r=>pyD d :: pyDL r
end
mutual
noncomputable def cl:Nat→D→Bool
 | _,.int _=>true
 | _,.non=>true
 | _,.str x=>PyData.canLay0 (.str x)
 | k+1,.tup ds=>clL k ds
 | k+1,.vl ds=>clL k ds
 | _,_=>false
noncomputable def clL:Nat→List D→Bool
 | _,[]=>true
 | k,d :: r=>cl k d && clL k r
end
mutual
theorem vz{M:Mem}:∀{k:Nat} {d:D},cl k d=true→PyR M d (pyD d)∧(pyD d).canLay0=true∧(pyD d).depth≤k
 | _,.int i,_=>⟨.int i,rfl,Jr _⟩
 | _,.non,_=>⟨.non,rfl,Jr _⟩
 | 0,.tup ds,h=>by simp[cl]at h
 | k+1,.tup ds,h=>by
  obtain⟨a,b,c⟩:=clL_py (M:=M) (k:=k) (ds:=ds) (by simpa[cl]using h)
  exact⟨.tup a,by simpa[pyD,PyData.canLay0]using b,by simp only[pyD,PyData.depth];omega⟩
 | _,.str x,h=>⟨.str x,by simpa[cl,pyD]using h,Jr _⟩
 | _,.bl _,h=>by simp[cl]at h
 | _,.ref _,h=>by simp[cl]at h
 | 0,.vl ds,h=>by simp[cl]at h
 | k+1,.vl ds,h=>by
  obtain⟨a,b,c⟩:=clL_py (M:=M) (k:=k) (ds:=ds) (by simpa[cl]using h)
  exact⟨.vl a,by simpa[pyD,PyData.canLay0]using b,by simp only[pyD,PyData.depth];omega⟩
 | _,.ty _,h=>by simp[cl]at h
theorem clL_py{M:Mem}:∀{k:Nat} {ds:List D},clL k ds=true→PyRL M ds (pyDL ds)∧PyData.canLayAll0 (pyDL ds)=true∧PyData.depthAll (pyDL ds)≤k
 | _,[],_=>⟨.nil,rfl,Jr _⟩
 | k,d :: r,h=>by
  have h':cl k d=true∧clL k r=true:=by simpa[clL]using h
  obtain⟨a,b,c⟩:=vz (M:=M) h'.1
  obtain⟨a2,b2,c2⟩:=clL_py (M:=M) h'.2
  exact⟨.cons a a2,by simp[pyDL,PyData.canLayAll0,b,b2],by simp only[pyDL,PyData.depthAll];omega⟩
end
mutual
theorem vC:∀{k j:Nat} {x y:D},cl k x=true→cl j y=true→(PyData.eqv (pyD x) (pyD y)=true↔x=y)
 | _,_,.int i,.int j,_,_=>by simp[pyD,PyData.eqv]
 | _,_,.int i,.non,_,_=>by simp[pyD,PyData.eqv]
 | _,_,.non,.int i,_,_=>by simp[pyD,PyData.eqv]
 | _,_,.non,.non,_,_=>by simp[pyD,PyData.eqv]
 | _,_,.int i,.tup ds,_,_=>by simp[pyD,PyData.eqv]
 | _,_,.non,.tup ds,_,_=>by simp[pyD,PyData.eqv]
 | _,_,.tup ds,.int i,_,_=>by simp[pyD,PyData.eqv]
 | _,_,.tup ds,.non,_,_=>by simp[pyD,PyData.eqv]
 | k+1,j+1,.tup ds,.tup es,h,h'=>by
  have:=clL_eqv (k:=k) (j:=j) (xs:=ds) (ys:=es) (by simpa[cl]using h) (by simpa[cl]using h')
  simp only[pyD,PyData.eqv,D.tup.injEq]
  exact this
 | 0,_,.tup ds,.tup es,h,_=>by simp[cl]at h
 | _,0,.tup ds,.tup es,_,h=>by simp[cl]at h
 | _,_,.str x,.str y,_,_=>by simp[pyD,PyData.eqv]
 | _,_,.str x,.int i,_,_=>by simp[pyD,PyData.eqv]
 | _,_,.str x,.non,_,_=>by simp[pyD,PyData.eqv]
 | _,_,.str x,.tup ds,_,_=>by simp[pyD,PyData.eqv]
 | _,_,.int i,.str x,_,_=>by simp[pyD,PyData.eqv]
 | _,_,.non,.str x,_,_=>by simp[pyD,PyData.eqv]
 | _,_,.tup ds,.str x,_,_=>by simp[pyD,PyData.eqv]
 | k+1,j+1,.vl ds,.vl es,h,h'=>by
  have:=clL_eqv (k:=k) (j:=j) (xs:=ds) (ys:=es) (by simpa[cl]using h) (by simpa[cl]using h')
  simp only[pyD,PyData.eqv,D.vl.injEq]
  exact this
 | 0,_,.vl ds,.vl es,h,_=>by simp[cl]at h
 | _,0,.vl ds,.vl es,_,h=>by simp[cl]at h
 | _,_,.vl ds,.int i,_,_=>by simp[pyD,PyData.eqv]
 | _,_,.vl ds,.non,_,_=>by simp[pyD,PyData.eqv]
 | _,_,.vl ds,.str x,_,_=>by simp[pyD,PyData.eqv]
 | _,_,.vl ds,.tup es,_,_=>by simp[pyD,PyData.eqv]
 | _,_,.int i,.vl ds,_,_=>by simp[pyD,PyData.eqv]
 | _,_,.non,.vl ds,_,_=>by simp[pyD,PyData.eqv]
 | _,_,.str x,.vl ds,_,_=>by simp[pyD,PyData.eqv]
 | _,_,.tup es,.vl ds,_,_=>by simp[pyD,PyData.eqv]
 | _,_,.bl _,_,h,_=>by simp[cl]at h
 | _,_,.ref _,_,h,_=>by simp[cl]at h
 | _,_,.ty _,_,h,_=>by simp[cl]at h
 | _,_,_,.bl _,_,h=>by simp[cl]at h
 | _,_,_,.ref _,_,h=>by simp[cl]at h
 | _,_,_,.ty _,_,h=>by simp[cl]at h
theorem clL_eqv:∀{k j:Nat} {xs ys:List D},clL k xs=true→clL j ys=true→(PyData.eqvAll (pyDL xs) (pyDL ys)=true↔xs=ys)
 | _,_,[],[],_,_=>by simp[pyDL,PyData.eqvAll]
 | _,_,[],_ :: _,_,_=>by simp[pyDL,PyData.eqvAll]
 | _,_,_ :: _,[],_,_=>by simp[pyDL,PyData.eqvAll]
 | k,j,x :: xs,y :: ys,h,h'=>by
  have h1:cl k x=true∧clL k xs=true:=by simpa[clL]using h
  have h2:cl j y=true∧clL j ys=true:=by simpa[clL]using h'
  have e1:=vC h1.1 h2.1
  have e2:=clL_eqv h1.2 h2.2
  simp only[pyDL,PyData.eqvAll,Kt,e1,e2,List.cons.injEq]
end
open Classical in
theorem Cu{neg:Bool}{x y:D}{M:Mem}{R:DK}(h:R (.bl (neg.xor (decide (x=y)))) M)(hx:cl 60 x=true:=by rfl)(hy:cl 60 y=true:=by rfl):gEq neg x y M R:=by
 obtain⟨a,b,c⟩:=vz (M:=M) hx
 obtain⟨a2,b2,c2⟩:=vz (M:=M) hy
 refine⟨_,_,a,a2,?_,?_,?_⟩
 ·simp only[SeqAt.shaped,b,Mw];exact decide_eq_true (by omega)
 ·simp only[SeqAt.shaped,b2,Mw];exact decide_eq_true (by omega)
 ·have e:PyData.eqv (pyD x) (pyD y)=decide (x=y):=by
   have:=vC hx hy
   by_cases q:x=y
   ·rw[decide_eq_true q];exact this.mpr q
   ·rw[decide_eq_false q]
    cases z:PyData.eqv (pyD x) (pyD y)with
    | false=>rfl
    | true=>exact absurd (this.mp z) q
  rw[e];exact h
noncomputable def tyD(M:Mem):D→Option String
 | .non=>some "NoneType"
 | .bl _=>some "bool"
 | .int _=>some "int"
 | .str _=>some "str"
 | .tup _=>some "tuple"
 | .ref p=>match M p with
  | some (.lst _)=>some "list"
  | _=>none
 | .vl _=>some "list"
 | .ty _=>none
 | .dic=>some "dict"
 | .exc _=>none
noncomputable def xk(t T:String):Option Bool:=if t=T then some true else
 match t,T with
 | "bool","int" => some true
 | _,_=>if (t∈["NoneType","bool","int","str","tuple","list","dict"])∧(T∈["bool","int","str","tuple","list"])then some false else none
def vL(K:Iy):Prop:=∀ t T b,xk t T=some b→PySem.W.kitOne K (.type t) (.type T)=some b
theorem Ae{x:Str}{n:String}(hg:Gl X x)(hm:X.mg x=none)(hv:bootBuiltins x=some (.type n))(hn:x ≠ "__name__" := by decide)(hd:(x == ("__debug__" : Str))=false:=by decide):JE X (.Name x pos) (dC (.ty n)):=⟨P7 (v:=.ty n) (xY hg hm hv rfl hn hd) fun _=>.ty n⟩
def u8:DRC:=fun ds M R=>∃ d t T b,ds=[d,.ty T]∧tyD M d=some t∧xk t T=some b∧R (.bl b) M
theorem AE(hk:vL X.K):ax X (.builtin "isinstance") u8:=by
 intro pins s σ H xs us Q I rv h
 obtain⟨ds,M,R,hl,am,⟨d,t,T,b,rfl,ht,hb,r⟩,f⟩:=h
 obtain⟨v,v',rfl,h1,h2⟩:=hl.two
 cases h2
 obtain⟨u,w',rfl,r1,r2⟩:=zT rv
 cases(show w'=Value.type T from r2)
 have e:=hk t T b hb
 have fin:∀ tk,EP X pins σ Q (.bool b) { s with toks:=tk }:=fun tk=>⟨.bl b,H,I.tok tk,rfl,f _ M r _ H (KT.refl H) am (.bl b)⟩
 cases h1 with
 | non=>cases ht;exact J8 I r1 .non e fin
 | bl q=>cases ht;exact J8 I r1 (.bl q) e fin
 | int q=>cases ht;exact J8 I r1 (.int q) e fin
 | str q=>cases ht;exact J8 I r1 (.str q) e fin
 | ty q=>cases ht
 | ref p =>
  unfold tyD at ht
  cases q:M p with
  | none=>simp[q]at ht
  | some o =>
   cases o with
   | lst es =>
    simp only[q]at ht
    cases ht
    obtain⟨ys,hy,_⟩:=am.lst q
    exact J8 I r1 (.lst hy) e fin
   | ins C fs=>simp[q]at ht
 | tup s' l =>
  cases ht
  cases(show u=Value.ref _ from r1)
  obtain⟨its,_,⟨o,h1,h2,_⟩,_⟩:=I.tuple s'
  exact PySem.W.kia_one PySem.W.kitx_tuple I.kIn ⟨o,h1,h2⟩ e (fun z=>nomatch z) fin
 | vl hq hl' =>
  cases ht
  cases(show u=Value.ref _ from r1)
  obtain⟨_,_,ea,sq,_⟩:=Has.il (.vl hq hl')
  cases ea
  obtain⟨its,_,⟨o,n,h1,h2,_⟩,_⟩:=I.list sq
  exact PySem.W.kia_one PySem.W.kitx_list I.kIn ⟨o,h1,h2⟩ e (fun z=>nomatch z) fin
 | dic hq =>
  cases ht
  cases(show u=Value.ref _ from r1)
  obtain⟨o,g1,g2⟩:=hq
  exact PySem.W.kia_one PySem.W.kitx_dict I.kIn ⟨o,(I.hok _ _ g1).1,g2⟩ e (fun z=>nomatch z) fin
 | exc hq=>cases ht
end
section
variable {X:Cx} {a b c:Expr} {ta tb tc:DTE} {pos:Pos}
def Y0:DXK:=fun _ _=>False
theorem Gq{K:Iy}{H:Hp}{E:XK}:Dd K H Y0 E:=fun _ _ h=>h.elim
structure yQ(K:Iy)(x:Str)(st:Stmt)(f:Addr)(fd:FuncData):Prop where
 ex:∃(oc:Value) (od:Option Addr) (dV kV doc pm:Value) (an:Option Addr) (cdv ct:Value) (osl:Array (Option Value)),
  fd=PySem.W.fnOf x x (L1 st) (E6 st) (d9 st) dV kV doc pm an cdv ct∧K.lookup f=some ⟨oc,od,.func fd,osl⟩∧PySem.W.codeIn K cdv x=true
 kp:PySem.W.keepIn K (.ref f)=true
structure Df(K:Iy)(mg:Str→Option Value)(x:Str)(st:Stmt)(ps:List Str):Prop where
 ex:∃(f:Addr) (fd:FuncData),yQ K x st f fd∧mg x=some (.ref f)∧cZ K fd ps []
structure DfL(K:Iy)(mg:Str→Option Value)(x:Str)(st:Stmt)(ps:List Str):Prop where
 ex:∃(f:Addr) (fd:FuncData),yQ K x st f fd∧mg x=some (.ref f)∧∀ us:List Value,us.length=ps.length→bindArgs fd ⟨us,[]⟩=pure (ps.zip us)
structure Fn(P:Program)(w:World)(K:Iy)(mg:Str→Option Value)(base:Heap)(x:Str)(k:Nat)(ps:List Str)(sp:DSp):Prop where
 ex:∃(f:Addr) (fd:FuncData),L7 P w K mg base CX0 k f fd ps (iZ K sp)∧mg x=some (.ref f)∧PySem.W.keepIn K (.ref f)=true∧cZ K fd ps []
theorem uG{x:Str}{j:Nat}{ps:List Str}{sp:DSp}{p:Pos}{e:Expr}{es:List Expr}{t:DTA}(G:Fn X.prog X.w X.K X.mg X.base x j ps sp)(hr:D7 j X.A)(hg:Gl X x)(ha:JA X (e :: es) t)
  (hdb:(x == ("__debug__" : Str))=false:=by decide) (he:starEach (e :: es) X.env=(false,eval e X.env) :: starEach es X.env:=by rfl) (hpl:(backTo pos (starEach es X.env)).any (·.1)=false:=by rfl):JE X (.Call (.Name x p) (e :: es) [] pos) (ki sp [] Y0 t):=⟨have ha:=ha.out;by
 obtain⟨f,fd,F,hm,hk,hb⟩:=G.ex
 exact CB F hr hg hm hk hb .nil (fun _=>.nil) Ep (fun _=>Gq) ha hdb he hpl⟩
end
section
variable {P:Program} {w:World} {K:Iy} {mg:Str→Option Value} {base:Heap}
theorem Af{x:Str}{st:Stmt}{f:Addr}{fd:FuncData}{N ps:List Str}{k:Nat}{sp:DSp}(F:yQ K x st f fd)(S:f8 N ps (d9 st))(len:∀ ds M R Y,sp ds M R Y→ds.length=ps.length)
  (hbody:∀(cdv:Value) (A:Around) (outer:List Env) (s:Shared) (H:Hp) (E:XK) (ds:List D) (M:Mem) (R:DK) (Y:DXK),D7 k (A.deeper (envOfC x (d9 st) s.heap.objs.size f cdv))→sp ds M R Y →
   ∃ t,JSs (kj CX0 P w K mg base N x (d9 st) f cdv A outer s H E).nox (E6 st) t∧t { nx:=fun _ M'=>R .non M',rt:=R } (S0 N ds) M):L7 P w K mg base CX0 (k+1) f fd ps (iZ K sp):=by
 obtain⟨oc,od,dV,kV,doc,pm,an,cdv,ct,osl,rfl,lk,hcd⟩:=F.ex
 refine ET lk hcd S (fun vs H Q E ⟨ds,M,R,Y,hl,_,hs,_,_⟩=>by rw[hl.length];exact len ds M R Y hs) fun A outer s H vs Q E hr zz=>?_
 obtain⟨ds,M,R,Y,hl,am,hs,fv,fx⟩:=zz
 obtain⟨t,h1,h2⟩:=hbody cdv A outer s H E ds M R Y hr hs
 refine⟨_,h1.out.nox,S0 N ds,M,_,t7.start0 hl,am,h2,⟨?_,fv,fun _ _ h=>h.elim,fun _ _ h=>h.elim⟩⟩
 exact fun e M' h σ' H' kt a o=>fv .non M' h .non H' kt a .non
theorem i7{x:Str}{st:Stmt}{N ps:List Str}{k:Nat}{sp:DSp}(d:Df K mg x st ps)(S:f8 N ps (d9 st))(len:∀ ds M R Y,sp ds M R Y→ds.length=ps.length)
  (hbody:∀(f:Addr) (cdv:Value) (A:Around) (outer:List Env) (s:Shared) (H:Hp) (E:XK) (ds:List D) (M:Mem) (R:DK) (Y:DXK),D7 k (A.deeper (envOfC x (d9 st) s.heap.objs.size f cdv))→sp ds M R Y →
   ∃ t,JSs (kj CX0 P w K mg base N x (d9 st) f cdv A outer s H E).nox (E6 st) t∧t { nx:=fun _ M'=>R .non M',rt:=R } (S0 N ds) M):Fn P w K mg base x (k+1) ps sp:=by
 obtain⟨f,fd,F,hm,hb⟩:=d.ex
 exact⟨f,fd,Af F S len (hbody f),hm,F.kp,hb⟩
theorem j0{x:Str}{st:Stmt}{ps:List Str}{h:Heap}{f:Addr}{oc:Value}{od an:Option Addr}{osl:Array (Option Value)}{dV kV doc pm cdv ct:Value}(X:K.In h)(G:h.Ns mainGlobals mg)
  (n:PySem.W.nsIn K mainGlobals x=some (some (.ref f)))
  (l:K.lookup f=some ⟨oc,od,.func (PySem.W.fnOf x x (L1 st) (E6 st) (d9 st) dV kV doc pm an cdv ct),osl⟩)
  (c:PySem.W.codeIn K cdv x=true) (k:PySem.W.keepIn K (.ref f)=true)
  (hb:∀ us:List Value,us.length=ps.length→bindArgs (PySem.W.fnOf x x (L1 st) (E6 st) (d9 st) dV kV doc pm an cdv ct) ⟨us,[]⟩=pure (ps.zip us)):Df K mg x st ps :=
 ⟨f,_,⟨⟨oc,od,dV,kV,doc,pm,an,cdv,ct,osl,rfl,l,c⟩,k⟩,PySem.W.mg_of X G n,.all hb⟩
theorem Cw{x:Str}{st:Stmt}{ps:List Str}{h:Heap}{f:Addr}{oc:Value}{od an:Option Addr}{osl:Array (Option Value)}{dV kV doc pm cdv ct:Value}(X:K.In h)(G:h.Ns mainGlobals mg)
  (n:PySem.W.nsIn K mainGlobals x=some (some (.ref f)))
  (l:K.lookup f=some ⟨oc,od,.func (PySem.W.fnOf x x (L1 st) (E6 st) (d9 st) dV kV doc pm an cdv ct),osl⟩)
  (c:PySem.W.codeIn K cdv x=true) (k:PySem.W.keepIn K (.ref f)=true)
  (hb:∀ us:List Value,us.length=ps.length→bindArgs (PySem.W.fnOf x x (L1 st) (E6 st) (d9 st) dV kV doc pm an cdv ct) ⟨us,[]⟩=pure (ps.zip us)):DfL K mg x st ps :=
 ⟨f,_,⟨⟨oc,od,dV,kV,doc,pm,an,cdv,ct,osl,rfl,l,c⟩,k⟩,PySem.W.mg_of X G n,hb⟩
theorem Cy{x:Str}{st:Stmt}{ps:List Str}{h:Heap}{f:Addr}{oc:Value}{od an:Option Addr}{osl:Array (Option Value)}{dV kV doc pm cdv ct:Value}(X:K.In h)(G:h.Ns mainGlobals mg)
  (n:PySem.W.nsIn K mainGlobals x=some (some (.ref f)))
  (l:K.lookup f=some ⟨oc,od,.func (PySem.W.fnOf x x (L1 st) (E6 st) (d9 st) dV kV doc pm an cdv ct),osl⟩)
  (c:PySem.W.codeIn K cdv x=true) (k:PySem.W.keepIn K (.ref f)=true)
  (hb:∀ us:List Value,us.length=ps.length→∀ S,PySem.W.peek K S (bindArgs (PySem.W.fnOf x x (L1 st) (E6 st) (d9 st) dV kV doc pm an cdv ct) ⟨us,[]⟩)=some (ps.zip us)):Df K mg x st ps :=
 ⟨f,_,⟨⟨oc,od,dV,kV,doc,pm,an,cdv,ct,osl,rfl,l,c⟩,k⟩,PySem.W.mg_of X G n,fun s us X' hl=>by rw[Kc]at hl ⊢;exact PySem.W.kp_binds X' (hb us hl)⟩
end
section
variable {X:Cx} {x:Str} {p pos:Pos} {e:Expr} {es:List Expr} {t:DTA} {id T:String} {o:Expr} {to:DTE} {a b c:Expr} {ta tb tc:DTE}
theorem u7{g:DRC}(hc:ax X (.builtin id) g)(hg:Gl X x)(hm:X.mg x=none)(hv:bootBuiltins x=some (.builtin id))(ha:JA X (e :: es) t)
  (hn:x ≠ "__name__" := by decide) (hdb:(x == ("__debug__" : Str))=false:=by decide) (he:starEach (e :: es) X.env=(false,eval e X.env) :: starEach es X.env:=by rfl) (hpl:(backTo pos (starEach es X.env)).any (·.1)=false:=by rfl):JE X (.Call (.Name x p) (e :: es) [] pos) (dCB g t):=⟨have ha:=ha.out;(tW hc hg hm hv ha hn hdb he hpl).imp fun _ _ _ h=>Fu h⟩
theorem ya:OpR X (binaryOp .Add) (fun x y H Q=>∃ l b xs zs,x = .ref l∧y = .ref b∧SqL X.K H l xs∧SqL X.K H b zs∧xs.length+zs.length≤sizeLine∧∀ p,H p=none→Q (.ref p) (upd H p (.lst (xs++zs)))):=by
 intro pins s σ H x y v u Q I rx ry h
 obtain⟨l,b,xs,zs,rfl,rfl,hH,hB,hz,q⟩:=h
 cases rx
 cases ry
 obtain⟨its,r,pl,z1⟩:=I.list hH
 obtain⟨its2,r2,pl2,z2⟩:=I.list hB
 have hl:=r.length
 have hl2:=r2.length
 obtain⟨⟨cls,dd,data,sl⟩,ho,hc,n,hd⟩:=pl.isList
 obtain⟨⟨cls2,dd2,data2,sl2⟩,ho2,hc2,n2,hd2⟩:=pl2.isList
 simp only at hc hd hc2 hd2
 subst hc hd hc2 hd2
 have ea:its.toArray++its2.toArray=(its++its2).toArray:=by simp
 refine concat_meets ⟨_,ho,rfl⟩ ⟨_,ho2,rfl⟩ noFill_list_add seq_list_add PySem.F.slot_list_add PySem.F.entry_list_add (PySem.F.args_list_add_2 _ _) (list_addW l b its.toArray its2.toArray n n2 dd dd2 sl sl2 (by simp only[IY];omega)) ⟨ho,ho2,?_⟩
 rw[ea]
 exact⟨.ref _,_,I.lnew (t':=s.toks) (r.append r2) (by rw[IX];omega),rfl,q _ I.fresh⟩
noncomputable def J4(M:Mem):D→Option (List D)
 | .ref p=>match M p with
  | some (.lst ds)=>some ds
  | _=>none
 | .vl ds=>some ds
 | _=>none
theorem y9{K:Iy}{H:Hp}{M:Mem}{v:V}{d:D}{ds:List D}(am:j7 K H M)(h:Has K H v d)(e:J4 M d=some ds):∃ a xs,v = .ref a∧SqL K H a xs∧HasL K H xs ds:=by
 cases h with
 | ref p =>
  unfold J4 at e
  cases q:M p with
  | none=>simp[q]at e
  | some o =>
   cases o with
   | lst es =>
    simp only[q]at e
    cases e
    obtain⟨xs,hx,l⟩:=am.lst q
    exact⟨p,xs,rfl,SqL.of hx,l⟩
   | ins C fs=>simp[q]at e
 | vl hq hl =>
  cases e
  exact Has.il (.vl hq hl)
 | _=>cases e
end
theorem sl(n:Nat)(h:n≤1000:=by decide):n≤sizeLine:=IT h (by decide)
section
variable {X:Cx}
open Classical in
def EN(neg:Bool):DR2:=fun x y M R=>cl 60 x=true∧cl 60 y=true∧R (.bl (neg.xor (decide (x=y)))) M
theorem ui(hu:X.A.units+64<cLine):DOp X (compareOp .NotEq) (EN true):=OpR.imp (Ga hu) (by rintro _ _ _ _ ⟨dx,dy,M,R,hx,hy,am,⟨h1,h2,h3⟩,f⟩;exact⟨dx,dy,M,R,hx,hy,am,Cu h3 h1 h2,f⟩)
theorem nY:DOp X (compareOp .Eq) (gF (fI fun i j=>.bl (decide (i=j)))):=OpR.imp Ac (by
 rintro x y H Q ⟨dx,dy,M,R,hx,hy,am,⟨z,e,r⟩,f⟩
 obtain⟨i,j,e1,e2,e3⟩:=gO e
 subst e1;subst e2;subst e3
 cases hx;cases hy
 refine⟨rfl,?_⟩
 have e:decide (V.int i=V.int j)=decide (i=j):=by simp
 rw[e]
 exact f _ M r _ H (KT.refl H) am (.bl _))
theorem Ex:DOp X (compareOp .NotEq) (gF (fI fun i j=>.bl (!decide (i=j)))):=OpR.imp Er (by
 rintro x y H Q ⟨dx,dy,M,R,hx,hy,am,⟨z,e,r⟩,f⟩
 obtain⟨i,j,e1,e2,e3⟩:=gO e
 subst e1;subst e2;subst e3
 cases hx;cases hy
 refine⟨rfl,?_⟩
 have e:decide (V.int i=V.int j)=decide (i=j):=by simp
 rw[e]
 exact f _ M r _ H (KT.refl H) am (.bl _))
end
theorem Gh{c:Prop}[Decidable c]{A B:Prop}(h1:c→A)(h2:¬ c→B):if decide c=true then A else B:=by
 by_cases h:c
 ·rw[if_pos (decide_eq_true h)];exact h1 h
 ·rw[if_neg (by rw[decide_eq_false h];exact Je)];exact h2 h
theorem EF{c:Prop}[Decidable c]{A B:Prop}(h1:¬ c→A)(h2:c→B):if (!decide c)=true then A else B:=by
 by_cases h:c
 ·rw[decide_eq_true h];rw[if_neg (by decide)];exact h2 h
 ·rw[decide_eq_false h];rw[if_pos (by decide)];exact h1 h
theorem R6{n k:Nat}(h:n<2 ^ k)(hk:0<k):n.log2<k:=by
 rcases Mv n with h0|h0
 ·subst h0;rw[Nat.log2_zero];exact hk
 ·exact(Mn (Mo.mp h0)).mpr h
theorem t6{a b:Int}(m n:Nat)(ha:a.natAbs<2 ^ m)(hb:b.natAbs<2 ^ n)(h:m+n≤100000):IntMulOk a b:=by
 have hx:∀(x:Int) (k:Nat),x.natAbs<2 ^ k→Builtin.Int.intBits x≤k:=fun x k hx=>by
  unfold Builtin.Int.intBits
  split
  ·exact Jr _
  ·rename_i h0
   have:x.natAbs≠0:=by
    intro z;apply h0
    first|exact(by simpa using Mx.mp z)|(simp;omega)
   have:=(Mn this).mpr hx
   omega
 exact PySem.IntMulOk.of_le (hx a m ha) (hx b n hb) (by omega)
noncomputable def Ge(t T:String):Option Bool:=if PySem.W.kitMeta T=true then(fastBuiltinMro t).map (·.contains (.type T))else none
theorem Ee(K:Iy):vL K:=by
 intro t T b h
 unfold xk at h
 by_cases e:t=T
 ·subst e
  rw[if_pos rfl]at h
  cases h
  unfold PySem.W.kitOne
  rw[if_pos (beq_self_eq_true _)]
 ·rw[if_neg e]at h
  have hne:¬ (Value.type t == Value.type T)=true:=fun z=>e (by have:=eq_of_beq z;injection this)
  unfold PySem.W.kitOne
  rw[if_neg hne]
  show Ge t T=some b
  split at h
  ·cases h;decide +kernel
  ·split at h
   ·rename_i hh
    obtain⟨ht,hT⟩:=hh
    simp only[IE,Ji,or_false]at ht hT
    cases h
    rcases ht with rfl|rfl|rfl|rfl|rfl|rfl|rfl<;>rcases hT with rfl|rfl|rfl|rfl|rfl<;>first|exact absurd rfl e|decide +kernel|(exfalso;simp_all)
   ·cases h
theorem lX{K:Iy}{H:Hp}{a:Addr}{ns:List Int}(hO:qu H)(hS:SqL K H a (ns.map V.int)):Has K H (.ref a) (.vl (ns.map D.int)):=by
 rcases hS with(h|⟨o,h⟩)|h
 ·rcases hO a with z|⟨o,xs,z⟩
  ·rw[z]at h;cases h
  ·rw[z]at h;cases h
 ·exact .vl (.inl ⟨o,h⟩) (HasL.ints ns)
 ·exact .vl (.inr fun _=>.inr h) (HasL.ints ns)
theorem Cj{K:Iy}{H:Hp}{a:Addr}{ns:List Int}{sp:DSp}(hO:qu H)(hS:SqL K H a (ns.map V.int))(h:sp [.vl (ns.map D.int)] (fun _=>none) (fun d _=>d = .bl true) Y0) :
  iZ K sp [.ref a] H (fun v _=>v = .bl true) (fun _ _ _=>False) :=
 ⟨[.vl (ns.map D.int)],fun _=>none,fun d _=>d = .bl true,Y0,.cons (lX hO hS) .nil,fun _ _ z=>(by cases z),h,fun d M' e v H' _ _ hv=>by subst e;cases hv;rfl,fun _ _ z=>z.elim⟩
section
variable {X:Cx} {o e:Expr} {es:List Expr} {to:DTE} {t:DTA} {name:Str} {apos cpos:Pos} {id:String}
noncomputable abbrev DRM:=D→List D→Mem→DK→Prop
noncomputable def upM(K:Iy)(g:DRM):V→List V→Hp→VK→Prop:=fun x xs H Q=>∃ dx ds M R,Has K H x dx∧HasL K H xs ds∧j7 K H M∧g dx ds M R∧cY K H R Q
def DMt(X:Cx)(id:String)(g:DRM):Prop:=MtR X id (upM X.K g)
theorem MtR.imp{r r':V→List V→Hp→VK→Prop}(h:MtR X id r)(i:∀ x xs H Q,r' x xs H Q→r x xs H Q):MtR X id r':=fun pins s σ H x xs v us Q I rx rv q=>h pins s σ H x xs v us Q I rx rv (i x xs H Q q)
def dLM(g:DRM)(to:DTE)(t:DTA):DTE:=fun e M R=>to e M fun x M1=>(∃ l ds,x = .ref l∧M1 l=some (.lst ds))∧t e M1 fun xs M2=>g x xs M2 R
theorem oF{g:DRM}(slot:Slot "list" name id)(hty:typeOf (.builtin id)=pure (.type "method_descriptor"))(hm:DMt X id g)(ho:JE X o to)(ha:JA X (e :: es) t)
  (hbase:attributeBase o name X.env (eval o X.env)=eval o X.env:=by rfl)
  (hfew:((backTo cpos (starEach (e :: es) X.env)).all (fun x=>!x.1) && (backToKw cpos (keywordEach [] X.env)).all (fun x=>x.1.isSome)
   && decide ((e :: es).length+([]:List Keyword).length+(if ([]:List Keyword).isEmpty then 0 else 1)<30))=true:=by rfl)
  (hline:(apos.endLine == cpos.line)=true:=by rfl) (hs:starEach (e :: es) X.env=(false,eval e X.env) :: starEach es X.env:=by rfl) (hplain:(backTo cpos (starEach es X.env)).any (·.1)=false:=by rfl):JE X (.Call (.Attribute o name apos) (e :: es) [] cpos) (dLM g to t):=⟨have ho:=ho.out;have ha:=ha.out;(En PySem.F.plainAttrs_list slot hty hm ho ha hbase hfew hline hs hplain).imp (by rintro σ H Q ⟨e,M,R,ok,am,t,f⟩;exact⟨e,M,_,ok,am,t,fun x M1 ⟨⟨l,ds,z,hM⟩,h1⟩ v H1 k1 a1 r1=>by
  subst z
  have r1':=r1
  cases r1
  obtain⟨xs,hx,_⟩:=a1.lst hM
  refine⟨.inl ⟨rfl,xs,SqL.of hx⟩,e,M1,_,ok.mono k1,a1,h1,fun zs M2 h2 vs H2 k2 a2 r2=>?_⟩
  exact⟨_,zs,M2,R,r1'.mono k2,r2,a2,h2,f.mono (k1.trans k2)⟩⟩)⟩
theorem bP:∀{bs:List Bool} {us:List Value},i5 (bs.map V.bl) us→us=bs.map Value.bool
 | [],_,r=>by cases r;rfl
 | b :: bs,_,r=>by
  cases r with
  | cons r rr =>
   cases(show _=Value.bool b from r)
   rw[bP rr];rfl
theorem HasL.bools{K:Iy}{H:Hp}:∀{bs:List Bool} {vs:List V},HasL K H vs (bs.map D.bl)→vs=bs.map V.bl
 | [],_,r=>by cases r;rfl
 | b :: bs,_,r=>by
  cases r with
  | cons r rr=>cases r;rw[HasL.bools rr];rfl
noncomputable def fB(f:Bool→Bool→D):D→D→Option D
 | .bl i,.bl j=>some (f i j)
 | _,_=>none
end
section
variable {X:Cx}
end
section
variable {X:Cx} {st:Stmt} {m9:List Stmt} {t u:DTS}
def Al(t u:DTS):DTS:=fun F e M=>∃ P:Ev→Mem→Prop,t { F with nx:=P } e M∧∀ e' M',P e' M'→u F e' M'
theorem eO(h1:JS X st t)(h2:JSs X m9 u):JSs X (st :: m9) (Al t u):=⟨have h1:=h1.out;have h2:=h2.out;(jD h1 h2).imp (by rintro E σ H ⟨e,M,F,ok,am,⟨P,t,hP⟩,f⟩;exact⟨e,M,{ F with nx:=P },ok,am,t,⟨fun e' M' h σ' H' k a o=>⟨e',M',F,o,a,hP e' M' h,f.mono k⟩,f.rt,f.bk,f.ct⟩⟩)⟩
end
section
variable {X:Cx}
theorem pP(bs:List Bool):(JK bs.length).all (fun i=>bs.getD i true)=bs.all id:=by
 have:(JK bs.length).map (fun i=>bs.getD i true)=bs:=by
  apply Kk (by simp)
  intro i h1 h2
  simp[IQ,h2]
 conv=>rhs;rw[← this]
 rw[MH];rfl
theorem ja{prog:Program}{w:World}{A:Around}(bs:List Bool):TruthOf prog w A (fun i v=>(bs.map Value.bool).toArray[i]? = some v) (fun i=>bs.getD i true):=by
 intro i v s Q E h q
 have h':(bs.map Value.bool)[i]? = some v:=by simpa using h
 rw[Jb]at h'
 cases e:bs[i]? with
 | none=>rw[e]at h';cases h'
 | some b =>
  rw[e]at h'
  cases h'
  have q':Q b s:=by simpa[IQ,e]using q
  exact wpAny_truthy_bool q'
theorem qt(hc:X.calm=true):v9 X (.builtin "all") (fun xs H Q=>∃(l:Addr) (bs:List Bool),xs=[.ref l]∧SqL X.K H l (bs.map V.bl)∧Q (.bl (bs.all id)) H):=by
 intro pins s σ H xs us Q I r h
 obtain⟨l,bs,rfl,hS,q⟩:=h
 obtain⟨u,rfl,ru⟩:=iY r
 cases ru
 obtain⟨its,rv,p,_⟩:=I.list hS
 have hb:=bP rv
 subst hb
 have hl:s.heap.IsList l (bs.map Value.bool).toArray:=p.isList
 have hne:l≠s.heap.objs.size:=by
  obtain⟨o,e,_⟩:=id hl
  exact Jk (II e)
 refine call_all_walk (wpAny_pyIter_list hl ?_)
 refine⟨s.heap.objs.size,_,_,_,_,_,fun i=>bs.getD i true,rfl,Walks.list (A:=X.A.in1) (I.ok.hd hc) s.heap.objs.size l hne (bs.map Value.bool).toArray,⟨⟨_,IP _ rfl,rfl,rfl⟩,hl.at fun o e=>IB _ e⟩,ja bs,fun h' tk kk=>?_⟩
 have e:(JK (bs.map Value.bool).toArray.size).all (fun i=>bs.getD i true)=bs.all id:=by
  rw[show(bs.map Value.bool).toArray.size=bs.length by simp];exact pP bs
 rw[e]
 exact⟨.bl (bs.all id),H,I.kept fun b o z=>kk b o (by simp;exact Jk (II z)) (IB _ z),rfl,q⟩
def ER:DRC:=fun ds M R=>∃(d:D) (bs:List Bool),ds=[d]∧J4 M d=some (bs.map D.bl)∧R (.bl (bs.all id)) M
theorem AF(hc:X.calm=true):ax X (.builtin "all") ER:=v9.imp (qt hc) (by
 rintro xs H Q ⟨ds,M,R,hl,am,⟨d,bs,z,hM,r⟩,f⟩
 subst z
 obtain⟨v,rfl,hv⟩:=hl.one
 obtain⟨a,vs,rfl,s,l⟩:=y9 am hv hM
 rw[l.bools]at s
 exact⟨a,bs,rfl,s,f _ M r _ H (KT.refl H) am (.bl _)⟩)
end
theorem vH:bootBuiltins "all" = some (.builtin "all"):=by decide +kernel
structure GlD(K:Iy)(mg:Str→Option Value)(x:Str)(d:D):Prop where
 ex:∃(v:V) (u:Value),mg x=some u∧j6 v u∧FD K v d
theorem cL{X:Cx}{x:Str}{d:D}{pos:Pos}(hg:Gl X x)(g:GlD X.K X.mg x d)(hd:(x == ("__debug__" : Str))=false:=by decide):JE X (.Name x pos) (dC d):=⟨by
 obtain⟨v,u,h1,h2,h3⟩:=g.ex
 exact CA hg h1 h2 h3 hd⟩
theorem yA{K:Iy}{mg:Str→Option Value}{h:Heap}{x:Str}{a:Addr}{od:Option Addr}{osl:Array (Option Value)}{i j:Int}{t u:Tok}{cap:Nat}(X:K.In h)(G:h.Ns mainGlobals mg)
  (n:PySem.W.nsIn K mainGlobals x=some (some (.ref a))) (l:K.lookup a=some ⟨.type "tuple",od,.seq #[.int i t,.int j u] cap,osl⟩):GlD K mg x (.tup [.int i,.int j]) :=
 ⟨.ref a,.ref a,PySem.W.mg_of X G n,rfl,fun H=>.tup (xs:=[.int i,.int j]) (.inr ⟨_,_,_,l,rfl,rfl,(show 2≤sizeLine by decide),.cons (show j6 (.int i) (.int i t)from⟨t,rfl⟩) (.cons (show j6 (.int j) (.int j u)from⟨u,rfl⟩) .nil)⟩) (.cons (.int i) (.cons (.int j) .nil))⟩
noncomputable def fS(f:Str→Str→D):D→D→Option D
 | .str i,.str j=>some (f i j)
 | _,_=>none
theorem yE{f:Str→Str→D}{x y z:D}(h:fS f x y=some z):∃ i j,x = .str i∧y = .str j∧z=f i j:=by
 cases x with
 | str i =>
  cases y with
  | str j=>exact⟨i,j,rfl,rfl,(Option.some.inj h).symm⟩
  | _=>cases h
 | _=>cases h
section
variable {X:Cx}
theorem cC:DOp X (compareOp .Eq) (gF (fS fun i j=>.bl (decide (i=j)))):=OpR.imp Ac (by
 rintro x y H Q ⟨dx,dy,M,R,hx,hy,am,⟨z,e,r⟩,f⟩
 obtain⟨i,j,e1,e2,e3⟩:=yE e
 subst e1;subst e2;subst e3
 cases hx;cases hy
 refine⟨rfl,?_⟩
 have e:decide (V.str i=V.str j)=decide (i=j):=by simp
 rw[e]
 exact f _ M r _ H (KT.refl H) am (.bl _))
end
structure kF(K:Iy)(H1:Hp)(J:It)(ds:List D)(stay:Mem→Prop):Prop where
 go:∀ i H' M',i<ds.length→KT H1 H'→j7 K H' M'→stay M'→J.go i H'
 yld:∀ i H' M' x H'',i<ds.length→KT H1 H'→j7 K H' M'→stay M'→J.yld i H' x H''→∃ d,ds[i]? = some d∧KT H' H''∧j7 K H'' M'∧Has K H'' x d
 stop:∀ i H' M',ds.length≤i→KT H1 H'→j7 K H' M'→stay M'→J.stop i H'
 up:∀ M' p o,stay M'→M' p=none→stay (B7 M' p o)
def upI(K:Iy)(ti:DTI):TI:=fun σ H R=>∃ e M R',t7 K H σ e∧j7 K H M∧ti e M R'∧∀ ds stay M1,R' ds stay M1→∀ H1,KT H H1→j7 K H1 M1→∀ J,kF K H1 J ds stay→R J H1
def DPI(X:Cx)(tg iter:Expr)(ti:DTI):Prop:=PI X tg iter (upI X.K ti)
structure JI(X:Cx)(tg iter:Expr)(ti:DTI):Prop where
 out:DPI X tg iter ti
theorem PI.imp{X:Cx}{tg iter:Expr}{wi wi':TI}(h:PI X tg iter wi)(i:∀ σ H R,wi' σ H R→wi σ H R):PI X tg iter wi':=fun pins s σ H R I q=>h pins s σ H R I (i σ H R q)
section
variable {X:Cx} {tg iter:Expr} {ti:DTE} {ta:DTA}
theorem rX{K:Iy}{H1:Hp}{a:Addr}{xs:List V}{ds:List D}(s:SqT K H1 a xs)(l:HasL K H1 xs ds):kF K H1 (Itt K a) ds (fun _=>True) where
 go:=fun i H' M' hi k _ _=>⟨xs,_,k.sq s,IS (by rw[l.length];exact hi)⟩
 yld:=fun i H' M' x H'' hi k am _ zz=>by
  obtain⟨e,y⟩:=zz
  subst e
  obtain⟨d,hd,r⟩:=l.getV (y xs (k.sq s))
  exact⟨d,hd,KT.refl _,am,r.mono k⟩
 stop:=fun i H' M' hi k _ _=>⟨xs,k.sq s,by rw[l.length];exact hi⟩
 up:=fun _ _ _ _ _=>trivial
theorem si{K:Iy}{H1:Hp}{p:Addr}{ds:List D}:kF K H1 (Itl K p) ds (fun M'=>M' p=some (.lst ds)) where
 go:=fun i H' M' hi k am st=>by
  obtain⟨ys,hy,ly⟩:=am.lst st
  exact⟨ys,_,SqL.of hy,IS (by rw[ly.length];exact hi)⟩
 yld:=fun i H' M' x H'' hi k am st zz=>by
  obtain⟨e,y⟩:=zz
  subst e
  obtain⟨ys,hy,ly⟩:=am.lst st
  obtain⟨d,hd,r⟩:=ly.getV (y ys (SqL.of hy))
  exact⟨d,hd,KT.refl _,am,r⟩
 stop:=fun i H' M' hi k am st=>by
  obtain⟨ys,hy,ly⟩:=am.lst st
  exact⟨ys,SqL.of hy,by rw[ly.length];exact hi⟩
 up:=fun M' q o st hq=>by rw[F9 (by intro e;subst e;rw[hq]at st;cases st)];exact st
theorem rY{K:Iy}{H1:Hp}{lo:Int}{n:Nat}:kF K H1 (Itr lo n) (K6 lo n) (fun _=>True) where
 go:=fun i H' M' hi k am st=>by rw[D2]at hi;exact hi
 yld:=fun i H' M' x H'' hi k am st zz=>by
  obtain⟨e,y⟩:=zz
  subst e;subst y
  rw[D2]at hi
  exact⟨_,lH hi,KT.refl _,am,.int _⟩
 stop:=fun i H' M' hi k am st=>by rw[D2]at hi;exact hi
 up:=fun _ _ _ _ _=>trivial
theorem gH{a:Expr}{p p2:Pos}(hr:Gl X "range")(hm:X.mg "range" = none)(ha:JA X [a] ta)(hs0:starEach [a] X.env=[(false,eval a X.env)]:=by rfl):JI X tg (.Call (.Name "range" p) [a] [] p2) (Ai ta):=⟨have ha:=ha.out;PI.imp (pR hr hm ha hs0) (by rintro σ H R ⟨e,M,R',ok,am,t,f⟩;exact⟨e,M,_,ok,am,t,fun ds M1 ⟨j,z,b1,b2,r⟩ vs H1 k1 a1 r1=>by
  subst z
  obtain⟨v,rfl,hv⟩:=r1.one
  cases hv
  exact⟨j,rfl,b1,b2,f _ _ M1 r H1 k1 a1 _ rY⟩⟩)⟩
def p8(M:Mem)(x:D)(ds:List D):Prop:=x = .tup ds∨(∃ p,x = .ref p∧M p=some (.lst ds))∨x = .vl ds
noncomputable def jU:D→Bool
 | .tup _=>false
 | _=>true
theorem t9{K:Iy}{H:Hp}{M:Mem}{v:V}{x:D}{ds:List D}(h:p8 M x ds)(am:j7 K H M)(r:Has K H v x):∃ a xs,v = .ref a∧SqK K (jU x) H a xs∧HasL K H xs ds:=by
 rcases h with rfl|⟨p,rfl,m⟩|rfl
 rotate_left 2
 ·obtain⟨a,xs,e,sq,l⟩:=r.il
  exact⟨a,xs,e,sq,l⟩
 ·cases r with
  | tup s l=>exact⟨_,_,rfl,s,l⟩
 ·cases r
  obtain⟨xs,hx,l⟩:=am.lst m
  exact⟨p,xs,rfl,SqL.of hx,l⟩
theorem O6{M:Mem}{x:D}{ds:List D}{q:Addr}{o:MO}(h:p8 M x ds)(hq:M q=none):p8 (B7 M q o) x ds:=by
 rcases h with h|⟨p,e,h⟩|h
 ·exact .inl h
 ·exact .inr (.inl ⟨p,e,by rw[F9 (by intro e;subst e;rw[hq]at h;cases h)];exact h⟩)
 ·exact .inr (.inr h)
noncomputable def Q4(ds es:List D):List D:=List.zipWith (fun a b=>.tup [a,b]) ds es
theorem Z7(ds es:List D):(Q4 ds es).length=min ds.length es.length:=by simp[Q4]
theorem qy{ds es:List D}{i:Nat}{a b:D}(h1:ds[i]? = some a)(h2:es[i]? = some b):(Q4 ds es)[i]? = some (.tup [a,b]):=by
 unfold Q4
 rw[List.getElem?_zipWith,h1,h2]
theorem rW{K:Iy}{H1:Hp}{x y:D}{l1 l2:Addr}{ds es:List D}(h1:Has K H1 (.ref l1) x)(h2:Has K H1 (.ref l2) y) :
  kF K H1 (Itz K (jU x) (jU y) l1 l2) (Q4 ds es) (fun M'=>p8 M' x ds∧p8 M' y es) where
 go:=fun i H' M' hi k am zz=>by
  obtain⟨s1,s2⟩:=zz
  rw[Z7]at hi
  obtain⟨a,xs,e1,q1,m1⟩:=t9 s1 am (h1.mono k)
  obtain⟨b,ys,e2,q2,m2⟩:=t9 s2 am (h2.mono k)
  cases e1;cases e2
  exact⟨xs,ys,_,_,q1,q2,IS (by rw[m1.length];omega),IS (by rw[m2.length];omega)⟩
 yld:=fun i H' M' v H'' hi k am ⟨s1,s2⟩ ⟨T,a,b,hT,ev,eH,u1,u2⟩=>by
  subst ev;subst eH
  obtain⟨a',xs,e1,q1,m1⟩:=t9 s1 am (h1.mono k)
  obtain⟨b',ys,e2,q2,m2⟩:=t9 s2 am (h2.mono k)
  cases e1;cases e2
  obtain⟨d1,g1,r1⟩:=m1.getV (u1 xs q1)
  obtain⟨d2,g2,r2⟩:=m2.getV (u2 ys q2)
  have kt:KT H' (upd H' T (.tup [a,b])):=KT.alloc hT
  exact⟨_,qy g1 g2,kt,am.alloc hT,.tup (SqT.of h7) (.cons (r1.mono kt) (.cons (r2.mono kt) .nil))⟩
 stop:=fun i H' M' hi k am zz=>by
  obtain⟨s1,s2⟩:=zz
  rw[Z7]at hi
  obtain⟨a,xs,e1,q1,m1⟩:=t9 s1 am (h1.mono k)
  obtain⟨b,ys,e2,q2,m2⟩:=t9 s2 am (h2.mono k)
  cases e1;cases e2
  refine⟨xs,ys,q1,q2,?_⟩
  rw[m1.length,m2.length]
  omega
 up:=fun _ _ _ st hq=>⟨O6 st.1 hq,O6 st.2 hq⟩
def Ag(ta:DTA):DTI:=fun e M R=>ta e M fun xs M1=>∃ x y ds es,xs=[x,y]∧p8 M1 x ds∧p8 M1 y es∧R (Q4 ds es) (fun M'=>p8 M' x ds∧p8 M' y es) M1
theorem gG{elts:List Expr}{kx:Nat}{tp:Pos}{a b:Expr}{p pos:Pos}(hg:Gl X "zip")(hm:X.mg "zip" = none)(ha:JA X [a,b] ta)
  (hs:starEach [a,b] X.env=[(false,eval a X.env),(false,eval b X.env)]:=by rfl) (hs2:starEach [b] X.env=[(false,eval b X.env)]:=by rfl):JI X (.Tuple elts kx tp) (.Call (.Name "zip" p) [a,b] [] pos) (Ag ta):=⟨have ha:=ha.out;PI.imp (BE hg hm ha hs hs2) (by rintro σ H R ⟨e,M,R',ok,am,t,f⟩;exact⟨e,M,_,ok,am,t,fun xs M1 ⟨x,y,ds,es,z,s1,s2,r⟩ vs H1 k1 a1 r1=>by
  subst z
  obtain⟨v,v',rfl,hv,hv'⟩:=r1.two
  obtain⟨a,zs,rfl,q1,m1⟩:=t9 s1 a1 hv
  obtain⟨b,ws,rfl,q2,m2⟩:=t9 s2 a1 hv'
  exact⟨_,_,a,b,rfl,⟨zs,q1⟩,⟨ws,q2⟩,f _ _ M1 r H1 k1 a1 _ (rW hv hv')⟩⟩)⟩
end
section
variable {X:Cx} {tg iter:Expr} {body:List Stmt} {ti:DTI} {g:DTG} {tb:DTS} {pos:Pos}
theorem y8(hp:PassesOwn (model X.prog X.w) X.A X.env X.xe)(hc:X.calm=true)(hi:JI X tg iter ti)(hg:JG X tg g)(hb:JSs X body tb)
  (hs:∀ x,foldedSetIterable iter X.env x=pure x:=by intro _;rfl):JS X (.For tg iter body [] pos) (Fi ti g tb):=⟨have hi:=hi.out;have hg:=hg.out;have hb:=hb.out;(BC hp hc hi hg hb hs).imp (by rintro E σ H ⟨e,M,F,ok,am,t,f⟩;exact⟨e,M,_,ok,am,t,fun ds stay M1 ⟨W,w0,hst,step,done⟩ H1 k1 a1 J wk=>by
  refine⟨fun i m σ' H'=>m=ds.length - i∧i≤ds.length∧∃ e' M',KT H1 H'∧t7 X.K H' σ' e'∧j7 X.K H' M'∧W i e' M',⟨ds.length,by simp,Jr _,e,M1,KT.refl H1,ok.mono k1,a1,w0⟩,?_⟩
  rintro i m σ2 H2 ⟨rfl,hi,e2,M2,k2,ok2,a2,w2⟩
  have st:=hst i e2 M2 hi w2
  by_cases hlt:i<ds.length
  ·refine .inr ⟨wk.go i H2 M2 hlt k2 a2 st,fun σ' H'=>∃ e' M',KT H1 H'∧t7 X.K H' σ' e'∧j7 X.K H' M'∧W (i+1) e' M',fun σ' H' h=>⟨ds.length - (i+1),by omega,rfl,hlt,h⟩,fun y H' yl=>?_⟩
   obtain⟨d,hd,k3,a3,r⟩:=wk.yld i H2 M2 y H' hlt k2 a2 st yl
   exact uV f k1 (k2.trans k3) (ok2.mono k3) a3 r (step i d e2 M2 hd w2)
  ·have e':i=ds.length:=by omega
   subst e'
   exact .inl ⟨wk.stop _ H2 M2 (IL _) k2 a2 st,f.nx e2 M2 (done e2 M2 w2) σ2 H2 (k1.trans k2) a2 ok2⟩⟩)⟩
end
noncomputable def kz(n:Nat)(caps:List Nat)(e:Ev):Ev:=Km n none++caps.map fun i=>(e[i]?).getD none
theorem yF{K:Iy}{H:Hp}{σ:St}{e:Ev}(n:Nat)(caps:List Nat)(ok:t7 K H σ e):t7 K H (ia n caps σ) (kz n caps e):=by
 refine⟨by simp[ia,kz],fun i d h=>?_⟩
 unfold kz at h
 unfold ia
 rw[Ld]at h ⊢
 rw[KY]at h ⊢
 by_cases hi:i<n
 ·rw[if_pos hi]at h
  rw[JN]at h
  split at h<;>cases h
 ·rw[if_neg hi]at h ⊢
  rw[Jb]at h ⊢
  cases hj:caps[i - n]? with
  | none=>rw[hj]at h;cases h
  | some j =>
   rw[hj]at h
   have h':(e[j]?).getD none=some d:=by simpa using h
   have he:e[j]? = some (some d):=by
    cases q:e[j]? with
    | none=>rw[q]at h';cases h'
    | some z=>rw[q]at h';rw[show z=some d by simpa using h']
   obtain⟨v,h1,h2⟩:=ok.has j d he
   exact⟨v,by simp[h1],h2⟩
theorem dw{p:Str→Prop}{a:Str}(h:p a):∀ x∈[a],p x:=fun x hx=>by
 simp only[IE,Ji,or_false]at hx
 subst hx;exact h
theorem kD{p:Str→Prop}{a b:Str}(h:p a)(h2:p b):∀ x∈[a,b],p x:=fun x hx=>by
 simp only[IE,Ji,or_false]at hx
 rcases hx with rfl|rfl
 ·exact h
 ·exact h2
section
variable {X:Cx}
def Gj(K:Iy)(tl:TE):TI:=fun σ H R=>tl σ H fun x H1=>∃(a:Addr) (k:Bool),x = .ref a∧(∃ xs,SqK K k H1 a xs)∧R (if k=true then Itl K a else Itt K a) H1
theorem BF{tg l:Expr}{tl:TE}(hl:PE X l tl):PI X tg l (Gj X.K tl):=by
 intro pins s σ H R I h
 refine thn (hl pins s σ H _ I h) fun v s1 zz=>?_
 obtain⟨x,H1,I1,r1,q1⟩:=zz
 obtain⟨a,k,e,⟨xs,hq⟩,q⟩:=q1
 subst e
 cases r1
 obtain⟨its,rv,p⟩:=I1.sqk hq
 have nf:∀ b∈[s1.heap.objs.size],S3 X pins H1 b:=fun b hb=>by
  have e:b=s1.heap.objs.size:=by simpa using hb
  subst e
  exact I1.fpOk (IL _) (I1.hok.fresh (IL _))
 cases k with
 | true=>exact wpAny_pyIter_list p ⟨s1.heap.objs.size,[s1.heap.objs.size],_,_,H1,rfl,I1.kept (t':=s1.toks) fun b o e=>IB _ e,pF a _,⟨_,IP _ rfl,rfl,rfl⟩,nf,q⟩
 | false=>exact wpAny_pyIter_tuple p ⟨s1.heap.objs.size,[s1.heap.objs.size],_,_,H1,rfl,I1.kept (t':=s1.toks) fun b o e=>IB _ e,kL a _,⟨_,IP _ rfl,rfl,rfl⟩,nf,q⟩
def Ah(ti:DTE):DTI:=fun e M R=>ti e M fun x M1=>∃ ds,p8 M1 x ds∧R ds (fun M'=>p8 M' x ds) M1
theorem t8{tg iter:Expr}{ti:DTE}(hi:JE X iter ti):JI X tg iter (Ah ti):=⟨have hi:=hi.out;PI.imp (BF hi) (by rintro σ H R ⟨e,M,R',ok,am,t,f⟩;exact⟨e,M,_,ok,am,t,fun x M1 ⟨ds,sq,r⟩ v H1 k1 a1 r1=>by
 have sq':=sq
 rcases sq with rfl|⟨p,rfl,hm⟩|rfl
 rotate_left 2
 ·obtain⟨a,xs,rfl,sq,l⟩:=r1.il
  have wk:kF X.K H1 (Itl X.K a) ds (fun M'=>p8 M' (.vl ds) ds):=⟨fun i H' M' hi k am _=>by
    obtain⟨a',ys,e,sq',l'⟩:=(r1.mono k).il
    cases e
    exact⟨ys,_,sq',IS (by rw[l'.length];exact hi)⟩,
   fun i H' M' x H'' hi k am _ zz=>by
    obtain⟨e,y⟩:=zz
    subst e
    obtain⟨a',ys,e,sq',l'⟩:=(r1.mono k).il
    cases e
    obtain⟨d,hd,r⟩:=l'.getV (y ys sq')
    exact⟨d,hd,KT.refl _,am,r⟩,
   fun i H' M' hi k am _=>by
    obtain⟨a',ys,e,sq',l'⟩:=(r1.mono k).il
    cases e
    exact⟨ys,sq',by rw[l'.length];exact hi⟩,fun _ _ _ st hq=>O6 st hq⟩
  exact⟨a,true,rfl,⟨xs,sq⟩,f ds _ M1 r H1 k1 a1 _ wk⟩
 ·cases r1 with
  | tup s l =>
   refine⟨_,false,rfl,⟨_,s⟩,f ds _ M1 r H1 k1 a1 _ ?_⟩
   have w:=rX (K:=X.K) s l
   exact⟨fun i H' M' a b c _=>w.go i H' M' a b c trivial,fun i H' M' y H2 a b c _ g=>w.yld i H' M' y H2 a b c trivial g,fun i H' M' a b c _=>w.stop i H' M' a b c trivial,fun _ _ _ st hq=>O6 st hq⟩
 ·cases r1
  obtain⟨xs,hx,l⟩:=a1.lst hm
  refine⟨p,true,rfl,⟨xs,SqL.of hx⟩,f ds _ M1 r H1 k1 a1 _ ?_⟩
  have w:=si (K:=X.K) (H1:=H1) (p:=p) (ds:=ds)
  have cv:∀{M':Mem},p8 M' (.ref p) ds→M' p=some (.lst ds):=fun z=>by
   rcases z with z|⟨p',z,h⟩|z
   ·cases z
   ·cases z;exact h
   ·cases z
  exact⟨fun i H' M' a b c z=>w.go i H' M' a b c (cv z),fun i H' M' y H2 a b c z g=>w.yld i H' M' y H2 a b c (cv z) g,fun i H' M' a b c z=>w.stop i H' M' a b c (cv z),fun _ _ _ st hq=>O6 st hq⟩⟩)⟩
end
theorem uM{K:Iy}{mg:Str→Option Value}{h:Heap}{x:Str}{a b c:Addr}{od od1 od2:Option Addr}{osl osl1 osl2:Array (Option Value)}{i j k l:Int}{t1 t2 t3 t4:Tok}{cap cap1 cap2:Nat}(X:K.In h)(G:h.Ns mainGlobals mg)
  (n:PySem.W.nsIn K mainGlobals x=some (some (.ref a))) (l0:K.lookup a=some ⟨.type "tuple",od,.seq #[.ref b,.ref c] cap,osl⟩)
  (l1:K.lookup b=some ⟨.type "tuple",od1,.seq #[.int i t1,.int j t2] cap1,osl1⟩) (l2:K.lookup c=some ⟨.type "tuple",od2,.seq #[.int k t3,.int l t4] cap2,osl2⟩):GlD K mg x (.tup [.tup [.int i,.int j],.tup [.int k,.int l]]):=by
 have two:(2:Nat)≤sizeLine:=by decide
 have p1:∀ H:Hp,Has K H (.ref b) (.tup [.int i,.int j]):=fun H=>.tup (xs:=[.int i,.int j]) (.inr ⟨_,_,_,l1,rfl,rfl,two,.cons (show j6 (.int i) (.int i t1)from⟨t1,rfl⟩) (.cons (show j6 (.int j) (.int j t2)from⟨t2,rfl⟩) .nil)⟩) (.cons (.int i) (.cons (.int j) .nil))
 have p2:∀ H:Hp,Has K H (.ref c) (.tup [.int k,.int l]):=fun H=>.tup (xs:=[.int k,.int l]) (.inr ⟨_,_,_,l2,rfl,rfl,two,.cons (show j6 (.int k) (.int k t3)from⟨t3,rfl⟩) (.cons (show j6 (.int l) (.int l t4)from⟨t4,rfl⟩) .nil)⟩) (.cons (.int k) (.cons (.int l) .nil))
 exact⟨.ref a,.ref a,PySem.W.mg_of X G n,rfl,fun H=>.tup (xs:=[.ref b,.ref c]) (.inr ⟨_,_,_,l0,rfl,rfl,two,.cons (show j6 (.ref b) (.ref b)from rfl) (.cons (show j6 (.ref c) (.ref c)from rfl) .nil)⟩) (.cons (p1 H) (.cons (p2 H) .nil))⟩
theorem yM{ds:List D}{r:Int}(h0:0≤r)(h1:r<ds.length):∃ d,atI ds r=some d∧d∈ds:=by
 unfold atI ixN
 rw[if_pos h0,if_pos h1]
 have hl:r.toNat<ds.length:=by omega
 exact⟨ds[r.toNat],by simp[hl],Kw hl⟩
section
variable {X:Cx}
end
section
variable {X:Cx}
def oN:DRM:=fun x xs M R=>∃ l ds v,x = .ref l∧xs=[v]∧M l=some (.lst ds)∧ds.length<sizeLine∧R .non (B7 M l (.lst (ds++[v])))
theorem P6:DMt X "list.append" oN:=MtR.imp (r:=nQ) eL (by
 rintro x xs H Q ⟨dx,ds,M,R,hx,hl,am,⟨l,es,v,e1,e2,hM,hz,r⟩,f⟩
 subst e1;subst e2
 cases hx
 obtain⟨w,rfl,hw⟩:=hl.one
 obtain⟨ys,hy,ly⟩:=am.lst hM
 exact⟨l,ys,w,rfl,rfl,hy,by rw[ly.length];exact hz,f _ _ r _ _ (KT.write hy) (am.write hy (ly.append (.cons hw .nil))) .non⟩)
end
section
variable {X:Cx}
end
noncomputable abbrev DTO:=Ev→Mem→(Option Int→Mem→Prop)→Prop
def upO(K:Iy)(t:DTO):TO:=fun σ H Q=>∃ e M R,t7 K H σ e∧j7 K H M∧t e M R∧∀ o M',R o M'→∀ H',KT H H'→j7 K H' M'→Q o H'
def DPO(X:Cx)(e:Option Expr)(t:DTO):Prop:=PO X e (upO X.K t)
structure JO(X:Cx)(e:Option Expr)(t:DTO):Prop where
 out:DPO X e t
def oV:DTO:=fun _ M R=>R none M
def An(t:DTE):DTO:=fun e M R=>t e M fun x M1=>∃ i,x = .int i∧R (some i) M1
theorem PO.imp{X:Cx}{e:Option Expr}{t t':TO}(h:PO X e t)(i:∀ σ H Q,t' σ H Q→t σ H Q):PO X e t':=fun pins s σ H Q I q=>h pins s σ H Q I (i σ H Q q)
section
variable {X:Cx} {e:Expr} {te:DTE} {lo hi:Option Expr} {tl th:DTO} {pos p2:Pos}
theorem A3:JO X none oV:=⟨PO.imp xP (by rintro σ H Q ⟨e,M,R,ok,am,t,f⟩;exact f none M t H (KT.refl H) am)⟩
theorem A2(h:JE X e te):JO X (some e) (An te):=⟨have h:=h.out;PO.imp (xO h) (by rintro σ H Q ⟨e,M,R,ok,am,t,f⟩;exact⟨e,M,_,ok,am,t,fun x M1 ⟨i,z,r⟩ v H1 k1 a1 r1=>by
 subst z;cases r1
 exact⟨i,rfl,f (some i) M1 r H1 k1 a1⟩⟩)⟩
noncomputable def K0(ds:List D)(lo hi:Option Int):List D:=(ds.drop (HT.sIx ds.length 0 lo)).take (HT.sIx ds.length ds.length hi - HT.sIx ds.length 0 lo)
theorem HasL.cut{K:Iy}{H:Hp}{xs:List V}{ds:List D}(h:HasL K H xs ds)(lo hi:Option Int):HasL K H (kl xs lo hi) (K0 ds lo hi):=by
 unfold kl K0
 rw[h.length]
 exact(h.drop _).take _
end
noncomputable def O2(ds:List D):List D:=ds.mapIdx fun i d=>.tup [.int i,d]
theorem E5(ds:List D):(O2 ds).length=ds.length:=by simp[O2]
theorem qm{ds:List D}{i:Nat}{d:D}(h:ds[i]? = some d):(O2 ds)[i]? = some (.tup [.int i,d]):=by
 unfold O2
 rw[Mk,h];rfl
theorem kc{ds:List D}{i:Nat}{x:D}(h:(O2 ds)[i]? = some x):∃ d,ds[i]? = some d∧x = .tup [.int i,d]:=by
 unfold O2 at h
 rw[Mk]at h
 cases e:ds[i]? with
 | none=>rw[e]at h;cases h
 | some d=>rw[e]at h;exact⟨d,rfl,(Option.some.inj h).symm⟩
theorem pE{K:Iy}{H1:Hp}{x:D}{l:Addr}{ds:List D}(h1:Has K H1 (.ref l) x):kF K H1 (Ite K (jU x) l) (O2 ds) (fun M'=>p8 M' x ds) where
 go:=fun i H' M' hi k am s1=>by
  rw[E5]at hi
  obtain⟨a,xs,e1,q1,m1⟩:=t9 s1 am (h1.mono k)
  cases e1
  exact⟨xs,_,q1,IS (by rw[m1.length];omega)⟩
 yld:=fun i H' M' v H'' hi k am s1 zz=>by
  obtain⟨T,a,hT,ev,eH,u1⟩:=zz
  subst ev;subst eH
  obtain⟨a',xs,e1,q1,m1⟩:=t9 s1 am (h1.mono k)
  cases e1
  obtain⟨d1,g1,r1⟩:=m1.getV (u1 xs q1)
  have kt:KT H' (upd H' T (.tup [.int i,a])):=KT.alloc hT
  exact⟨_,qm g1,kt,am.alloc hT,.tup (SqT.of h7) (.cons (.int _) (.cons (r1.mono kt) .nil))⟩
 stop:=fun i H' M' hi k am s1=>by
  rw[E5]at hi
  obtain⟨a,xs,e1,q1,m1⟩:=t9 s1 am (h1.mono k)
  cases e1
  exact⟨xs,q1,by rw[m1.length];exact hi⟩
 up:=fun _ _ _ st hq=>O6 st hq
section
variable {X:Cx} {ta:DTA}
def vb(ta:DTA):DTI:=fun e M R=>ta e M fun xs M1=>∃ x ds,xs=[x]∧p8 M1 x ds∧R (O2 ds) (fun M'=>p8 M' x ds) M1
theorem jW{elts:List Expr}{kx:Nat}{tp:Pos}{a:Expr}{p pos:Pos}(hg:Gl X "enumerate")(hm:X.mg "enumerate" = none)(ha:JA X [a] ta)(hs:starEach [a] X.env=[(false,eval a X.env)]:=by rfl):JI X (.Tuple elts kx tp) (.Call (.Name "enumerate" p) [a] [] pos) (vb ta):=⟨have ha:=ha.out;PI.imp (xQ hg hm ha hs) (by rintro σ H R ⟨e,M,R',ok,am,t,f⟩;exact⟨e,M,_,ok,am,t,fun xs M1 ⟨x,ds,z,s1,r⟩ vs H1 k1 a1 r1=>by
  subst z
  obtain⟨v,rfl,hv⟩:=r1.one
  obtain⟨a,zs,rfl,q1,m1⟩:=t9 s1 a1 hv
  exact⟨_,a,rfl,⟨zs,q1⟩,f _ _ M1 r H1 k1 a1 _ (pE hv)⟩⟩)⟩
end
noncomputable def aG(M:Mem)(a:Addr):Mem:=fun b=>if b=a then none else M b
theorem gT{M:Mem}{a b:Addr}(h:b≠a):aG M a b=M b:=by unfold aG;rw[if_neg h]
theorem W9{M:Mem}{a:Addr}{o:MO}(h:M a=none):aG (B7 M a o) a=M:=by
 funext b;unfold aG B7;by_cases e:b=a
 ·rw[if_pos e,e,h]
 ·rw[if_neg e,if_neg e]
section
variable {K:Iy} {H:Hp} {M:Mem} {p:Addr}
theorem j7.at{o:HO}(h:j7 K H M)(k:KT0 H (upd H p o))(hp:M p=none):j7 K (upd H p o) M:=fun a u m=>by
 cases u with
 | lst ds =>
  obtain⟨xs,z,l⟩:=h a _ m
  have hn:a≠p:=by intro e;subst e;rw[hp]at m;cases m
  exact⟨xs,by rw[f9 hn];exact z,l.mono0 k⟩
 | ins C fs =>
  obtain⟨C0,dx,ys,z,l,hc⟩:=h a _ m
  have hn:a≠p:=by intro e;subst e;rw[hp]at m;cases m
  exact⟨C0,dx,ys,by rw[f9 hn];exact z,l.mono0 k,hc⟩
theorem j7.del(h:j7 K H M):j7 K H (aG M p):=fun a u m=>by
 by_cases e:a=p
 ·subst e;unfold aG at m;rw[if_pos rfl]at m;cases m
 ·rw[gT e]at m;exact h a u m
theorem qo:aG M p p=none:=by unfold aG;rw[if_pos rfl]
theorem j7.none_ext{φ:Heap→Prop}(h:j7 K H M)(e:H p=some (.ext φ)):M p=none:=by
 cases q:M p with
 | none=>rfl
 | some o =>
  cases o with
  | lst ds=>obtain⟨xs,z,_⟩:=h p _ q;rw[e]at z;cases z
  | ins C fs=>obtain⟨_,dx,ys,z,_⟩:=h p _ q;rw[e]at z;cases z
end
section
variable {X:Cx} {x:Expr} {t:DTE} {es:List Expr} {tr:DTA} {pos:Pos}
def Fh(t:DTE):DTE:=fun e M R=>t e M fun x M1=>∃ p ds,x = .ref p∧M1 p=some (.lst ds)∧R (.vl ds) (aG M1 p)
theorem cM(h:JE X x t):JE X x (Fh t):=⟨have h:=h.out;(Y7 h).imp (by rintro σ H Q ⟨e,M,R,ok,am,t,f⟩;exact⟨e,M,_,ok,am,t,fun d M1 ⟨p,ds,z,hm,r⟩ v H1 k1 a1 r1=>by
 subst z
 cases r1
 obtain⟨xs,hx,lx⟩:=a1.lst hm
 exact⟨p,xs,rfl,hx,fun o=>f _ _ r _ _ (k1.trans (KT.any hx)) (a1.del.at (KT.any hx).toKT0 qo) (.vl (.inl ⟨o,h7⟩) (lx.mono (KT.any hx)))⟩⟩)⟩
def Fj(t:DTE):DTE:=fun e M R=>t e M fun x M1=>∃ M2:Mem,(∀ b o,M2 b=some o→M1 b=some o)∧R x M2
theorem gK(h:JE X x t):JE X x (Fj t):=⟨have h:=h.out;PE.imp h (by rintro σ H Q ⟨e,M,R,ok,am,t,f⟩;exact⟨e,M,_,ok,am,t,fun d M1 ⟨M2,hs,r⟩ v H1 k1 a1 r1=>f d M2 r v H1 k1 (fun a o q=>a1 a o (hs a o q)) r1⟩)⟩
def Aq(t:DTA):DTE:=fun e M R=>t e M fun ds M1=>ds.length≤sizeLine∧R (.vl ds) M1
theorem W8{K:Iy}{H0 H:Hp}{M:Mem}{R:DK}{Q:VK}{vs:List V}{ds:List D}(f:cY K H0 R Q)(k:KT H0 H)(am:j7 K H M)(l:HasL K H vs ds)(r:R (.vl ds) M)(p:Addr)(hp:H p=none) :
  ∃ q xs,V.ref p = .ref q∧upd H p (.lst vs) q=some (.lst xs)∧∀ o,Q (.ref p) (upd (upd H p (.lst vs)) q (.frz o (.lst xs))) :=
 ⟨p,vs,rfl,h7,fun o=>by
  rw[S5]
  exact f _ M r _ _ (k.trans (KT.alloc hp)) (am.alloc hp) (.vl (.inl ⟨o,h7⟩) (l.mono (KT.alloc hp)))⟩
theorem W4(h:JA X es tr):JE X (.List es pos) (Aq tr):=⟨have h:=h.out;(Y7 (tT h)).imp (by rintro σ H Q ⟨e,M,R,ok,am,t,f⟩;exact⟨e,M,_,ok,am,t,fun ds M1 ⟨hz,h1⟩ vs H1 k1 a1 r1=>⟨by rw[r1.length];exact hz,fun p hp=>W8 f k1 a1 r1 h1 p hp⟩⟩)⟩
def uQ(x y:D)(M:Mem)(R:DK):Prop:=∃ xs ys,J4 M x=some xs∧J4 M y=some ys∧xs.length+ys.length≤sizeLine∧R (.vl (xs++ys)) M
def As(ta tb:DTE):DTE:=fun e M R=>ta e M fun x M1=>tb e M1 fun y M2=>uQ x y M2 R
theorem W5{a b:Expr}{ta tb:DTE}(ha:JE X a ta)(hb:JE X b tb):JE X (.BinOp a .Add b pos) (As ta tb):=⟨have ha:=ha.out;have hb:=hb.out;(Y7 (Ab ya ha hb)).imp (by rintro σ H Q ⟨e,M,R,ok,am,t,f⟩;exact⟨e,M,_,ok,am,t,fun x M1 h1 v H1 k1 a1 r1=>⟨e,M1,_,ok.mono k1,a1,h1,fun y M2 ⟨xs,ys,e1,e2,hz,r⟩ u H2 k2 a2 r2=>by
  obtain⟨a,vs,rfl,s1,l1⟩:=y9 a2 (r1.mono k2) e1
  obtain⟨b,ws,rfl,s2,l2⟩:=y9 a2 r2 e2
  exact⟨a,b,vs,ws,rfl,rfl,s1,s2,by rw[l1.length,l2.length];exact hz,fun p hp=>W8 f (k1.trans k2) a2 (l1.append l2) r p hp⟩⟩⟩)⟩
def yB(x:D)(lo hi:Option Int)(M:Mem)(R:DK):Prop:=(∃ ds,J4 M x=some ds∧R (.vl (K0 ds lo hi)) M) ∨ ∃ ds,x = .tup ds∧¬ (HT.sIx ds.length 0 lo=0∧HT.sIx ds.length ds.length hi=ds.length)∧R (.tup (K0 ds lo hi)) M
def EZ(te:DTE)(tl th:DTO):DTE:=fun e M R=>te e M fun x M1=>tl e M1 fun l M2=>th e M2 fun u M3=>yB x l u M3 R
theorem A4{e:Expr}{te:DTE}{lo hi:Option Expr}{tl th:DTO}{p2:Pos}(he:JE X e te)(hl:JO X lo tl)(hu:JO X hi th):JE X (.Subscript e (.Slice lo hi none p2) pos) (EZ te tl th):=⟨have he:=he.out;have hl:=hl.out;have hu:=hu.out;(xV (tS (SlR.or xm Bi) he hl hu)).imp (by rintro σ H Q ⟨e,M,R,ok,am,t,f⟩;exact⟨e,M,_,ok,am,t,fun x M1 h1 v H1 k1 a1 r1=>⟨e,M1,_,ok.mono k1,a1,h1,fun l M2 h2 H2 k2 a2=>⟨e,M2,_,(ok.mono k1).mono k2,a2,h2,fun u M3 h3 H3 k3 a3=>by
  rcases h3 with⟨ds,hi,r⟩|⟨ds,rfl,hw,r⟩
  ·obtain⟨a,xs,rfl,sq,lx⟩:=y9 a3 ((r1.mono k2).mono k3) hi
   exact .inl ⟨a,xs,rfl,sq,fun p hp=>.inl (W8 f (k1.trans (k2.trans k3)) a3 (lx.cut l u) r p hp)⟩
  ·cases(r1.mono k2).mono k3 with
   | tup sq lx =>
    exact .inr ⟨_,_,rfl,sq,by rw[lx.length];exact hw,fun p hp=>.inr (f _ M3 r _ _ ((k1.trans (k2.trans k3)).trans (KT.alloc hp)) (a3.alloc hp) (.tup (SqT.of h7) ((lx.cut l u).mono (KT.alloc hp))))⟩⟩⟩⟩)⟩
theorem HasL.rev{K:Iy}{H:Hp}:∀{xs:List V} {ds:List D},HasL K H xs ds→HasL K H xs.reverse ds.reverse
 | _,_,.nil=>.nil
 | _,_,.cons h t=>by rw[Kp,Kp];exact(HasL.rev t).append (.cons h .nil)
def uO(x:D)(M:Mem)(R:DK):Prop:=∃ ds,J4 M x=some ds∧R (.vl ds.reverse) M
def gN(ds:List D)(M:Mem)(R:DK):Prop:=∃ x ys,ds=[x]∧p8 M x ys∧R (.vl ys) M
def vm(t:DTA):DTE:=fun e M R=>t e M fun ds M1=>gN ds M1 R
end
section
variable {X:Cx} {e:Expr} {es:List Expr} {t:DTA} {x:Str} {p pos:Pos}
theorem cK(hg:Gl X x)(hm:X.mg x=none)(hv:bootBuiltins x=some (.type "list"))(ha:JA X (e :: es) t)
  (hn:x ≠ "__name__" := by decide) (hdb:(x == ("__debug__" : Str))=false:=by decide) (he:starEach (e :: es) X.env=(false,eval e X.env) :: starEach es X.env:=by rfl) (hpl:(backTo pos (starEach es X.env)).any (·.1)=false:=by rfl):JE X (.Call (.Name x p) (e :: es) [] pos) (vm t):=⟨have ha:=ha.out;(Y7 (Y8 ig hg hm hv ha hn hdb he hpl)).imp (by rintro σ H Q ⟨e,M,R,ok,am,t,f⟩;exact⟨e,M,_,ok,am,t,fun ds M1 ⟨d,ys,z,sq,r⟩ vs H1 k1 a1 r1=>by
  subst z
  obtain⟨v,rfl,hv⟩:=r1.one
  obtain⟨a,xs,rfl,q1,m1⟩:=t9 sq a1 hv
  refine⟨a,xs,rfl,?_,fun p hp=>W8 f k1 a1 m1 r p hp⟩
  cases hk:jU d with
  | true=>rw[hk]at q1;exact .inl q1
  | false=>rw[hk]at q1;exact .inr q1⟩)⟩
variable {te:DTE} {pos':Pos}
end
section
variable {X:Cx}
end
noncomputable abbrev X3:=Ev→Mem→(Bool→Mem→Prop)→Prop
abbrev FF(X:Cx)(ifs:List Expr)(t:X3):Prop:=aK X ifs (upT X.K t)
structure Dc(X:Cx)(ifs:List Expr)(t:X3):Prop where
 out:FF X ifs t
def vh:X3:=fun _ M R=>R true M
theorem aK.imp{X:Cx}{ifs:List Expr}{t t':TT}(h:aK X ifs t)(i:∀ σ H Q,t' σ H Q→t σ H Q):aK X ifs t':=fun pins s σ H Q I q=>h pins s σ H Q I (i σ H Q q)
theorem p5{X:Cx}:Dc X [] vh:=⟨aK.imp tO (by rintro σ H Q ⟨e,M,R,ok,am,t,f⟩;exact f true M t H (KT.refl H) am)⟩
structure pD(e0:Ev)(g:DTG)(tc:X3)(te:DTE)(ds:List D)(stay:Mem→Prop)(M1:Mem)(E:List D→Mem→Prop)(W:Nat→List D→Mem→Prop):Prop where
 start:W 0 [] M1
 stays:∀ i ys M,i≤ds.length→W i ys M→stay M
 turn:∀(i:Nat) (d:D) ys M,ds[i]? = some d→W i ys M→g d e0 M fun e2 M2=>tc e2 M2 fun b M3=>if b=true then te e2 M3 fun v M4=>ys.length<sizeLine∧W (i+1) (ys++[v]) M4 else W (i+1) ys M3
 done:∀ ys M,W ds.length ys M→E ys M
def vV(e0:Ev)(g:DTG)(tc:X3)(te:DTE)(ds:List D)(stay:Mem→Prop)(M1:Mem)(R:DK):Prop:=∃ W,pD e0 g tc te ds stay M1 (fun ys M=>R (.vl ys) M) W
def lZ(n:Nat)(caps:List Nat)(ti:DTI)(g:DTG)(tc:X3)(te:DTE):DTE:=fun e M R=>ti e M fun ds stay M1=>vV (kz n caps e) g tc te ds stay M1 R
section
variable {X:Cx} {elt tg iter:Expr} {scope:Scope} {tgs cps:List Str} {caps:List Nat} {ti:DTI} {g:DTG} {tc:X3} {te:DTE} {pos:Pos} {ifs:List Expr}
def CWH(K:Iy)(H1:Hp)(D0:Addr)(len:Nat)(W:Nat→List D→Mem→Prop)(i m:Nat)(H':Hp):Prop:=m=len - i∧i≤len∧∃ M' ys xs,KT H1 H'∧j7 K H' M'∧H' D0=some (.lst xs)∧M' D0=none∧HasL K H' xs ys∧W i ys M'
theorem eR{K:Iy}{H1:Hp}{J:It}{ds:List D}{stay:Mem→Prop}{M1:Mem}{n:Nat}{caps:List Nat}{σ:St}{e:Ev}{E:List D→Mem→Prop}{W:Nat→List D→Mem→Prop}{D0:Addr}{Qd:Hp→Prop}(ok:t7 K H1 σ e)(a1:j7 K H1 M1)(wk:kF K H1 J ds stay)(hD:H1 D0=none)
  (C:pD (kz n caps e) g tc te ds stay M1 E W) (fin:∀ ys M xs H',KT H1 H'→j7 K H' M→H' D0=some (.lst xs)→M D0=none→HasL K H' xs ys→E ys M→Qd H') (i m:Nat) (H2:Hp) (w:CWH K H1 D0 ds.length W i m H2) :
  (J.stop i H2∧Qd H2)∨(J.go i H2∧∀ x H',J.yld i H2 x H'→(∃ p,sC p (upG K g) x (ia n caps σ) H' fun σ2 H3=>∃ p,sA p (upT K tc) σ2 H3 fun b H3'=>if b=true then ∃ p,sD p (up K te) σ2 H3' fun v H4 =>
   ∃ ys,H4 D0=some (.lst ys)∧ys.length<sizeLine∧∃ m',m'<m∧CWH K H1 D0 ds.length W (i+1) m' (upd H4 D0 (.lst (ys++[v])))else ∃ m',m'<m∧CWH K H1 D0 ds.length W (i+1) m' H3')):=by
 obtain⟨rfl,hi,M2,ys,xs,k2,a2,hx,hM,lx,w2⟩:=w
 have a2':j7 K H2 (B7 M2 D0 (.lst ys)):=fun a o q=>by
  by_cases e:a=D0
  ·subst e;rw[i3]at q;cases q;exact⟨xs,hx,lx⟩
  ·rw[F9 e]at q;exact a2 a o q
 have st:=wk.up _ D0 (.lst ys) (C.stays i ys M2 hi w2) hM
 by_cases hlt:i<ds.length
 ·refine .inr ⟨wk.go i H2 _ hlt k2 a2' st,fun y H' yl=>?_⟩
  obtain⟨d,hd,k3,a3',r⟩:=wk.yld i H2 _ y H' hlt k2 a2' st yl
  obtain⟨xs',hx',lx'⟩:=a3'.lst i3
  have a3:j7 K H' M2:=fun a o q=>by
   have e:a≠D0:=by intro e;subst e;rw[hM]at q;cases q
   exact a3' a o (by rw[F9 e];exact q)
  have kh:KT H' (upd H' D0 (W6 D0 xs')):=KT.any hx'
  have k1h:=(k2.trans k3).trans kh
  have same:∀{H3:Hp},H3 D0=some (W6 D0 xs')→upd (upd H3 D0 (.lst xs')) D0 (W6 D0 xs')=H3:=fun{H3} q=>by
   rw[S5];funext b;by_cases e:b=D0
   ·subst e;rw[h7,q]
   ·rw[f9 e]
  refine⟨D0,xs',hx',d,kz n caps e,M2,_,r.mono kh,yF n caps (ok.mono k1h),a3.at kh.toKT0 hM,C.turn i d ys M2 hd w2,fun e3 M3 h3 σ3 H3 k4 a4 ok3=>?_⟩
  have q3:H3 D0=some (W6 D0 xs'):=k4.ex D0 _ h7
  refine⟨q3,D0,xs',h7,?_⟩
  rw[same q3]
  refine⟨e3,M3,_,ok3,a4,h3,fun b M4 h4 H4 k5 a5=>?_⟩
  have q4:H4 D0=some (W6 D0 xs'):=k5.ex D0 _ q3
  refine⟨q4,?_⟩
  have kk:=k1h.trans (k4.trans k5)
  cases b with
  | false =>
   have h4':W (i+1) ys M4:=h4
   show ∃ m',m'<ds.length - i∧CWH K H1 D0 ds.length W (i+1) m' (upd H4 D0 (.lst xs'))
   exact⟨ds.length - (i+1),by omega,rfl,hlt,M4,ys,xs',kk.new hD,a5.at (KT0.ext q4) (a5.none_ext q4),h7,a5.none_ext q4,(lx'.mono (kh.trans (k4.trans k5))).mono0 (KT0.ext q4),h4'⟩
  | true =>
   show ∃ p,sD p (up K te) σ3 (upd H4 D0 (.lst xs')) _
   refine⟨D0,xs',h7,?_⟩
   rw[same q4]
   refine⟨e3,M4,_,ok3.mono k5,a5,h4,fun dv M5 ⟨hz,w5⟩ vv H5 k6 a6 r6=>?_⟩
   have q5:H5 D0=some (W6 D0 xs'):=k6.ex D0 _ q4
   refine⟨q5,xs',h7,by rw[lx'.length];exact hz,ds.length - (i+1),by omega,rfl,hlt,M5,ys++[dv],xs'++[vv],?_,?_,h7,a6.none_ext q5,?_,w5⟩
   ·rw[S5];exact(kk.trans k6).new hD
   ·rw[S5];exact a6.at (KT0.ext q5) (a6.none_ext q5)
   ·rw[S5];exact((lx'.mono (kh.trans (k4.trans (k5.trans k6)))).mono0 (KT0.ext q5)).append (.cons (r6.mono0 (KT0.ext q5)) .nil)
 ·have e':i=ds.length:=by omega
  subst e'
  exact .inl ⟨wk.stop _ H2 _ (IL _) k2 a2' st,fin ys M2 xs H2 k2 a2 hx hM lx (C.done ys M2 w2)⟩
theorem D6(caps:List Nat)(tgs cps:List Str)(hc:X.calm=true)(hcell:∀ x∈scope.names,x.2 ≠ .cell)(hkind:scope.kind = .function)(hnames:∀ x∈scope.names,x.2 = .local→scope.names.lookup x.1=some .local)
  (hfr:∀ x∈scope.names,x.2 = .free→x.1∈cps) (hN:caps.map (fun i=>X.N[i]?)=cps.map some) (hX:∀ x∈cps,X.env.scope.names.lookup x=some .cell∧scope.names.lookup x=some .free)
  (hsc:∀ x∈cps,(relabel scope X.env).names.lookup x=some .cell∨(relabel scope X.env).names.lookup x=some .free)
  (hi:JI X tg iter ti) (hg:∀ cl s3 H3 C fp pins,JG (cxF X scope cl (tgs++cps) s3 H3 C fp pins) tg g) (hq:∀ cl s3 H3 C fp pins,Dc (cxF X scope cl (tgs++cps) s3 H3 C fp pins) ifs tc) (he:∀ cl s3 H3 C fp pins,JE (cxF X scope cl (tgs++cps) s3 H3 C fp pins) elt te)
  (hs:∀ x,foldedSetIterable iter X.env x=pure x:=by intro _;rfl):JE X (.ListComp elt [⟨tg,iter,ifs,0⟩] scope pos) (lZ tgs.length caps ti g tc te):=⟨have hi:=hi.out;have hg:=fun v0 v1 v2 v3 v4 v5=>(hg v0 v1 v2 v3 v4 v5).out;have hq:=fun v0 v1 v2 v3 v4 v5=>(hq v0 v1 v2 v3 v4 v5).out;have he:=fun v0 v1 v2 v3 v4 v5=>(he v0 v1 v2 v3 v4 v5).out;(Y7 (tV (tgs:=tgs) (cps:=cps) (caps:=caps) hc hcell hkind hnames hfr hN hX hsc hi (fun cl s3 H3 C fp pins=>nS (hg cl s3 H3 C fp pins)) (fun cl s3 H3 C fp pins=>eG (hq cl s3 H3 C fp pins)) (fun cl s3 H3 C fp pins=>nT (he cl s3 H3 C fp pins)) hs)).imp (by rintro σ H Q ⟨e,M,R,ok,am,t,f⟩;exact⟨e,M,_,ok,am,t,fun ds stay M1 hW H1 k1 a1 J wk=>by
  intro D0 hD
  obtain⟨W,C⟩:=hW
  refine⟨fun i m H'=>CWH X.K H1 D0 ds.length W i m H',⟨ds.length,by simp,Jr _,M1,[],[],KT.alloc hD,a1.alloc hD,h7,a1.fresh hD,.nil,C.start⟩,fun i m H2 w=>eR (Qd:=fun H'=>∃ p xs,V.ref D0 = .ref p∧H' p=some (.lst xs)∧∀ o,Q (.ref D0) (upd H' p (.frz o (.lst xs)))) (ok.mono k1) a1 wk hD C (fun ys M2 xs H' k2 a2 hx hM lx r=>?_) i m H2 w⟩
  exact⟨D0,xs,rfl,hx,fun o=>f _ M2 r _ _ (k1.trans (k2.trans (KT.any hx))) (a2.at (KT.any hx).toKT0 hM) (.vl (.inl ⟨o,h7⟩) (lx.mono (KT.any hx)))⟩⟩)⟩
theorem C2{i:Nat}{x:Str}{pos' pos2:Pos}(caps:List Nat)(tgs cps:List Str)(hNd:X.N.Nodup)(hxi:X.N[i]? = some x)(hx:Loc X.env.scope x)(hc:X.calm=true)(hcell:∀ x∈scope.names,x.2 ≠ .cell)(hkind:scope.kind = .function)(hnames:∀ x∈scope.names,x.2 = .local→scope.names.lookup x.1=some .local)
  (hfr:∀ x∈scope.names,x.2 = .free→x.1∈cps) (hN:caps.map (fun i=>X.N[i]?)=cps.map some) (hX:∀ x∈cps,X.env.scope.names.lookup x=some .cell∧scope.names.lookup x=some .free)
  (hsc:∀ x∈cps,(relabel scope X.env).names.lookup x=some .cell∨(relabel scope X.env).names.lookup x=some .free)
  (hi:JI X tg iter ti) (hg:∀ cl s3 H3 C fp pins,JG (cxF X scope cl (tgs++cps) s3 H3 C fp pins) tg g) (hq:∀ cl s3 H3 C fp pins,Dc (cxF X scope cl (tgs++cps) s3 H3 C fp pins) ifs tc) (he:∀ cl s3 H3 C fp pins,JE (cxF X scope cl (tgs++cps) s3 H3 C fp pins) elt te)
  (hsw:swapsWith (.ListComp elt [⟨tg,iter,ifs,0⟩] scope pos) (some (.Name x pos')) pos2.line X.env=pure true:=by rfl) (hs:∀ x,foldedSetIterable iter X.env x=pure x:=by intro _;rfl) (hf:X.fn x=true∨X.env.scope.names.lookup x=some .local:=by first|exact .inl rfl|exact .inr rfl|assumption):JS X (.Assign [.Name x pos'] (.ListComp elt [⟨tg,iter,ifs,0⟩] scope pos) pos2) (vn (lZ tgs.length caps ti g tc te) (S1 i)):=⟨have hi:=hi.out;have hg:=fun v0 v1 v2 v3 v4 v5=>(hg v0 v1 v2 v3 v4 v5).out;have hq:=fun v0 v1 v2 v3 v4 v5=>(hq v0 v1 v2 v3 v4 v5).out;have he:=fun v0 v1 v2 v3 v4 v5=>(he v0 v1 v2 v3 v4 v5).out;(xJ (Bw (tL (tgs:=tgs) (cps:=cps) (caps:=caps) hc hcell hkind hnames hfr hN hX hsc hi (fun cl s3 H3 C fp pins=>nS (hg cl s3 H3 C fp pins)) (fun cl s3 H3 C fp pins=>eG (hq cl s3 H3 C fp pins)) (fun cl s3 H3 C fp pins=>nT (he cl s3 H3 C fp pins)) hNd hxi hx hf hs)) hsw).imp (by rintro E σ H ⟨e,M,F,ok,am,t,f⟩;exact⟨e,M,_,ok,am,t,fun ds stay M1 hW H1 k1 a1 J wk=>by
  intro D0 hD
  obtain⟨W,C⟩:=hW
  refine⟨fun i m H'=>CWH X.K H1 D0 ds.length W i m H',⟨ds.length,by simp,Jr _,M1,[],[],KT.alloc hD,a1.alloc hD,h7,a1.fresh hD,.nil,C.start⟩,fun j m H2 w=>eR (Qd:=fun H'=>∃ p xs,V.ref D0 = .ref p∧H' p=some (.lst xs)∧∀ o,E.nx (σ.set i (some (.ref D0))) (upd H' p (.frz o (.lst xs)))) (ok.mono k1) a1 wk hD C (fun ys M2 xs H' k2 a2 hx hM lx r=>?_) j m H2 w⟩
  exact⟨D0,xs,rfl,hx,fun o=>f.nx _ M2 r _ _ (k1.trans (k2.trans (KT.any hx))) (a2.at (KT.any hx).toKT0 hM) ((ok.mono (k1.trans (k2.trans (KT.any hx)))).set (.vl (.inl ⟨o,h7⟩) (lx.mono (KT.any hx))) i)⟩⟩)⟩
end
section
variable {X:Cx} {e:Expr} {te:DTE} {p1 p2 pos pos2:Pos}
theorem SqL.upd{K:Iy}{H:Hp}{a it:Addr}{xs:List V}{o:HO}(h:SqL K H a xs)(ne:a≠it):SqL K (upd H it o) a xs:=h.elim (fun z=>.inl (by unfold Rd at z ⊢;rw[f9 ne];exact z)) .inr
def Am(te:DTE):DTE:=fun e M R=>te e M fun x M1=>uO x M1 R
theorem lW(hc:X.calm=true)(g1:Gl X "list")(m1:X.mg "list" = none)(v1:bootBuiltins "list" = some (.type "list"))(g2:Gl X "reversed")(m2:X.mg "reversed" = none)(v2:bootBuiltins "reversed" = some (.type "reversed"))(he:JE X e te)
  (h1:starEach [e] X.env=(false,eval e X.env) :: starEach [] X.env:=by rfl) (h2:starEach [.Call (.Name "reversed" p2) [e] [] pos2] X.env=(false,eval (.Call (.Name "reversed" p2) [e] [] pos2) X.env) :: starEach [] X.env:=by rfl):JE X (.Call (.Name "list" p1) [.Call (.Name "reversed" p2) [e] [] pos2] [] pos) (Am te):=⟨have he:=he.out;(Y7 (Y8 (me hc) g1 m1 v1 (gj (Y8 ko g2 m2 v2 (gj he lJ h1) (by decide) (by decide) h1) lJ h2) (by decide) (by decide) h2)).imp (by rintro σ H Q ⟨e,M,R,ok,am,t,f⟩;exact⟨e,M,_,ok,am,t,fun x M1 ⟨ds,hi,r⟩ v H1 k1 a1 r1=>by
  obtain⟨a,xs,rfl,sq,lx⟩:=y9 a1 r1 hi
  refine⟨a,xs,rfl,sq,fun it hit hne hge=>⟨it,a,xs,rfl,h7,SqL.upd sq (Ne.symm hne),Ne.symm hne,hge,fun p hp=>?_⟩⟩
  have q1:p≠it:=fun z=>by rw[z,h7]at hp;cases hp
  rw[f9 q1]at hp
  have e1:∀ o u,cQ (L2.upd (L2.upd H1 it o) p u) it=L2.upd H1 p u:=fun o u=>by
   funext b
   by_cases z:b=it
   ·subst z;rw[cO,f9 (Ne.symm q1),hit]
   ·rw[cP z]
    by_cases y:b=p
    ·subst y;rw[h7,h7]
    ·rw[f9 y,f9 y,f9 z]
  rw[e1]
  exact W8 f k1 a1 lx.rev r p hp⟩)⟩
theorem SqK.upd{K:Iy}{k:Bool}{H:Hp}{a it:Addr}{xs:List V}{o:HO}(h:SqK K k H a xs)(ne:a≠it):SqK K k (L2.upd H it o) a xs:=by
 cases k with
 | true=>exact SqL.upd (show SqL K H a xs from h) ne
 | false=>exact(show SqT K H a xs from h).elim (fun z=>.inl (by unfold Rd at z ⊢;rw[f9 ne];exact z)) .inr
def vc(n:Nat)(t:O4):DTG:=fun d e M R=>∃ ds,J4 M d=some ds∧ds.length=n∧t ds e M R
theorem uD{xs:List Expr}{k:Nat}{t:O4}{n:Nat}(hc:X.calm=true)(h:JGs X xs t)
  (hn:(assignEach xs X.env).length=n:=by rfl) (hst:(assignEach xs X.env).findIdx? (·.1)=none:=by rfl):JG X (.Tuple xs k pos) (vc n t):=⟨have h:=h.out;PG.imp (xS hc h hn hst) (by
  rintro v σ H Q ⟨d,e,M,R,r,ok,am,⟨ds,hi,hl,g⟩,f⟩
  obtain⟨a,xs,e1,sq,lx⟩:=y9 am r hi
  exact⟨a,xs,e1,sq,by rw[lx.length];exact hl,ds,e,M,R,lx,ok,am,g,f⟩)⟩
end
end DL
namespace L2
open PySem PySem.Spec PyProof.Rows
section
variable {X:Cx} {pos:Pos}
end
end L2
namespace DL
open PySem PySem.Spec L2
open PyProof.Rows hiding St
section
variable {X:Cx}
theorem HasL.intsV{K:Iy}{H:Hp}:∀{ns:List Int} {vs:List V},HasL K H vs (ns.map D.int)→vs=ns.map V.int
 | [],_,h=>by cases h;rfl
 | n :: r,_,h=>by
  cases h with
  | cons a b=>cases a;rw[HasL.intsV (ns:=r) b];rfl
end
section
variable {X:Cx}
theorem qq(hc:X.calm=true):v9 X (.builtin "sum") (fun xs H Q=>∃(l:Addr) (ns:List Int),xs=[.ref l]∧SqL X.K H l (ns.map V.int)∧Q (.int ns.sum) H):=by
 intro pins s σ H xs us Q I r h
 obtain⟨l,ns,rfl,hS,q⟩:=h
 obtain⟨u,rfl,ru⟩:=iY r
 cases ru
 obtain⟨its,rv,p,_⟩:=I.list hS
 have hi:IntsAre its ns:=cN rv
 have hl:s.heap.IsList l its.toArray:=p.isList
 obtain⟨xs,e⟩:=hi.allInts.items
 have hns:ns=xs.toList.map (·.1):=by
  rw[← hi.numsOf,← nums_intItems,← e]
 rw[e]at hl
 refine PySem.sum_intListG (I.ok.hd hc) hl fun h2 t2 t3 kept2=>?_
 refine⟨.int _,H,I.kept kept2,⟨t3,rfl⟩,?_⟩
 rw[preSum_eq,JD (by simp),← hns]
 exact q
def EK:DRC:=fun ds M R=>∃(d:D) (ns:List Int),ds=[d]∧J4 M d=some (ns.map D.int)∧R (.int ns.sum) M
theorem Fw(hc:X.calm=true):ax X (.builtin "sum") EK:=v9.imp (qq hc) (by
 rintro xs H Q ⟨ds,M,R,hl,am,⟨d,ns,z,hM,r⟩,f⟩
 subst z
 obtain⟨v,rfl,hv⟩:=hl.one
 obtain⟨a,vs,rfl,s,l⟩:=y9 am hv hM
 rw[l.intsV]at s
 exact⟨a,ns,rfl,s,f _ M r _ H (KT.refl H) am (.int _)⟩)
end
theorem CM:bootBuiltins "sum" = some (.builtin "sum"):=by decide +kernel
section
variable {X:Cx} {a b c:Expr} {ta tb tc:DTE} {pos:Pos}
end
section
variable {K:Iy}
end
section
variable {X:Cx} {x:Expr} {t:DTE}
end
theorem eK{P:Program}{w:World}{H:Hp}{h:Heap}{a:Addr}{o:HO}(x:v8 P w H h a o):∃ u,h.get? a=some u:=by
 cases o with
 | lst _=>obtain⟨_,_,_,_,e⟩:=x;exact⟨_,e⟩
 | tup _=>obtain⟨_,_,_,o,e,_⟩:=x;exact⟨_,e⟩
 | dK _=>obtain⟨_,_,_,_,o,_,_,e,_⟩:=x;exact⟨_,e⟩
 | dT _=>obtain⟨_,_,_,_,o,_,_,e,_⟩:=x;exact⟨_,e⟩
 | set _ _=>obtain⟨o,_,_,_,e,_⟩:=x;exact⟨_,e⟩
 | ins _ _ _=>obtain⟨_,_,_,e,_⟩:=x;exact⟨_,e⟩
 | own _=>exact x
 | xd _=>obtain⟨_,⟨_,_,_,e,_⟩,_⟩:=x;exact⟨_,e⟩
 | rng _ _=>obtain⟨_,_,_,e⟩:=x;exact⟨_,e⟩
 | frz _ _=>exact⟨_,x.1⟩
 | tbl _=>exact⟨_,show h.get? a=some _ from x⟩
 | met _ _=>exact⟨_,show h.get? a=some _ from x⟩
 | ext _=>exact x.2.1
noncomputable def Ey(X:Cx):St:=Km X.N.length none
def Cov(B s0:Heap)(H':Hp)(fs:List Addr)(h:Heap):Prop:=∀ b o,h.get? b=some o→((∃ u,H' b=some u) ∨ ∃ o0,s0.get? b=some o0)→b∉fs→B.get? b=some o
def Air(B:Heap)(l:List Env)(a:Addr)(cls a0:Value)(h:Heap):Prop:=Heap.FlyingW B l a cls a0 h ∨ ∃ env l' L,l=env :: l'∧env.frame=some L∧Heap.HeldW B l a cls a0 L h
section
variable {M:Model} {A:Around} {E:Value→Shared→Prop} {s:Shared} {B:Heap} {l outer:List Env} {env:Env} {L a:Addr} {cls a0:Value} {Q:Unit→Shared→Prop}
theorem Air.frames{h:Heap}(x:Air B l a cls a0 h):h.FunFrames B l:=by
 rcases x with x|⟨_,_,_,_,_,x⟩
 ·exact x.2.2.1
 ·exact x.2.2.1
theorem Air.base{h:Heap}(x:Air B l a cls a0 h):B.StaysIn h∧B.get? a=none:=by
 rcases x with x|⟨_,_,_,_,_,x⟩
 ·exact⟨x.1,x.2.1⟩
 ·exact⟨x.1,x.2.1⟩
theorem Air.data{h:Heap}(x:Air B l a cls a0 h):∃ oe vs,h.get? a=some oe∧oe.data = .fields vs:=by
 rcases x with⟨_,_,_,oe,vs,_,_,_,h1,_,h2,_⟩|⟨_,_,_,_,_,_,_,_,oe,vs,_,_,_,h1,_,h2,_⟩<;>exact⟨oe,vs,h1,h2⟩
end
noncomputable def XP(X:Cx)(mk:Bool)(EX:Value→Hp→Prop):Value→Shared→Prop:=fun e s' =>
 (mk=true∧∃ a cls h vs H',e = .ref a∧EX cls H'∧Heap.MadeExcOf h s'.heap a cls vs∧Inv X [] (Ey X) H' { s' with heap:=h }) ∨
 (∃ pins σ Hc sc a cls a0 H' B,Inv X pins σ Hc sc∧e = .ref a∧s'.os=sc.os∧AllBare s'.gens∧Un (frs X.stack) [] Hc H' sc.heap s'.heap∧HOk X.prog X.w H' s'.heap ∧
  X.base.StaysIn B∧Cov B sc.heap H' (frs X.stack) s'.heap∧Air B X.stack a cls a0 s'.heap∧EX cls H')
section
variable {P:Program} {w:World} {K:Iy} {mg:Str→Option Value} {base:Heap} {N:List Str} {qual:Str} {scope:Scope} {f:Addr} {cd:Value} {A:Around} {outer:List Env} {s:Shared} {H:Hp} {E:XK}
end
noncomputable def xN(x:Str):Value:=.str x 0
noncomputable def Gv(X:Cx)(H₀:Hp)(Y:DXK):Value→Hp→Prop:=fun c H'=>KT H₀ H'∧∃(x:Str) (C:Addr) (M':Mem),c = .ref C∧X.mg x=some (.ref C)∧j7 X.K H' M'∧Y (xN x) M'
noncomputable abbrev Cx.ex'(X:Cx)(mk:Bool)(H₀:Hp)(Y:DXK):Cx:=X.wish (XP X mk (Gv X H₀ Y))
section
variable {X:Cx} {mk:Bool} {H₀:Hp} {Y:DXK} {st:Stmt} {m9:List Stmt} {t u:DTS} {pos:Pos}
end
section
variable {P:Program} {w:World} {K:Iy} {mg:Str→Option Value} {base:Heap}
end
section
variable {X:Cx} {mk:Bool} {H₀:Hp} {Y:DXK} {pos cpos:Pos} {x:Str} {j:Nat} {ps:List Str} {sp:DSp} {p:Pos} {e:Expr} {es:List Expr} {t:DTA}
end
section
variable {X:Cx} {mk:Bool} {H₀:Hp} {Y:DXK} {pos:Pos} {e:Expr} {te:DTE}
end
section
variable {X:Cx} {mk:Bool} {EX:Value→Hp→Prop}
end
section
variable {X:Cx} {mk:Bool} {H₀:Hp} {Y:DXK} {pos:Pos} {c:Expr} {body:List Stmt} {tc:DTT} {tb:DTS}
end
section
variable {X:Cx} {H₀:Hp} {Y:DXK} {pos cpos np:Pos} {x:Str} {e₀:Expr} {te:DTE}
end
noncomputable abbrev Cx.pinned(X:Cx)(pn:List (Addr × Obj)):Cx:={ X with pn:=pn }
section
variable {X:Cx} {pins pn:List (Addr × Obj)} {σ:St} {H:Hp} {s:Shared}
end
section
variable {X:Cx} {body suite:List Stmt} {b0:Stmt} {c:Str} {np hpos pos:Pos} {tb:DXK→DTS} {ts:DTS}
end
section
variable {X:Cx} {body suite:List Stmt} {b0:Stmt} {c:Str} {np hpos pos:Pos} {tb:DXK→DTS} {ts:DTS}
end
end DL
namespace DL
open PySem PySem.Spec L2
def BlK(x:D)(M:Mem)(Q:Bool→Mem→Prop):Prop:=∃ k,x = .bl k∧Q k M
def IfK(c:Bool)(A B:Prop):Prop:=if c=true then A else B
def SzK(n:Nat)(A:Prop):Prop:=n≤sizeLine∧A
def FA(i j:Nat)(ds:List D)(F:X4)(e:Ev)(M:Mem):Prop:=∃ x y,ds=[x,y]∧F.nx ((e.set i (some x)).set j (some y)) M
def yO(x:D)(M:Mem)(Q:List D→(Mem→Prop)→Mem→Prop):Prop:=∃ ds,p8 M x ds∧Q ds (fun M'=>p8 M' x ds) M
def vT(xs:List D)(M:Mem)(Q:List D→(Mem→Prop)→Mem→Prop):Prop:=∃ x ds,xs=[x]∧p8 M x ds∧Q (O2 ds) (fun M'=>p8 M' x ds) M
def vK(xs:List D)(M:Mem)(Q:List D→(Mem→Prop)→Mem→Prop):Prop:=∃ x y ds es,xs=[x,y]∧p8 M x ds∧p8 M y es∧Q (Q4 ds es) (fun M'=>p8 M' x ds∧p8 M' y es) M
def Fz(xs:List D)(M:Mem)(Q:List D→(Mem→Prop)→Mem→Prop):Prop:=∃ j:Int,xs=[.int j]∧-(2 ^ 62)≤j∧j<2 ^ 62∧Q (K6 0 j.toNat) (fun _=>True) M
def X2(g:DTG)(tb:DTS)(F:X4)(ds:List D)(stay:Mem→Prop)(e:Ev)(M1:Mem):Prop:=∃ W:Nat→Ev→Mem→Prop,W 0 e M1∧(∀ i e M,i≤ds.length→W i e M→stay M) ∧
 (∀(i:Nat) (d:D) e M,ds[i]? = some d→W i e M→g d e M fun e2 M2=>tb { F with nx:=W (i+1),ct:=W (i+1),bk:=F.nx } e2 M2)∧∀ e M,W ds.length e M→F.nx e M
def yR(x:D)(M1:Mem)(R:DK):Prop:=∃ p ds,x = .ref p∧M1 p=some (.lst ds)∧R (.vl ds) (aG M1 p)
def AG(x:D)(M:Mem)(Q:Option Int→Mem→Prop):Prop:=∃ i,x = .int i∧Q (some i) M
def De(x:D)(M1:Mem)(R:DK):Prop:=∃ M2:Mem,(∀ b o,M2 b=some o→M1 b=some o)∧R x M2
def LMK(x:D)(M:Mem)(A:Prop):Prop:=(∃ l ds,x = .ref l∧M l=some (.lst ds))∧A
end DL
namespace DL
open PySem PySem.Spec L2
open PyProof.Rows hiding St
section
variable {e:Ev} {M:Mem} {R:DK} {F:X4} {ta tb tc:DTE} {tA tB:DTT} {tr:DTA} {t u:DTS}
theorem z_C{d:D}:dC d e M R=R d M:=rfl
theorem DO{g:DR2}:dOp g ta tb e M R=ta e M fun x M1=>tb e M1 fun y M2=>g x y M2 R:=rfl
theorem DM{g:D→Mem→DK→Prop}:dUn g ta e M R=ta e M fun x M1=>g x M1 R:=rfl
theorem DI{f:Int→Int→D}{i j:Int}:gF (fI f) (.int i) (.int j) M R=R (f i j) M:=propext ⟨fun zz=>by obtain⟨_,h,r⟩:=zz;cases h;exact r,fun r=>⟨_,rfl,r⟩⟩
theorem DJ{f:Bool→Bool→D}{i j:Bool}:gF (fB f) (.bl i) (.bl j) M R=R (f i j) M:=propext ⟨fun zz=>by obtain⟨_,h,r⟩:=zz;cases h;exact r,fun r=>⟨_,rfl,r⟩⟩
theorem DH{f:Str→Str→D}{i j:Str}:gF (fS f) (.str i) (.str j) M R=R (f i j) M:=propext ⟨fun zz=>by obtain⟨_,h,r⟩:=zz;cases h;exact r,fun r=>⟨_,rfl,r⟩⟩
theorem DG{C:Int→Int→Prop}{f:Int→Int→D}{i j:Int}:gI C f (.int i) (.int j) M R=(C i j∧R (f i j) M):=propext ⟨fun zz=>by obtain⟨_,_,h1,h2,c,r⟩:=zz;cases h1;cases h2;exact⟨c,r⟩,fun⟨c,r⟩=>⟨_,_,rfl,rfl,c,r⟩⟩
theorem DF{f:Int→D}{i:Int}:gU f (.int i) M R=R (f i) M:=propext ⟨fun zz=>by obtain⟨_,h,r⟩:=zz;cases h;exact r,fun r=>⟨_,rfl,r⟩⟩
theorem rz{Q:Bool→Mem→Prop}:oU ta e M Q=ta e M fun x M'=>BlK x M' Q:=rfl
theorem zP{b:Bool}{Q:Bool→Mem→Prop}:BlK (.bl b) M Q=Q b M:=propext ⟨fun zz=>by obtain⟨_,h,r⟩:=zz;cases h;exact r,fun r=>⟨_,rfl,r⟩⟩
theorem zR{Q:Bool→Mem→Prop}:Fl tA tB e M Q=tA e M fun c M1=>IfK c (tB e M1 Q) (Q false M1):=rfl
theorem DN{Q:Bool→Mem→Prop}:dOr tA tB e M Q=tA e M fun c M1=>IfK c (Q true M1) (tB e M1 Q):=rfl
theorem zx{Q:Bool→Mem→Prop}:Fe tA e M Q=tA e M fun c M1=>Q (!c) M1:=rfl
theorem rT:Au ta tb e M R=ta e M fun x M1=>BlK x M1 fun c M1=>IfK c (tb e M1 R) (R (.bl false) M1):=rfl
theorem rK:Ao ta e M R=ta e M fun x M1=>BlK x M1 fun c M1=>R (.bl (!c)) M1:=rfl
theorem DQ:dIf tA ta tb e M R=tA e M fun c M1=>IfK c (ta e M1 R) (tb e M1 R):=rfl
theorem zI:Fg tA t u F e M=tA e M fun c M1=>IfK c (t F e M1) (u F e M1):=rfl
theorem zy{Q:List D→Mem→Prop}:CC e M Q=Q [] M:=rfl
theorem rQ{Q:List D→Mem→Prop}:oW ta tr e M Q=ta e M fun x M1=>tr e M1 fun xs M2=>Q (x :: xs) M2:=rfl
theorem zr:EY tr e M R=tr e M fun ds M1=>SzK ds.length (R (.tup ds) M1):=rfl
theorem zG:Ff tr e M R=tr e M fun ds M1=>SzK ds.length (∀ p,M1 p=none→R (.ref p) (B7 M1 p (.lst ds))):=rfl
theorem P9{x y z:D}(h:ixD M x y=some z):gIx x y M R=R z M:=propext ⟨fun zz=>by obtain⟨_,h',r⟩:=zz;rw[h]at h';cases h';exact r,fun r=>⟨_,h,r⟩⟩
theorem dc{neg:Bool}{x y:D}{b:Bool}(h:isD x y=some b):gIs neg x y M R=R (.bl (neg.xor b)) M:=propext ⟨fun zz=>by obtain⟨_,h',r⟩:=zz;rw[h]at h';cases h';exact r,fun r=>⟨_,h,r⟩⟩
theorem zO{neg:Bool}{x y:D}:EN neg x y M R=(cl 60 x=true∧cl 60 y=true∧R (.bl (neg.xor (@decide (x=y) (Classical.propDecidable _)))) M):=rfl
theorem rS{sp:DSp}{dds:List D}{Y:DXK}:ki sp dds Y tr e M R=tr e M fun ds M1=>sp (ds++dds) M1 R Y:=rfl
theorem DR{g:DRC}:dCB g tr e M R=tr e M fun ds M1=>g ds M1 R:=rfl
theorem rL:Ap F e M=F.nx e M:=rfl
theorem zu:Fb t u F e M=t { F with nx:=u F } e M:=rfl
theorem rP:Ar ta F e M=ta e M fun _ M1=>F.nx e M1:=rfl
theorem zv:Fc ta F e M=ta e M F.rt:=rfl
theorem nq:vk F e M=False:=rfl
variable {Q:Ev→Mem→Prop}
theorem mV{i:Nat}{d:D}:S1 i d e M Q=Q (e.set i (some d)) M:=rfl
theorem rq:Ak [] e M Q=Q e M:=propext ⟨fun h=>h.2,fun h=>⟨rfl,h⟩⟩
theorem mW{g:DTG}{gs:O4}{d:D}{ds:List D}:vd g gs (d :: ds) e M Q=g d e M fun e' M'=>gs ds e' M' Q:=propext ⟨fun zz=>by obtain⟨_,_,h,r⟩:=zz;cases h;exact r,fun r=>⟨_,_,rfl,r⟩⟩
theorem iR{n:Nat}{gs:O4}{ds:List D}(h:ds.length=n):vc n gs (.vl ds) e M Q=gs ds e M Q:=propext ⟨fun zz=>by obtain⟨_,h',_,r⟩:=zz;cases h';exact r,fun r=>⟨_,rfl,h,r⟩⟩
theorem bO{n:Nat}{gs:O4}{ds:List D}(h:ds.length=n):kg n gs (.tup ds) e M Q=gs ds e M Q:=propext ⟨fun zz=>by obtain⟨_,h',_,r⟩:=zz;cases h';exact r,fun r=>⟨_,rfl,h,r⟩⟩
theorem rj{to ti:DTE}{ts:vU}{d:D}:Aj to ti ts d e M Q=to e M fun o M1=>ti e M1 fun i M2=>ts o i d M2 fun M3=>Q e M3:=rfl
theorem zQ{g:DTG}:vn ta g F e M=ta e M fun x M1=>g x e M1 F.nx:=rfl
theorem zw{i j:Nat}:Fd i j tr F e M=tr e M fun ds M1=>FA i j ds F e M1:=rfl
theorem rJ{i j:Nat}{x y:D}:FA i j [x,y] F e M=F.nx ((e.set i (some x)).set j (some y)) M:=propext ⟨fun zz=>by obtain⟨_,_,h,r⟩:=zz;cases h;exact r,fun r=>⟨_,_,rfl,r⟩⟩
theorem zS{i:Int}:ES [.int i] M R=R (.int (i.natAbs:Int)) M:=propext ⟨fun zz=>by obtain⟨_,h,r⟩:=zz;cases h;exact r,fun r=>⟨_,rfl,r⟩⟩
theorem zF{i j:Int}:EM [.int i,.int j] M R=R (.int (max i j)) M:=propext ⟨fun zz=>by obtain⟨_,_,h,r⟩:=zz;cases h;exact r,fun r=>⟨_,_,rfl,r⟩⟩
theorem nu{d:D}{n:Nat}(h:Ci M d=some n):ql [d] M R=R (.int (n:Int)) M:=propext ⟨fun zz=>by obtain⟨_,_,h',h2,r⟩:=zz;cases h';rw[h]at h2;cases h2;exact r,fun r=>⟨_,_,rfl,h,r⟩⟩
theorem m7{d:D}{ty T:String}{b:Bool}(h1:tyD M d=some ty)(h2:xk ty T=some b):u8 [d,.ty T] M R=R (.bl b) M:=propext ⟨fun zz=>by
 obtain⟨_,_,_,_,h,h1',h2',r⟩:=zz
 injection h with h h';subst h;injection h' with h';injection h' with h';subst h'
 rw[h1]at h1';cases h1';rw[h2]at h2';cases h2';exact r,fun r=>⟨_,_,_,_,rfl,h1,h2,r⟩⟩
theorem zJ{c:Bool}{A B:Prop}:IfK c A B=((c=true→A)∧(c=false→B)):=by cases c<;>simp[IfK]
theorem zH{A B:Prop}:IfK true A B=A:=by simp[IfK]
theorem zK{A B:Prop}:IfK false A B=B:=by simp[IfK]
theorem A5{n:Nat}{A:Prop}(h:n≤1000):SzK n A=A:=propext ⟨fun h=>h.2,fun a=>⟨sl n h,a⟩⟩
theorem Du{d:D}{r:Ev}:Q1 0 (some d :: r) M R=R d M:=propext ⟨fun zz=>by obtain⟨_,h,q⟩:=zz;cases h;exact q,fun q=>⟨_,rfl,q⟩⟩
theorem DE{y z:Option D}{r:Ev}:(y :: r:Ev).set 0 z=z :: r:=rfl
theorem Dt{x0:Option D}{d:D}{r:Ev}:Q1 1 (x0 :: some d :: r) M R=R d M:=propext ⟨fun zz=>by obtain⟨_,h,q⟩:=zz;cases h;exact q,fun q=>⟨_,rfl,q⟩⟩
theorem DD{x0:Option D}{y z:Option D}{r:Ev}:(x0 :: y :: r:Ev).set 1 z=x0 :: z :: r:=rfl
theorem Ds{x0 x1:Option D}{d:D}{r:Ev}:Q1 2 (x0 :: x1 :: some d :: r) M R=R d M:=propext ⟨fun zz=>by obtain⟨_,h,q⟩:=zz;cases h;exact q,fun q=>⟨_,rfl,q⟩⟩
theorem DC{x0 x1:Option D}{y z:Option D}{r:Ev}:(x0 :: x1 :: y :: r:Ev).set 2 z=x0 :: x1 :: z :: r:=rfl
theorem Dr{x0 x1 x2:Option D}{d:D}{r:Ev}:Q1 3 (x0 :: x1 :: x2 :: some d :: r) M R=R d M:=propext ⟨fun zz=>by obtain⟨_,h,q⟩:=zz;cases h;exact q,fun q=>⟨_,rfl,q⟩⟩
theorem DB{x0 x1 x2:Option D}{y z:Option D}{r:Ev}:(x0 :: x1 :: x2 :: y :: r:Ev).set 3 z=x0 :: x1 :: x2 :: z :: r:=rfl
theorem Dq{x0 x1 x2 x3:Option D}{d:D}{r:Ev}:Q1 4 (x0 :: x1 :: x2 :: x3 :: some d :: r) M R=R d M:=propext ⟨fun zz=>by obtain⟨_,h,q⟩:=zz;cases h;exact q,fun q=>⟨_,rfl,q⟩⟩
theorem DA{x0 x1 x2 x3:Option D}{y z:Option D}{r:Ev}:(x0 :: x1 :: x2 :: x3 :: y :: r:Ev).set 4 z=x0 :: x1 :: x2 :: x3 :: z :: r:=rfl
theorem Dp{x0 x1 x2 x3 x4:Option D}{d:D}{r:Ev}:Q1 5 (x0 :: x1 :: x2 :: x3 :: x4 :: some d :: r) M R=R d M:=propext ⟨fun zz=>by obtain⟨_,h,q⟩:=zz;cases h;exact q,fun q=>⟨_,rfl,q⟩⟩
theorem Dz{x0 x1 x2 x3 x4:Option D}{y z:Option D}{r:Ev}:(x0 :: x1 :: x2 :: x3 :: x4 :: y :: r:Ev).set 5 z=x0 :: x1 :: x2 :: x3 :: x4 :: z :: r:=rfl
theorem Dn{x0 x1 x2 x3 x4 x5:Option D}{d:D}{r:Ev}:Q1 6 (x0 :: x1 :: x2 :: x3 :: x4 :: x5 :: some d :: r) M R=R d M:=propext ⟨fun zz=>by obtain⟨_,h,q⟩:=zz;cases h;exact q,fun q=>⟨_,rfl,q⟩⟩
theorem Dy{x0 x1 x2 x3 x4 x5:Option D}{y z:Option D}{r:Ev}:(x0 :: x1 :: x2 :: x3 :: x4 :: x5 :: y :: r:Ev).set 6 z=x0 :: x1 :: x2 :: x3 :: x4 :: x5 :: z :: r:=rfl
theorem Dm{x0 x1 x2 x3 x4 x5 x6:Option D}{d:D}{r:Ev}:Q1 7 (x0 :: x1 :: x2 :: x3 :: x4 :: x5 :: x6 :: some d :: r) M R=R d M:=propext ⟨fun zz=>by obtain⟨_,h,q⟩:=zz;cases h;exact q,fun q=>⟨_,rfl,q⟩⟩
theorem Dx{x0 x1 x2 x3 x4 x5 x6:Option D}{y z:Option D}{r:Ev}:(x0 :: x1 :: x2 :: x3 :: x4 :: x5 :: x6 :: y :: r:Ev).set 7 z=x0 :: x1 :: x2 :: x3 :: x4 :: x5 :: x6 :: z :: r:=rfl
theorem Dk{x0 x1 x2 x3 x4 x5 x6 x7:Option D}{d:D}{r:Ev}:Q1 8 (x0 :: x1 :: x2 :: x3 :: x4 :: x5 :: x6 :: x7 :: some d :: r) M R=R d M:=propext ⟨fun zz=>by obtain⟨_,h,q⟩:=zz;cases h;exact q,fun q=>⟨_,rfl,q⟩⟩
theorem Dw{x0 x1 x2 x3 x4 x5 x6 x7:Option D}{y z:Option D}{r:Ev}:(x0 :: x1 :: x2 :: x3 :: x4 :: x5 :: x6 :: x7 :: y :: r:Ev).set 8 z=x0 :: x1 :: x2 :: x3 :: x4 :: x5 :: x6 :: x7 :: z :: r:=rfl
theorem Dj{x0 x1 x2 x3 x4 x5 x6 x7 x8:Option D}{d:D}{r:Ev}:Q1 9 (x0 :: x1 :: x2 :: x3 :: x4 :: x5 :: x6 :: x7 :: x8 :: some d :: r) M R=R d M:=propext ⟨fun zz=>by obtain⟨_,h,q⟩:=zz;cases h;exact q,fun q=>⟨_,rfl,q⟩⟩
theorem Dv{x0 x1 x2 x3 x4 x5 x6 x7 x8:Option D}{y z:Option D}{r:Ev}:(x0 :: x1 :: x2 :: x3 :: x4 :: x5 :: x6 :: x7 :: x8 :: y :: r:Ev).set 9 z=x0 :: x1 :: x2 :: x3 :: x4 :: x5 :: x6 :: x7 :: x8 :: z :: r:=rfl
theorem yU{x0 x1 x2 x3 x4 x5 x6 x7 x8 x9:Option D}{d:D}{r:Ev}:Q1 10 (x0 :: x1 :: x2 :: x3 :: x4 :: x5 :: x6 :: x7 :: x8 :: x9 :: some d :: r) M R=R d M:=propext ⟨fun zz=>by obtain⟨_,h,q⟩:=zz;cases h;exact q,fun q=>⟨_,rfl,q⟩⟩
theorem zp{x0 x1 x2 x3 x4 x5 x6 x7 x8 x9:Option D}{y z:Option D}{r:Ev}:(x0 :: x1 :: x2 :: x3 :: x4 :: x5 :: x6 :: x7 :: x8 :: x9 :: y :: r:Ev).set 10 z=x0 :: x1 :: x2 :: x3 :: x4 :: x5 :: x6 :: x7 :: x8 :: x9 :: z :: r:=rfl
theorem p6{M:Mem}{ds es:List D}:p8 M (.tup ds) es=(es=ds):=by
 apply propext
 constructor
 ·intro h
  rcases h with h|⟨_,h,_⟩|h
  ·injection h with h;exact h.symm
  ·exact absurd h (by intro z;cases z)
  ·exact absurd h (by intro z;cases z)
 ·intro h;exact .inl (by rw[h])
theorem i9{M:Mem}{ds es:List D}:p8 M (.vl ds) es=(es=ds):=by
 apply propext
 constructor
 ·intro h
  rcases h with h|⟨_,h,_⟩|h
  ·exact absurd h (by intro z;cases z)
  ·exact absurd h (by intro z;cases z)
  ·injection h with h;exact h.symm
 ·intro h;exact .inr (.inr (by rw[h]))
theorem o9{ds:List D}{n:Nat}{d:D}(h:ds[n]? = some d):atI ds (n:Int)=some d:=by
 obtain⟨hl,_⟩:=Jd.mp h
 unfold atI ixN
 rw[if_pos (Int.natCast_nonneg n),if_pos (by omega)]
 simpa using h
theorem rM:Aq tr e M R=tr e M fun ds M1=>SzK ds.length (R (.vl ds) M1):=rfl
theorem rR:As ta tb e M R=ta e M fun x M1=>tb e M1 fun y M2=>uQ x y M2 R:=rfl
theorem zt{tl th:DTO}:EZ ta tl th e M R=ta e M fun x M1=>tl e M1 fun l M2=>th e M2 fun u M3=>yB x l u M3 R:=rfl
theorem iW{Q:Option Int→Mem→Prop}:oV e M Q=Q none M:=rfl
theorem rH{Q:Option Int→Mem→Prop}:An ta e M Q=ta e M fun x M1=>AG x M1 Q:=rfl
theorem nk{i:Int}{Q:Option Int→Mem→Prop}:AG (.int i) M Q=Q (some i) M:=propext ⟨fun zz=>by obtain⟨_,h,r⟩:=zz;cases h;exact r,fun r=>⟨_,rfl,r⟩⟩
theorem nr:vm tr e M R=tr e M fun ds M1=>gN ds M1 R:=rfl
theorem iT{ds:List D}:gN [.tup ds] M R=R (.vl ds) M:=propext ⟨fun zz=>by obtain⟨_,_,h,h2,r⟩:=zz;cases h;rw[p6]at h2;subst h2;exact r,fun r=>⟨_,_,rfl,.inl rfl,r⟩⟩
theorem eA{ds:List D}:gN [.vl ds] M R=R (.vl ds) M:=propext ⟨fun zz=>by obtain⟨_,_,h,h2,r⟩:=zz;cases h;rw[i9]at h2;subst h2;exact r,fun r=>⟨_,_,rfl,.inr (.inr rfl),r⟩⟩
theorem iU{xs ys:List D}:uQ (.vl xs) (.vl ys) M R=SzK (xs.length+ys.length) (R (.vl (xs++ys)) M):=propext ⟨fun zz=>by obtain⟨_,_,h,h2,z,r⟩:=zz;cases h;cases h2;exact⟨z,r⟩,fun⟨z,r⟩=>⟨_,_,rfl,rfl,z,r⟩⟩
theorem mU{xs:List D}{lo hi:Option Int}:yB (.vl xs) lo hi M R=R (.vl (K0 xs lo hi)) M:=propext ⟨fun h=>by
 rcases h with⟨_,h,r⟩|⟨_,h,_⟩
 ·cases h;exact r
 ·exact(nomatch h),fun r=>.inl ⟨_,rfl,r⟩⟩
theorem mT{xs:List D}{lo hi:Option Int}:yB (.tup xs) lo hi M R=(¬ (HT.sIx xs.length 0 lo=0∧HT.sIx xs.length xs.length hi=xs.length)∧R (.tup (K0 xs lo hi)) M):=propext ⟨fun h=>by
 rcases h with⟨_,h,r⟩|⟨_,h,hw,r⟩
 ·cases h
 ·cases h;exact⟨hw,r⟩,fun⟨hw,r⟩=>.inr ⟨_,rfl,hw,r⟩⟩
theorem rG:Am ta e M R=ta e M fun x M1=>uO x M1 R:=rfl
theorem iS{xs:List D}:uO (.vl xs) M R=R (.vl xs.reverse) M:=propext ⟨fun zz=>by obtain⟨_,h,r⟩:=zz;cases h;exact r,fun r=>⟨_,rfl,r⟩⟩
theorem zL:Fh ta e M R=ta e M fun x M1=>yR x M1 R:=rfl
theorem kI{p:Addr}{ds:List D}(h:M p=some (.lst ds)):yR (.ref p) M R=R (.vl ds) (aG M p):=propext ⟨fun zz=>by obtain⟨_,_,e,h',r⟩:=zz;cases e;rw[h]at h';cases h';exact r,fun r=>⟨_,_,rfl,h,r⟩⟩
theorem nA{n:Nat}{caps:List Nat}{ti:DTI}{g:DTG}{tc:X3}{te:DTE}:lZ n caps ti g tc te e M R=ti e M fun ds stay M1=>vV (kz n caps e) g tc te ds stay M1 R:=rfl
theorem zq{Q:Bool→Mem→Prop}:vh e M Q=Q true M:=rfl
section
variable {Q:List D→(Mem→Prop)→Mem→Prop}
theorem mY:Ah ta e M Q=ta e M fun x M1=>yO x M1 Q:=rfl
theorem rE{ds:List D}:yO (.tup ds) M Q=Q ds (fun M'=>p8 M' (.tup ds) ds) M:=propext ⟨fun zz=>by obtain⟨_,h,r⟩:=zz;rw[p6]at h;subst h;exact r,fun r=>⟨_,.inl rfl,r⟩⟩
theorem rC{ds:List D}:yO (.vl ds) M Q=Q ds (fun M'=>p8 M' (.vl ds) ds) M:=propext ⟨fun zz=>by obtain⟨_,h,r⟩:=zz;rw[i9]at h;subst h;exact r,fun r=>⟨_,.inr (.inr rfl),r⟩⟩
theorem iV:vb tr e M Q=tr e M fun xs M1=>vT xs M1 Q:=rfl
theorem ny{ds:List D}:vT [.tup ds] M Q=Q (O2 ds) (fun M'=>p8 M' (.tup ds) ds) M:=propext ⟨fun zz=>by obtain⟨_,_,h,h2,r⟩:=zz;cases h;rw[p6]at h2;subst h2;exact r,fun r=>⟨_,_,rfl,.inl rfl,r⟩⟩
theorem nv{ds:List D}:vT [.vl ds] M Q=Q (O2 ds) (fun M'=>p8 M' (.vl ds) ds) M:=propext ⟨fun zz=>by obtain⟨_,_,h,h2,r⟩:=zz;cases h;rw[i9]at h2;subst h2;exact r,fun r=>⟨_,_,rfl,.inr (.inr rfl),r⟩⟩
theorem mX:Ag tr e M Q=tr e M fun xs M1=>vK xs M1 Q:=rfl
theorem nj{ds es:List D}:vK [.tup ds,.tup es] M Q=Q (Q4 ds es) (fun M'=>p8 M' (.tup ds) ds∧p8 M' (.tup es) es) M:=propext ⟨fun zz=>by obtain⟨_,_,_,_,h,h2,h3,r⟩:=zz;cases h;rw[p6]at h2 h3;subst h2;subst h3;exact r,fun r=>⟨_,_,_,_,rfl,.inl rfl,.inl rfl,r⟩⟩
theorem nc{ds es:List D}:vK [.vl ds,.vl es] M Q=Q (Q4 ds es) (fun M'=>p8 M' (.vl ds) ds∧p8 M' (.vl es) es) M:=propext ⟨fun zz=>by obtain⟨_,_,_,_,h,h2,h3,r⟩:=zz;cases h;rw[i9]at h2 h3;subst h2;subst h3;exact r,fun r=>⟨_,_,_,_,rfl,.inr (.inr rfl),.inr (.inr rfl),r⟩⟩
theorem ni{ds es:List D}:vK [.tup ds,.vl es] M Q=Q (Q4 ds es) (fun M'=>p8 M' (.tup ds) ds∧p8 M' (.vl es) es) M:=propext ⟨fun zz=>by obtain⟨_,_,_,_,h,h2,h3,r⟩:=zz;cases h;rw[p6]at h2;rw[i9]at h3;subst h2;subst h3;exact r,fun r=>⟨_,_,_,_,rfl,.inl rfl,.inr (.inr rfl),r⟩⟩
theorem nh{ds es:List D}:vK [.vl ds,.tup es] M Q=Q (Q4 ds es) (fun M'=>p8 M' (.vl ds) ds∧p8 M' (.tup es) es) M:=propext ⟨fun zz=>by obtain⟨_,_,_,_,h,h2,h3,r⟩:=zz;cases h;rw[i9]at h2;rw[p6]at h3;subst h2;subst h3;exact r,fun r=>⟨_,_,_,_,rfl,.inr (.inr rfl),.inl rfl,r⟩⟩
theorem mZ:Ai tr e M Q=tr e M fun xs M1=>Fz xs M1 Q:=rfl
theorem rF{j:Int}:Fz [.int j] M Q=((-(2 ^ 62)≤j∧j<2 ^ 62)∧Q (K6 0 j.toNat) (fun _=>True) M):=propext ⟨fun zz=>by obtain⟨_,h,a,b,r⟩:=zz;cases h;exact⟨⟨a,b⟩,r⟩,fun⟨⟨a,b⟩,r⟩=>⟨_,rfl,a,b,r⟩⟩
end
theorem zM{ti:DTI}{g:DTG}:Fi ti g t F e M=ti e M fun ds stay M1=>X2 g t F ds stay e M1:=rfl
theorem X2.by{g:DTG}{ds:List D}{stay:Mem→Prop}{M1:Mem}(W:Nat→Ev→Mem→Prop)(w0:W 0 e M1)(st:∀ i e M,i≤ds.length→W i e M→stay M)
  (turn:∀(i:Nat) (d:D) e M,ds[i]? = some d→W i e M→g d e M fun e2 M2=>t { F with nx:=W (i+1),ct:=W (i+1),bk:=F.nx } e2 M2) (done:∀ e M,W ds.length e M→F.nx e M):X2 g t F ds stay e M1:=⟨W,w0,st,turn,done⟩
theorem pA{F:X4}(W:Nat→Ev→Mem→Prop)(m:Nat)(w0:W m e M)(turn:∀ m e M,W m e M→tA e M fun b M1=>IfK b (t { F with nx:=fun e' M'=>∃ m',m'<m∧W m' e' M',ct:=fun e' M'=>∃ m',m'<m∧W m' e' M',bk:=F.nx } e M1) (F.nx e M1)):vj tA t F e M:=⟨W,⟨m,w0⟩,turn⟩
theorem vP{F:X4}(P:Ev→Mem→Prop)(h1:t { F with nx:=P } e M)(h2:∀ e' M',P e' M'→u F e' M'):Al t u F e M:=⟨P,h1,h2⟩
theorem DP{g:DRM}:dLM g ta tr e M R=ta e M fun x M1=>LMK x M1 (tr e M1 fun xs M2=>g x xs M2 R):=rfl
theorem L9{x0:D}{r:List D}:gIx (.tup (x0 :: r)) (.int 0) M R=R x0 M:=P9 (o9 (n:=0) rfl)
theorem qV{x0:D}{r:List D}:gIx (.vl (x0 :: r)) (.int 0) M R=R x0 M:=P9 (o9 (n:=0) rfl)
theorem L8{x0 x1:D}{r:List D}:gIx (.tup (x0 :: x1 :: r)) (.int 1) M R=R x1 M:=P9 (o9 (n:=1) rfl)
theorem qU{x0 x1:D}{r:List D}:gIx (.vl (x0 :: x1 :: r)) (.int 1) M R=R x1 M:=P9 (o9 (n:=1) rfl)
theorem fh{x0 x1 x2:D}{r:List D}:gIx (.tup (x0 :: x1 :: x2 :: r)) (.int 2) M R=R x2 M:=P9 (o9 (n:=2) rfl)
theorem qT{x0 x1 x2:D}{r:List D}:gIx (.vl (x0 :: x1 :: x2 :: r)) (.int 2) M R=R x2 M:=P9 (o9 (n:=2) rfl)
theorem rf{x0 x1 x2 x3:D}{r:List D}:gIx (.tup (x0 :: x1 :: x2 :: x3 :: r)) (.int 3) M R=R x3 M:=P9 (o9 (n:=3) rfl)
theorem qS{x0 x1 x2 x3:D}{r:List D}:gIx (.vl (x0 :: x1 :: x2 :: x3 :: r)) (.int 3) M R=R x3 M:=P9 (o9 (n:=3) rfl)
theorem qZ{x0 x1 x2 x3 x4:D}{r:List D}:gIx (.tup (x0 :: x1 :: x2 :: x3 :: x4 :: r)) (.int 4) M R=R x4 M:=P9 (o9 (n:=4) rfl)
theorem qR{x0 x1 x2 x3 x4:D}{r:List D}:gIx (.vl (x0 :: x1 :: x2 :: x3 :: x4 :: r)) (.int 4) M R=R x4 M:=P9 (o9 (n:=4) rfl)
theorem qY{x0 x1 x2 x3 x4 x5:D}{r:List D}:gIx (.tup (x0 :: x1 :: x2 :: x3 :: x4 :: x5 :: r)) (.int 5) M R=R x5 M:=P9 (o9 (n:=5) rfl)
theorem qQ{x0 x1 x2 x3 x4 x5:D}{r:List D}:gIx (.vl (x0 :: x1 :: x2 :: x3 :: x4 :: x5 :: r)) (.int 5) M R=R x5 M:=P9 (o9 (n:=5) rfl)
theorem qX{x0 x1 x2 x3 x4 x5 x6:D}{r:List D}:gIx (.tup (x0 :: x1 :: x2 :: x3 :: x4 :: x5 :: x6 :: r)) (.int 6) M R=R x6 M:=P9 (o9 (n:=6) rfl)
theorem qP{x0 x1 x2 x3 x4 x5 x6:D}{r:List D}:gIx (.vl (x0 :: x1 :: x2 :: x3 :: x4 :: x5 :: x6 :: r)) (.int 6) M R=R x6 M:=P9 (o9 (n:=6) rfl)
theorem qW{x0 x1 x2 x3 x4 x5 x6 x7:D}{r:List D}:gIx (.tup (x0 :: x1 :: x2 :: x3 :: x4 :: x5 :: x6 :: x7 :: r)) (.int 7) M R=R x7 M:=P9 (o9 (n:=7) rfl)
theorem qO{x0 x1 x2 x3 x4 x5 x6 x7:D}{r:List D}:gIx (.vl (x0 :: x1 :: x2 :: x3 :: x4 :: x5 :: x6 :: x7 :: r)) (.int 7) M R=R x7 M:=P9 (o9 (n:=7) rfl)
theorem zl{A:Prop}:SzK (0) A=A:=A5 (by decide)
theorem zj{A:Prop}:SzK (0+1) A=A:=A5 (by decide)
theorem zi{A:Prop}:SzK (0+1+1) A=A:=A5 (by decide)
theorem zh{A:Prop}:SzK (0+1+1+1) A=A:=A5 (by decide)
theorem ze{A:Prop}:SzK (0+1+1+1+1) A=A:=A5 (by decide)
theorem yZ{A:Prop}:SzK (0+1+1+1+1+1) A=A:=A5 (by decide)
theorem yY{A:Prop}:SzK (0+1+1+1+1+1+1) A=A:=A5 (by decide)
theorem yX{A:Prop}:SzK (0+1+1+1+1+1+1+1) A=A:=A5 (by decide)
theorem yW{A:Prop}:SzK (0+1+1+1+1+1+1+1+1) A=A:=A5 (by decide)
theorem yV{A:Prop}:SzK (0+1+1+1+1+1+1+1+1+1) A=A:=A5 (by decide)
theorem wZ{i:Int}:cl 60 (.int i)=true:=rfl
theorem wR:cl 60 .non=true:=rfl
theorem wG{ds:List D}:cl 60 (.tup ds)=clL 59 ds:=rfl
theorem wz{ds:List D}:cl 60 (.vl ds)=clL 59 ds:=rfl
theorem wc:clL 59 []=true:=rfl
theorem wo{d:D}{r:List D}:clL 59 (d :: r)=(cl 59 d && clL 59 r):=rfl
theorem xa{i:Int}:cl 59 (.int i)=true:=rfl
theorem wU:cl 59 .non=true:=rfl
theorem wH{ds:List D}:cl 59 (.tup ds)=clL 58 ds:=rfl
theorem wA{ds:List D}:cl 59 (.vl ds)=clL 58 ds:=rfl
theorem wd:clL 58 []=true:=rfl
theorem wq{d:D}{r:List D}:clL 58 (d :: r)=(cl 58 d && clL 58 r):=rfl
theorem xb{i:Int}:cl 58 (.int i)=true:=rfl
theorem wV:cl 58 .non=true:=rfl
theorem wI{ds:List D}:cl 58 (.tup ds)=clL 57 ds:=rfl
theorem wB{ds:List D}:cl 58 (.vl ds)=clL 57 ds:=rfl
theorem we:clL 57 []=true:=rfl
theorem wt{d:D}{r:List D}:clL 57 (d :: r)=(cl 57 d && clL 57 r):=rfl
theorem xc{i:Int}:cl 57 (.int i)=true:=rfl
theorem wW:cl 57 .non=true:=rfl
theorem wJ{ds:List D}:cl 57 (.tup ds)=clL 56 ds:=rfl
theorem wC{ds:List D}:cl 57 (.vl ds)=clL 56 ds:=rfl
theorem wg:clL 56 []=true:=rfl
theorem wu{d:D}{r:List D}:clL 56 (d :: r)=(cl 56 d && clL 56 r):=rfl
theorem xf{i:Int}:cl 56 (.int i)=true:=rfl
theorem wX:cl 56 .non=true:=rfl
theorem wK{ds:List D}:cl 56 (.tup ds)=clL 55 ds:=rfl
theorem wD{ds:List D}:cl 56 (.vl ds)=clL 55 ds:=rfl
theorem wj:clL 55 []=true:=rfl
theorem wx{d:D}{r:List D}:clL 55 (d :: r)=(cl 55 d && clL 55 r):=rfl
theorem xg{i:Int}:cl 55 (.int i)=true:=rfl
theorem wY:cl 55 .non=true:=rfl
theorem wL{ds:List D}:cl 55 (.tup ds)=clL 54 ds:=rfl
theorem wF{ds:List D}:cl 55 (.vl ds)=clL 54 ds:=rfl
theorem wm:clL 54 []=true:=rfl
theorem wy{d:D}{r:List D}:clL 54 (d :: r)=(cl 54 d && clL 54 r):=rfl
theorem rN{xs:List D}:ql [.vl xs] M R=R (.int (xs.length:Int)) M:=nu rfl
theorem rO{xs:List D}:ql [.tup xs] M R=R (.int (xs.length:Int)) M:=nu rfl
theorem AV{A:Prop}:SzK 1 A=A:=A5 (by decide)
theorem AU{A:Prop}:SzK 2 A=A:=A5 (by decide)
theorem AS{A:Prop}:SzK 3 A=A:=A5 (by decide)
theorem AR{A:Prop}:SzK 4 A=A:=A5 (by decide)
theorem AQ{A:Prop}:SzK 5 A=A:=A5 (by decide)
theorem AO{A:Prop}:SzK 6 A=A:=A5 (by decide)
theorem AN{A:Prop}:SzK 7 A=A:=A5 (by decide)
theorem AM{A:Prop}:SzK 8 A=A:=A5 (by decide)
theorem AL{A:Prop}:SzK 9 A=A:=A5 (by decide)
theorem wb{A:Prop}:SzK 10 A=A:=A5 (by decide)
theorem wa{A:Prop}:SzK 11 A=A:=A5 (by decide)
theorem vZ{A:Prop}:SzK 12 A=A:=A5 (by decide)
theorem rV{bs:List Bool}:ER [.vl (bs.map D.bl)] M R=R (.bl (bs.all id)) M:=propext ⟨fun zz=>by
 obtain⟨_,bs',e,h,r⟩:=zz
 cases e
 have e2:bs.map D.bl=bs'.map D.bl:=Option.some.inj h
 have e3:bs=bs':=(Ju (fun a b z=>by injection z)).mp e2
 subst e3;exact r,fun r=>⟨_,bs,rfl,rfl,r⟩⟩
theorem ai:u8 [.dic,.ty "tuple"] M R=R (.bl false) M:=m7 rfl rfl
theorem bK:u8 [.dic,.ty "list"] M R=R (.bl false) M:=m7 rfl rfl
theorem ej:u8 [.dic,.ty "int"] M R=R (.bl false) M:=m7 rfl rfl
theorem bL:u8 [.dic,.ty "bool"] M R=R (.bl false) M:=m7 rfl rfl
theorem ee:u8 [.dic,.ty "str"] M R=R (.bl false) M:=m7 rfl rfl
theorem aa{ds:List D}:u8 [.tup ds,.ty "tuple"] M R=R (.bl true) M:=m7 rfl rfl
theorem bC{ds:List D}:u8 [.tup ds,.ty "list"] M R=R (.bl false) M:=m7 rfl rfl
theorem dR{ds:List D}:u8 [.tup ds,.ty "int"] M R=R (.bl false) M:=m7 rfl rfl
theorem bD{ds:List D}:u8 [.tup ds,.ty "bool"] M R=R (.bl false) M:=m7 rfl rfl
theorem dQ{ds:List D}:u8 [.tup ds,.ty "str"] M R=R (.bl false) M:=m7 rfl rfl
theorem Z9{ds:List D}:u8 [.vl ds,.ty "tuple"] M R=R (.bl false) M:=m7 rfl rfl
theorem bA{ds:List D}:u8 [.vl ds,.ty "list"] M R=R (.bl true) M:=m7 rfl rfl
theorem dP{ds:List D}:u8 [.vl ds,.ty "int"] M R=R (.bl false) M:=m7 rfl rfl
theorem bB{ds:List D}:u8 [.vl ds,.ty "bool"] M R=R (.bl false) M:=m7 rfl rfl
theorem dO{ds:List D}:u8 [.vl ds,.ty "str"] M R=R (.bl false) M:=m7 rfl rfl
theorem ah{i:Int}:u8 [.int i,.ty "tuple"] M R=R (.bl false) M:=m7 rfl rfl
theorem bI{i:Int}:u8 [.int i,.ty "list"] M R=R (.bl false) M:=m7 rfl rfl
theorem dZ{i:Int}:u8 [.int i,.ty "int"] M R=R (.bl true) M:=m7 rfl rfl
theorem bJ{i:Int}:u8 [.int i,.ty "bool"] M R=R (.bl false) M:=m7 rfl rfl
theorem dY{i:Int}:u8 [.int i,.ty "str"] M R=R (.bl false) M:=m7 rfl rfl
theorem af:u8 [.non,.ty "tuple"] M R=R (.bl false) M:=m7 rfl rfl
theorem bG:u8 [.non,.ty "list"] M R=R (.bl false) M:=m7 rfl rfl
theorem dX:u8 [.non,.ty "int"] M R=R (.bl false) M:=m7 rfl rfl
theorem bH:u8 [.non,.ty "bool"] M R=R (.bl false) M:=m7 rfl rfl
theorem dW:u8 [.non,.ty "str"] M R=R (.bl false) M:=m7 rfl rfl
theorem ae{x:Str}:u8 [.str x,.ty "tuple"] M R=R (.bl false) M:=m7 rfl rfl
theorem bE{x:Str}:u8 [.str x,.ty "list"] M R=R (.bl false) M:=m7 rfl rfl
theorem dU{x:Str}:u8 [.str x,.ty "int"] M R=R (.bl false) M:=m7 rfl rfl
theorem bF{x:Str}:u8 [.str x,.ty "bool"] M R=R (.bl false) M:=m7 rfl rfl
theorem dS{x:Str}:u8 [.str x,.ty "str"] M R=R (.bl true) M:=m7 rfl rfl
theorem aj{b:Bool}:u8 [.bl b,.ty "tuple"] M R=R (.bl false) M:=m7 rfl rfl
theorem bM{b:Bool}:u8 [.bl b,.ty "list"] M R=R (.bl false) M:=m7 rfl rfl
theorem ey{b:Bool}:u8 [.bl b,.ty "int"] M R=R (.bl true) M:=m7 rfl rfl
theorem bN{b:Bool}:u8 [.bl b,.ty "bool"] M R=R (.bl true) M:=m7 rfl rfl
theorem eu{b:Bool}:u8 [.bl b,.ty "str"] M R=R (.bl false) M:=m7 rfl rfl
theorem zN:Fj ta e M R=ta e M fun x M1=>De x M1 R:=rfl
theorem pB{x:D}{ds:List D}{Q:List D→(Mem→Prop)→Mem→Prop}(h:p8 M x ds)(r:Q ds (fun M'=>p8 M' x ds) M):yO x M Q:=⟨ds,h,r⟩
theorem iy{l:Addr}{ds:List D}{A:Prop}(h:M l=some (.lst ds))(a:A):LMK (.ref l) M A:=⟨⟨l,ds,rfl,h⟩,a⟩
theorem iA{l:Addr}{ds:List D}{v:D}(h:M l=some (.lst ds))(hz:ds.length<1000)(r:R .non (B7 M l (.lst (ds++[v])))):oN (.ref l) [v] M R:=⟨l,ds,v,rfl,rfl,h,IF hz (by decide),r⟩
theorem vQ{p:Addr}{ds:List D}(h:M p=none)(r:R (.vl ds) M):yR (.ref p) (B7 M p (.lst ds)) R:=⟨p,ds,rfl,i3,by rw[W9 h];exact r⟩
theorem vS{x:D}{M1 M2:Mem}(h:∀ b o,M2 b=some o→M1 b=some o)(r:R x M2):De x M1 R:=⟨M2,h,r⟩
theorem rB{ns:List Int}:EK [.vl (ns.map D.int)] M R=R (.int ns.sum) M:=propext ⟨fun zz=>by
 obtain⟨_,ms,e,h,r⟩:=zz
 cases e
 have h:ns.map D.int=ms.map D.int:=Option.some.inj h
 have e2:ns=ms:=(Ju (fun a b z=>by injection z)).mp h
 rw[e2];exact r,fun r=>⟨_,ns,rfl,rfl,r⟩⟩
end
theorem cW{p:Str→Prop}:∀ x∈([]:List Str),p x:=fun _ h=>nomatch h
section
variable {e0:Ev} {g:DTG} {te:DTE} {tc:X3} {ds:List D} {stay:Mem→Prop} {M1:Mem} {E:List D→Mem→Prop}
theorem u5{α:Type}{xs:List α}{enc:α→D}(f:α→D)(hn:xs.length≤1000)(hst:stay M1)(step:∀ x∈xs,∀ Q:DK,Q (f x) M1→g (enc x) e0 M1 fun e2 M2=>te e2 M2 Q)(h:E (xs.map f) M1):∃ W,pD e0 g vh te (xs.map enc) stay M1 E W:=by
 refine⟨fun i ys M=>M=M1∧ys=(xs.take i).map f,⟨⟨rfl,rfl⟩,fun i ys M _ w=>by rw[w.1];exact hst,fun i d ys M hd w=>?_,fun ys M w=>?_⟩⟩
 ·obtain⟨rfl,rfl⟩:=w
  rw[Jb]at hd
  cases hx:xs[i]? with
  | none=>rw[hx]at hd;cases hd
  | some x =>
   rw[hx]at hd
   obtain rfl:enc x=d:=by simpa using hd
   refine step x (IU hx) _ ⟨?_,rfl,?_⟩
   ·rw[ID,Jg]
    exact Jl (IT (LI _ _) hn) (by decide)
   ·obtain⟨hl,he⟩:=Jd.mp hx
    rw[KR hl,Jn,he];rfl
 ·obtain⟨rfl,rfl⟩:=w
  rw[ID,JY];exact h
theorem mh{α:Type}(enc:α→D)(ok:α→Prop)(St:Mem→Mem→Prop)(n:Nat)(hl:ds.length=n)(hn:n≤1000)(hst:∀ M,St M1 M→stay M)(s0:St M1 M1)
  (step:∀ d∈ds,∀ M,St M1 M→∀ Q:DK,(∀ x M',ok x→St M1 M'→Q (enc x) M')→g d e0 M fun e2 M2=>te e2 M2 Q) (h:∀(xs:List α) M,xs.length=n→(∀ x∈xs,ok x)→St M1 M→E (xs.map enc) M):∃ W,pD e0 g vh te ds stay M1 E W:=by
 refine⟨fun i ys M=>St M1 M∧∃ xs:List α,xs.length=i∧(∀ x∈xs,ok x)∧ys=xs.map enc,⟨⟨s0,[],rfl,(fun _ z=>nomatch z),rfl⟩,fun i ys M _ w=>hst M w.1,fun i d ys M hd w=>?_,fun ys M w=>?_⟩⟩
 ·obtain⟨sM,xs,hl,hok,rfl⟩:=w
  have hi:i<ds.length:=(Jd.mp hd).1
  refine step d (IU hd) M sM _ fun x M' hx sM'=>⟨?_,sM',xs++[x],by simp[hl],fun z hz=>?_,by simp⟩
  ·rw[ID,hl];exact IF (IF hi (by omega)) (show 1000≤sizeLine by decide)
  ·rcases Jc.mp hz with z1|z1
   ·exact hok z z1
   ·rw[Ja.mp z1];exact hx
 ·obtain⟨sM,xs,hl,hok,rfl⟩:=w
  exact h xs M (by omega) hok sM
end
section
variable {X:Cx} {pos:Pos}
theorem jc{x:Str}{j k:Nat}{ps:List Str}{sp:DSp}{p:Pos}{e:Expr}{es:List Expr}{t:DTA}(G:Fn X.prog X.w X.K X.mg X.base x j ps sp)(hr:D7 k X.A)(ha:JA X (e :: es) t)(hk:j≤k:=by decide)(hg:Gl X x:=by rfl)
  (hdb:(x == ("__debug__" : Str))=false:=by decide) (he:starEach (e :: es) X.env=(false,eval e X.env) :: starEach es X.env:=by rfl) (hpl:(backTo pos (starEach es X.env)).any (·.1)=false:=by rfl):JE X (.Call (.Name x p) (e :: es) [] pos) (ki sp [] Y0 t):=uG G (hr.mono hk) hg ha hdb he hpl
theorem jx{a b:Expr}{ta tb:DTE}(ha:JE X a ta)(hb:JE X b tb)(hs:iw b:=by exact fun _ _=>rfl):JE X (.Subscript a b pos) (dOp gIx ta tb):=EE EH ha hb hs
theorem jst(i:Nat){x:Str}{e:Expr}{tx:DTE}{q:Pos}(hN:X.N.Nodup)(he:JE X e tx)(hi:X.N[i]? = some x:=by rfl)(hx:Loc X.env.scope x:=by first|exact .inl rfl|exact .inr rfl)(hs:swapsWith e (some (.Name x q)) pos.line X.env=pure false:=by rfl)
  (hf:X.fn x=true∨X.env.scope.names.lookup x=some .local:=by first|exact .inl rfl|exact .inr rfl|assumption):JS X (.Assign [.Name x q] e pos) (vn tx (S1 i)):=yv hN hi hx he hs hf
theorem jn(i:Nat){x:Str}(hN:X.N.Nodup)(hi:X.N[i]? = some x:=by rfl)(hx:Loc X.env.scope x:=by first|exact .inl rfl|exact .inr rfl)(hf:X.fn x=true∨X.env.scope.names.lookup x=some .local:=by first|exact .inl rfl|exact .inr rfl|assumption):JG X (.Name x pos) (S1 i):=uE hN hi hx hf
theorem jm{op:CmpOp}{g:DR2}{a b:Expr}{ta tb:DTE}(ho:DOp X (compareOp op) g)(ha:JE X a ta)(hb:JE X b tb)(hm:behindInMarks op b=false:=by first|exact uk _|with_unfolding_all rfl):JE X (.Compare a [op] [b] pos) (dOp g ta tb):=Cp ho ha hb hm
theorem jtm{op:CmpOp}{g:DR2}{a b:Expr}{ta tb:DTE}(ho:DOp X (compareOp op) g)(ha:JE X a ta)(hb:JE X b tb)(hm:behindInMarks op b=false:=by first|exact uk _|with_unfolding_all rfl):JT X (.Compare a [op] [b] pos) (oU (dOp g ta tb)):=yx ho ha hb hm
end
end DL
namespace GM
open PySem PySem.Spec L2 DL
open PyProof.Rows hiding St
noncomputable def f7(q:Rat):D:=.tup [.int q.num,.int (q.den:Int)]
theorem N9{q r:Rat}(h:f7 q=f7 r):q=r:=by
 unfold f7 at h
 injection h with h
 injection h with h1 h2
 injection h1 with h1
 injection h2 with h2 _
 injection h2 with h2
 exact Rat.ext h1 (by omega)
theorem g8{q r:Rat}:f7 q=f7 r↔q=r:=⟨N9,fun h=>by rw[h]⟩
structure C3(M:Mem)(p:Addr):Prop where
 ex:∃ x y z:Int,M p=some (.lst [.int x,.int y,.int z])
def MK(M M':Mem):Prop:=∀ b o,M b=some o→M' b=some o
theorem MK.refl(M:Mem):MK M M:=fun _ _ h=>h
theorem MK.trans{M M1 M2:Mem}(a:MK M M1)(b:MK M1 M2):MK M M2:=fun c o h=>b c o (a c o h)
theorem MK.new{M:Mem}{p:Addr}{o:MO}(h:M p=none):MK M (B7 M p o):=fun b u e=>by
 have:b≠p:=by intro z;subst z;rw[h]at e;cases e
 rw[F9 this];exact e
theorem MK.pool{M M':Mem}(k:MK M M'){p:Addr}(h:C3 M p):C3 M' p:=let ⟨x,y,z,e⟩:=h.ex;⟨x,y,z,k _ _ e⟩
structure A8(p:Addr)(M M':Mem):Prop where
 keep:∀ b o,b≠p→M b=some o→M' b=some o
 pool:C3 M' p
theorem A8.refl{p:Addr}{M:Mem}(h:C3 M p):A8 p M M:=⟨fun _ _ _ h=>h,h⟩
theorem A8.trans{p:Addr}{M M1 M2:Mem}(a:A8 p M M1)(b:A8 p M1 M2):A8 p M M2:=⟨fun c o n h=>b.keep c o n (a.keep c o n h),b.pool⟩
theorem A8.upd{p:Addr}{M:Mem}(x y z:Int):A8 p M (B7 M p (.lst [.int x,.int y,.int z])):=⟨fun b o n h=>by rw[F9 n];exact h,⟨x,y,z,i3⟩⟩
theorem C3.ne{M:Mem}{p l:Addr}(h:C3 M p)(hl:M l=none):l≠p:=by
 intro e;subst e;obtain⟨x,y,z,q⟩:=h.ex;rw[hl]at q;cases q
def kQ:DSp:=fun ds M R _=>∃ c:Int,ds=[.int c]∧∀ p M',M p=none→MK M M'→C3 M' p→R (.ref p) M'
def X9:DSp:=fun ds M R _=>∃(p:Addr) (b:Int),ds=[.ref p,.int b]∧C3 M p∧0<b∧b.natAbs.log2<9000∧∀(r:Int) M',0≤r→r<b→A8 p M M'→R (.int r) M'
theorem Fp:vX 10 18:=⟨by decide,by decide,by decide⟩
theorem Fq:vX 10 12:=⟨by decide,by decide,by decide⟩
theorem Cb{a b:Int}(h1:-(2 ^ 64)<a)(h2:a<2 ^ 64):IntMulOk a b:=.of_left (intBits_le_64 h1 h2)
theorem Gd{x m k b:Int}(hm:0<m)(hm2:m<2 ^ 60)(hk:0≤k)(hk2:k<2 ^ 60):IntMulOk (x % m+k) b:=by
 have h1:=Lk x (show m≠0 by omega)
 have h2:=KN x hm
 exact Cb (by omega) (by omega)
theorem EA{x m b:Int}(hm:0<m)(hm2:m<2 ^ 60):IntMulOk (x % m) b:=by
 have h1:=Lk x (show m≠0 by omega)
 have h2:=KN x hm
 exact Cb (by omega) (by omega)
theorem Gr{i:Int}:CFd i 8:=⟨by decide,by decide⟩
theorem bj{a b:Int}(ha:0≤a)(hb:0≤b):a.fdiv b=a / b:=Int.fdiv_eq_ediv_of_nonneg a hb
theorem uN{a b:Int}(hb:b≠0):((JP a.natAbs b.natAbs:Nat):Int)≠0:=by
 have hp:0<b.natAbs:=Int.natAbs_pos.mpr hb
 have:=KC a.natAbs hp
 omega
theorem gB{a b s:Int}(hb:b≠0)(hs:s=if b<0 then -((JP a.natAbs b.natAbs:Nat):Int)else((JP a.natAbs b.natAbs:Nat):Int)){M:Mem}{R:DK}(k:R (f7 (Jv a b)) M) :
  R (.tup [.int (a.fdiv s),.int (b.fdiv s)]) M:=by
 obtain⟨h1,h2⟩:=RM.Cf a b hb s hs
 rw[h1,h2];exact k
theorem cF{a b:Int}{n:Nat}(hn:0<n)(h1:a.natAbs<2 ^ n)(h2:b.natAbs<2 ^ n)(hb:b≠0):RM.sz (Jv a b)≤n :=
 IT (RM.O5 a b hb) (Mh.mpr ⟨RM.X1 h1 hn,RM.X1 h2 hn⟩)
def nF:DSp:=fun ds M R _=>∃ n:Int,ds=[.int n]∧R (.bl true) M
end GM
namespace GM
open PySem PySem.Spec L2 DL
def nI:DSp:=fun ds _ R _=>∃ ns:List Int,ds=[.vl (ns.map D.int)]∧ns.length≤63∧∀ M',R (.bl true) M'
end GM
namespace GM
open PySem PySem.Spec L2 DL
open RM (sz)
def J6:DSp:=fun ds M R _=>∃ a b:Nat,ds=[.int (a:Int),.int (b:Int)]∧R (.int ((JP a b:Nat):Int)) M
def nG:DSp:=fun ds M R _=>∃ q:Rat,ds=[f7 q]∧R (f7 (-q)) M
def fm:DSp:=fun ds M R _=>∃ q r:Rat,ds=[f7 q,f7 r]∧sz q+sz r≤8900∧R (f7 (q+r)) M
def aO:DSp:=fun ds M R _=>∃ q r:Rat,ds=[f7 q,f7 r]∧sz q+sz r≤8900∧R (f7 (q - r)) M
def kR:DSp:=fun ds M R _=>∃ q r:Rat,ds=[f7 q,f7 r]∧sz q+sz r≤8900∧R (.bl (decide (q<r))) M
theorem r9(q:Rat):q.num.natAbs<2 ^ sz q:=IF (RM.V9 _) (Jh (by decide) (RM.X7 q))
theorem j9(q:Rat):((q.den:Int)).natAbs<2 ^ sz q:=by rw[IK];exact IF (RM.V9 _) (Jh (by decide) (RM.M0 q))
theorem mND{q r:Rat}(h:sz q+sz r≤8900):IntMulOk q.num (r.den:Int):=t6 _ _ (r9 q) (j9 r) (by omega)
theorem mDD{q r:Rat}(h:sz q+sz r≤8900):IntMulOk (q.den:Int) (r.den:Int):=t6 _ _ (j9 q) (j9 r) (by omega)
noncomputable def C4(q:Rat):Rat:=if 0≤q then q else -q
theorem yN(q:Rat):0≤C4 q:=by
 unfold C4;split
 ·assumption
 ·grind
theorem CT(q:Rat):f7 (C4 q) = .tup [.int (q.num.natAbs:Int),.int (q.den:Int)]:=by
 unfold C4 f7
 have hz:0≤q↔0≤q.num:=Rat.num_nonneg.symm
 split
 ·rename_i h
  have:=hz.mp h
  rw[show q.num=(q.num.natAbs:Int)by omega];simp
 ·rename_i h
  have h':¬ 0≤q.num:=fun z=>h (hz.mpr z)
  rw[LD,LF,show -q.num=(q.num.natAbs:Int)by omega]
end GM
namespace GM
open RM (sz)
theorem eU{a:Rat}{A:Int}{D S:Nat}(hS:0<S)(hD:D≠0)(hd:D<2 ^ S)(h:a*(D:Rat)=(A:Rat))(hA:A.natAbs<2 ^ S):sz a≤S:=by
 have hD':(D:Rat)≠0:=by
  intro z;exact hD (by exact_mod_cast z)
 have e:a=Jv A (D:Int):=by
  rw[KU]
  have:a=(A:Rat) / (D:Rat):=by grind
  rw[this];rfl
 rw[e]
 exact IT (RM.O5 A D (by omega)) (Mh.mpr ⟨RM.X1 hA hS,RM.X1 (by rw[IK];exact hd) hS⟩)
structure CD(S:Nat)(a b c d:Rat):Prop where
 ex:∃(A B C E:Int) (D:Nat),D≠0∧D<2 ^ S∧(A.natAbs<2 ^ S∧B.natAbs<2 ^ S∧C.natAbs<2 ^ S∧E.natAbs<2 ^ S)∧a*(D:Rat)=(A:Rat)∧b*(D:Rat)=(B:Rat)∧c*(D:Rat)=(C:Rat)∧d*(D:Rat)=(E:Rat)
theorem G4(q:Rat){k:Nat}(h:sz q≤k):q.num.natAbs<2 ^ k:=IF (RM.V9 _) (Jh (by decide) (IT (RM.X7 q) h))
theorem B1(q:Rat){k:Nat}(h:sz q≤k):q.den<2 ^ k:=IF (RM.V9 _) (Jh (by decide) (IT (RM.M0 q) h))
theorem G5(q:Rat):q*(q.den:Rat)=(q.num:Rat):=by
 have h:(q.den:Rat)≠0:=by
  intro z;exact q.den_nz (by exact_mod_cast z)
 have e:=Jx q
 rw[KU,Jf]at e
 grind
theorem B4{a b m n:Nat}(h1:a<2 ^ m)(h2:b<2 ^ n):a*b<2 ^ (m+n):=by
 rw[Mp];exact LJ h1 h2
theorem g9{a b:Int}{m n:Nat}(h1:a.natAbs<2 ^ m)(h2:b.natAbs<2 ^ n):(a*b).natAbs<2 ^ (m+n):=by
 rw[JF];exact B4 h1 h2
theorem R8{a b:Int}{m:Nat}(h1:a.natAbs<2 ^ m)(h2:b.natAbs<2 ^ m):(a+b).natAbs<2 ^ (m+1):=by
 have:=Lz a b
 rw[Lo];omega
theorem au{a m n:Nat}(h:a<2 ^ m)(hn:m≤n):a<2 ^ n:=IF h (Jh (by decide) hn)
theorem CD.one:CD 1 1 0 0 1:=⟨1,0,0,1,1,by decide,by decide,⟨by decide,by decide,by decide,by decide⟩,by grind,by grind,by grind,by grind⟩
theorem CD.neg{S:Nat}{a b c d:Rat}(h:CD S a b c d):CD S (-a) (-b) (-c) (-d):=by
 obtain⟨A,B,C,E,D,h0,hd,⟨h1,h2,h3,h4⟩,e1,e2,e3,e4⟩:=h.ex
 refine⟨-A,-B,-C,-E,D,h0,hd,⟨by rw[JQ];exact h1,by rw[JQ];exact h2,by rw[JQ];exact h3,by rw[JQ];exact h4⟩,?_,?_,?_,?_⟩<;>(rw[LV];grind)
theorem CD.swap{S:Nat}{a b c d:Rat}(h:CD S a b c d):CD S c d a b:=by
 obtain⟨A,B,C,E,D,h0,hd,⟨h1,h2,h3,h4⟩,e1,e2,e3,e4⟩:=h.ex
 exact⟨C,E,A,B,D,h0,hd,⟨h3,h4,h1,h2⟩,e3,e4,e1,e2⟩
theorem CD.step{S k:Nat}{a b c d q:Rat}(h:CD S a b c d)(hq:sz q≤k):CD (S+k+1) (a+q*c) (b+q*d) c d:=by
 obtain⟨A,B,C,E,D,h0,hd,⟨h1,h2,h3,h4⟩,e1,e2,e3,e4⟩:=h.ex
 have hn:=G4 q hq
 have hm:=B1 q hq
 have hm':(q.den:Int).natAbs<2 ^ k:=by rw[IK];exact hm
 have e:=G5 q
 have z:∀{X:Int},X.natAbs<2 ^ S→(X*(q.den:Int)).natAbs<2 ^ (S+k):=fun h=>g9 h hm'
 have z2:∀{X:Int},X.natAbs<2 ^ S→(X*q.num).natAbs<2 ^ (S+k):=fun h=>g9 h hn
 refine⟨A*(q.den:Int)+C*q.num,B*(q.den:Int)+E*q.num,C*(q.den:Int),E*(q.den:Int),D*q.den,KO h0 q.den_nz,au (B4 hd hm) (by omega),
  ⟨R8 (z h1) (z2 h3),R8 (z h2) (z2 h4),au (z h3) (by omega),au (z h4) (by omega)⟩,?_,?_,?_,?_⟩
 all_goals (simp only[Jy,LW,IV,Jf];grind)
theorem CD.scale{S k:Nat}{a b c d q r:Rat}(h:CD S a b c d)(hq:sz q≤k)(hp:0<q.num)(hr:r*q=1):CD (S+2*k) (q*a) (q*b) (r*c) (r*d):=by
 obtain⟨A,B,C,E,D,h0,hd,⟨h1,h2,h3,h4⟩,e1,e2,e3,e4⟩:=h.ex
 have hn:=G4 q hq
 have hm:=B1 q hq
 have hm':(q.den:Int).natAbs<2 ^ k:=by rw[IK];exact hm
 have e:=G5 q
 obtain⟨n,en⟩:∃ n:Nat,q.num=(n:Int):=⟨q.num.toNat,by omega⟩
 rw[en]at hn e hp
 rw[IK]at hn
 rw[Jf]at e
 have hn':(n:Int).natAbs<2 ^ k:=by rw[IK];exact hn
 refine⟨A*((n:Int)*n),B*((n:Int)*n),C*((q.den:Int)*q.den),E*((q.den:Int)*q.den),D*(n*q.den),KO h0 (KO (by omega) q.den_nz),?_,⟨?_,?_,?_,?_⟩,?_,?_,?_,?_⟩
 ·rw[show S+2*k=S+(k+k)by omega];exact B4 hd (B4 hn hm)
 ·rw[show S+2*k=S+(k+k)by omega];exact g9 h1 (g9 hn' hn')
 ·rw[show S+2*k=S+(k+k)by omega];exact g9 h2 (g9 hn' hn')
 ·rw[show S+2*k=S+(k+k)by omega];exact g9 h3 (g9 hm' hm')
 ·rw[show S+2*k=S+(k+k)by omega];exact g9 h4 (g9 hm' hm')
 all_goals (simp only[Jy,IV,Jf];grind)
end GM
namespace GM
open PySem PySem.Spec L2 DL
open RM (sz)
noncomputable abbrev D9(y u:Rat):D:=.tup [f7 y,f7 u]
structure T4(S:Nat)(a b c d:Rat):Prop where
 a:sz a≤S
 b:sz b≤S
 c:sz c≤S
 d:sz d≤S
structure T2(S:Nat)(y u:Rat):Prop where
 y:sz y≤S
 u:sz u≤S
theorem CD.t4{S:Nat}{a b c d:Rat}(h:CD S a b c d)(hS:0<S:=by omega):T4 S a b c d:=by
 obtain⟨A,B,C,E,D,h0,hd,⟨h1,h2,h3,h4⟩,e1,e2,e3,e4⟩:=h.ex
 exact⟨eU hS h0 hd e1 h1,eU hS h0 hd e2 h2,eU hS h0 hd e3 h3,eU hS h0 hd e4 h4⟩
theorem CD.mono{S S':Nat}{a b c d:Rat}(h:CD S a b c d)(hs:S≤S'):CD S' a b c d:=by
 obtain⟨A,B,C,E,D,h0,hd,⟨h1,h2,h3,h4⟩,e1,e2,e3,e4⟩:=h.ex
 exact⟨A,B,C,E,D,h0,au hd hs,⟨au h1 hs,au h2 hs,au h3 hs,au h4 hs⟩,e1,e2,e3,e4⟩
theorem tJ(n:Int):f7 (n:Rat) = .tup [.int n,.int 1]:=by
 unfold f7
 rw[MX,MY];rfl
theorem Bf{n:Int}{k:Nat}(hk:0<k)(h:n.natAbs<2 ^ k):sz (n:Rat)≤k:=by
 refine RM.sE _ hk ?_ ?_
 ·rw[MX];exact h
 ·rw[MY];exact Nat.one_lt_two_pow (by omega)
theorem bQ(q:Rat):sz (C4 q)=sz q:=by
 unfold C4;split
 ·rfl
 ·exact RM.I0 q
theorem pz{q:Rat}(h:q≠0):0<C4 q:=by
 unfold C4;split
 ·grind
 ·grind
noncomputable def p7(x:Str × Rat):D:=.tup [.str x.1,f7 x.2]
structure w6(x:Str × Rat):Prop where
 kind:(x.1 = "gap" ∧ 0≤x.2)∨x.1 = "glass" ∨ (x.1 = "stop" ∧ 0<x.2)
 sz:RM.sz x.2≤41
noncomputable def y7(x:Str × Rat)(y u:Rat):Rat × Rat:=if x.1 = "gap" then(y+x.2*u,u)else if x.1 = "glass" then(y,u - x.2*y)else(y,u)
noncomputable def f6(bs:List (Str × Rat))(r:Rat × Rat):Rat × Rat:=bs.foldl (fun r x=>y7 x r.1 r.2) r
theorem CD.led{S:Nat}{x:Str × Rat}{y u:Rat}(h:CD S y 0 u 0)(hx:sz x.2≤41):CD (S+42) (y7 x y u).1 0 (y7 x y u).2 0:=by
 unfold y7
 split
 ·have:=h.step hx
  rw[show(0:Rat)+x.2*0=0 by grind]at this
  exact this
 ·split
  ·have:=(h.swap.step (q:=-x.2) (k:=41) (by rw[RM.I0];exact hx)).swap
   rw[show(0:Rat) + -x.2*0=0 by grind,show u + -x.2*y=u - x.2*y by grind]at this
   exact this
  ·exact h.mono (by omega)
theorem CD.t2{S:Nat}{y u:Rat}(h:CD S y 0 u 0)(hS:0<S:=by omega):T2 S y u:=⟨h.t4.a,h.t4.c⟩
theorem CD.ray{y u:Rat}{k:Nat}(h1:sz y≤k)(h2:sz u≤k):CD (2*k) y 0 u 0:=by
 have n1:=G4 y h1
 have d1:=B1 y h1
 have n2:=G4 u h2
 have d2:=B1 u h2
 have d1':(y.den:Int).natAbs<2 ^ k:=by rw[IK];exact d1
 have d2':(u.den:Int).natAbs<2 ^ k:=by rw[IK];exact d2
 have e1:=G5 y
 have e2:=G5 u
 refine⟨y.num*(u.den:Int),0,u.num*(y.den:Int),0,y.den*u.den,KO y.den_nz u.den_nz,?_,⟨?_,?_,?_,?_⟩,?_,?_,?_,?_⟩
 ·rw[show 2*k=k+k by omega];exact B4 d1 d2
 ·rw[show 2*k=k+k by omega];exact g9 n1 d2'
 ·exact MZ _
 ·rw[show 2*k=k+k by omega];exact g9 n2 d1'
 ·exact MZ _
 all_goals (simp only[Jy,IV,Jf,Rat.intCast_zero];grind)
theorem cw{bs:List (Str × Rat)}{i:Nat}{x:Str × Rat}(h:bs[i]? = some x)(r:Rat × Rat):f6 (bs.take (i+1)) r=y7 x (f6 (bs.take i) r).1 (f6 (bs.take i) r).2:=by
 obtain⟨hl,he⟩:=Jd.mp h
 unfold f6
 rw[KR hl,Jw,he]
 rfl
theorem BQ{bs:List (Str × Rat)}{y u:Rat}{S:Nat}(h:CD S y 0 u 0)(hb:∀ x∈bs,w6 x):CD (S+42*bs.length) (f6 bs (y,u)).1 0 (f6 bs (y,u)).2 0:=by
 induction bs generalizing y u S with
 | nil=>exact h
 | cons x r ih =>
  have h1:=h.led (hb x IG).sz
  have h2:=ih (y:=(y7 x y u).1) (u:=(y7 x y u).2) h1 fun z hz=>hb z (IC _ hz)
  exact h2.mono (by simp only[IA];omega)
theorem V5(bs:List (Str × Rat))(y u:Rat):(f6 bs (y,u)).1=(f6 bs (1,0)).1*y+(f6 bs (0,1)).1*u∧(f6 bs (y,u)).2=(f6 bs (1,0)).2*y+(f6 bs (0,1)).2*u:=by
 have gen:∀(bs:List (Str × Rat)) (y u a b c d z w:Rat),z=a*y+b*u→w=c*y+d*u →
   (f6 bs (z,w)).1=(f6 bs (a,c)).1*y+(f6 bs (b,d)).1*u∧(f6 bs (z,w)).2=(f6 bs (a,c)).2*y+(f6 bs (b,d)).2*u:=by
  intro bs
  induction bs with
  | nil=>intro y u a b c d z w h1 h2;exact⟨h1,h2⟩
  | cons x r ih =>
   intro y u a b c d z w h1 h2
   refine ih y u (y7 x a c).1 (y7 x b d).1 (y7 x a c).2 (y7 x b d).2 (y7 x z w).1 (y7 x z w).2 ?_ ?_
   ·unfold y7;split
    ·grind
    ·split<;>grind
   ·unfold y7;split
    ·grind
    ·split<;>grind
 exact gen bs y u 1 0 0 1 y u (by grind) (by grind)
theorem eI{bs:List (Str × Rat)}{i:Nat}{d:D}(h:(bs.map p7)[i]? = some d):∃ x,bs[i]? = some x∧d=p7 x:=by
 rw[Jb]at h
 cases e:bs[i]? with
 | none=>rw[e]at h;cases h
 | some x=>rw[e]at h;exact⟨x,rfl,(Option.some.inj h).symm⟩
theorem eJ{x y:Str × Rat}(h:p7 x=p7 y):x=y:=by
 unfold p7 at h
 injection h with h
 injection h with h1 h2
 injection h1 with h1
 injection h2 with h2 _
 exact Prod.ext h1 (N9 h2)
theorem h8{x y:Str × Rat}:p7 x=p7 y↔x=y:=⟨eJ,fun h=>by rw[h]⟩
theorem g6{xs ys:List (Str × Rat)}:xs.map p7=ys.map p7↔xs=ys:=Ju (fun _ _ h=>eJ h)
noncomputable def j4(l:Rat × Rat × Rat):D:=.tup [f7 l.1,f7 l.2.1,f7 l.2.2]
theorem eM{x y:Rat × Rat × Rat}(h:j4 x=j4 y):x=y:=by
 unfold j4 at h
 injection h with h
 injection h with h1 h2
 injection h2 with h2 h3
 injection h3 with h3 _
 exact Prod.ext (N9 h1) (Prod.ext (N9 h2) (N9 h3))
theorem h9{x y:Rat × Rat × Rat}:j4 x=j4 y↔x=y:=⟨eM,fun h=>by rw[h]⟩
theorem g7{xs ys:List (Rat × Rat × Rat)}:xs.map j4=ys.map j4↔xs=ys:=Ju (fun _ _ h=>eM h)
theorem Bt{p q r:Rat}:D.tup [f7 p,f7 q,f7 r]=j4 (p,q,r):=rfl
theorem mP{gs:O4}{l:Rat × Rat × Rat}{e:Ev}{M:Mem}{Q:Ev→Mem→Prop}:kg 3 gs (j4 l) e M Q=gs [f7 l.1,f7 l.2.1,f7 l.2.2] e M Q:=bO rfl
theorem mS{l:Rat × Rat × Rat}{M:Mem}{R:DK}:gIx (j4 l) (.int 0) M R=R (f7 l.1) M:=L9
theorem mR{l:Rat × Rat × Rat}{M:Mem}{R:DK}:gIx (j4 l) (.int 1) M R=R (f7 l.2.1) M:=L8
theorem mQ{l:Rat × Rat × Rat}{M:Mem}{R:DK}:gIx (j4 l) (.int 2) M R=R (f7 l.2.2) M:=fh
theorem qN{q:Rat}{M:Mem}{R:DK}:gIx (f7 q) (.int 0) M R=R (.int q.num) M:=L9
theorem qM{q:Rat}{M:Mem}{R:DK}:gIx (f7 q) (.int 1) M R=R (.int (q.den:Int)) M:=L8
theorem qL{gs:O4}{q:Rat}{e:Ev}{M:Mem}{Q:Ev→Mem→Prop}:kg 2 gs (f7 q) e M Q=gs [.int q.num,.int (q.den:Int)] e M Q:=bO rfl
theorem qK{q:Rat}{M:Mem}{R:DK}:ql [f7 q] M R=R (.int 2) M:=nu rfl
theorem mO{x:Str × Rat}{M:Mem}{R:DK}:gIx (p7 x) (.int 0) M R=R (.str x.1) M:=L9
theorem mN{x:Str × Rat}{M:Mem}{R:DK}:gIx (p7 x) (.int 1) M R=R (f7 x.2) M:=L8
theorem mM{gs:O4}{x:Str × Rat}{e:Ev}{M:Mem}{Q:Ev→Mem→Prop}:kg 2 gs (p7 x) e M Q=gs [.str x.1,f7 x.2] e M Q:=bO rfl
theorem iQ{q:Rat}{M:Mem}{R:DK}:u8 [f7 q,.ty "tuple"] M R=R (.bl true) M:=m7 rfl rfl
theorem dN{x:Str × Rat}{M:Mem}{R:DK}:u8 [p7 x,.ty "tuple"] M R=R (.bl true) M:=m7 rfl rfl
theorem mL{x:Str × Rat}{M:Mem}{R:DK}:ql [p7 x] M R=R (.int 2) M:=nu rfl
theorem wM{q:Rat}:cl 60 (f7 q)=true:=rfl
theorem wN{q:Rat}:cl 59 (f7 q)=true:=rfl
theorem wO{q:Rat}:cl 58 (f7 q)=true:=rfl
theorem wQ{q:Rat}:cl 57 (f7 q)=true:=rfl
theorem r0:D.tup [.int 0,.int 1]=f7 0:=rfl
theorem r1:D.tup [.int 1,.int 1]=f7 1:=rfl
theorem r2:D.tup [.int 2,.int 1]=f7 2:=rfl
theorem r4:D.tup [.int 4,.int 1]=f7 4:=rfl
theorem Aa{q:Rat}:D.tup [.int (q.num.natAbs:Int),.int (q.den:Int)]=f7 (C4 q):=(CT q).symm
theorem zZ{q:Rat}:D.tup [.int (-q.num),.int (q.den:Int)]=f7 (-q):=by unfold f7;rw[LD,LF]
theorem Bs{q:Rat}:D.tup [.int q.num,.int (q.den:Int)]=f7 q:=rfl
theorem rm2:D.tup [.int (-2),.int 1]=f7 (-2):=rfl
theorem rm1:D.tup [.int (-1),.int 1]=f7 (-1):=rfl
end GM
local macro_rules|`(tactic| walk_at "inj")=>`(tactic| (rename_i e h;simp only[List.cons.injEq,and_true,true_and,GM.g8,GM.h8,GM.g6,GM.h9,GM.g7,DL.D.tup.injEq,DL.D.ref.injEq,DL.D.int.injEq,DL.D.str.injEq,DL.D.bl.injEq,DL.D.vl.injEq,IZ,and_assoc]at e;(repeat(obtain⟨e1,e⟩:=e;subst e1));subst e;exact h))
local macro_rules|`(tactic| walk_at "injs")=>`(tactic| (rename_i e o h;rcases o with o|o<;>(subst o;first|(exfalso;simp only[DL.D.tup.injEq,List.cons.injEq,reduceCtorEq,false_and,and_false]at e;done)|(simp only[List.cons.injEq,and_true,true_and,GM.g8,GM.h8,GM.g6,GM.h9,GM.g7,DL.D.tup.injEq,DL.D.ref.injEq,DL.D.int.injEq,DL.D.str.injEq,DL.D.bl.injEq,DL.D.vl.injEq,IZ,and_assoc]at e;(repeat(obtain⟨e1,e⟩:=e;subst e1));subst e;exact h))))
namespace GM
open PySem PySem.Spec L2 DL
open RM (sz)
theorem Z8{a b:Nat}{M:Mem}{R:DK}{Y:DXK}:J6 [.int (a:Int),.int (b:Int)] M R Y=(R (.int ((JP a b:Nat):Int)) M):=propext ⟨fun z=>by obtain⟨_,_,_,_⟩:=z;walk_at "inj",fun h=>⟨a,b,rfl,h⟩⟩
theorem my{q:Rat}{M:Mem}{R:DK}{Y:DXK}:nG [f7 q] M R Y=(R (f7 (-q)) M):=propext ⟨fun z=>by obtain⟨_,_,_⟩:=z;walk_at "inj",fun h=>⟨q,rfl,h⟩⟩
theorem iC{q r:Rat}{M:Mem}{R:DK}{Y:DXK}:fm [f7 q,f7 r] M R Y=(sz q+sz r≤8900∧R (f7 (q+r)) M):=propext ⟨fun z=>by obtain⟨_,_,_,_⟩:=z;walk_at "inj",fun h=>⟨q,r,rfl,h⟩⟩
theorem dz{q r:Rat}{M:Mem}{R:DK}{Y:DXK}:aO [f7 q,f7 r] M R Y=(sz q+sz r≤8900∧R (f7 (q - r)) M):=propext ⟨fun z=>by obtain⟨_,_,_,_⟩:=z;walk_at "inj",fun h=>⟨q,r,rfl,h⟩⟩
theorem iE{q r:Rat}{M:Mem}{R:DK}{Y:DXK}:kR [f7 q,f7 r] M R Y=(sz q+sz r≤8900∧R (.bl (decide (q<r))) M):=propext ⟨fun z=>by obtain⟨_,_,_,_⟩:=z;walk_at "inj",fun h=>⟨q,r,rfl,h⟩⟩
theorem iB{c:Int}{M:Mem}{R:DK}{Y:DXK}:kQ [.int c] M R Y=(∀ p M',M p=none→MK M M'→C3 M' p→R (.ref p) M'):=propext ⟨fun z=>by obtain⟨_,_,_⟩:=z;walk_at "inj",fun h=>⟨c,rfl,h⟩⟩
theorem iD{p:Addr}{b:Int}{M:Mem}{R:DK}{Y:DXK}:X9 [.ref p,.int b] M R Y=(C3 M p∧0<b∧b.natAbs.log2<9000∧∀(r:Int) M',0≤r→r<b→A8 p M M'→R (.int r) M'):=propext ⟨fun z=>by obtain⟨_,_,_,_⟩:=z;walk_at "inj",fun h=>⟨p,b,rfl,h⟩⟩
abbrev aX(x:Str × Rat)(y u:Rat)(M:Mem)(R:DK)(Y:DXK):Prop:=sz x.2+sz y+sz u≤8900∧R (D9 (y7 x y u).1 (y7 x y u).2) M
def jv:DSp:=fun ds M R Y=>∃(x:Str × Rat) (y u:Rat),ds=[p7 x,D9 y u]∧aX x y u M R Y
theorem mG{x:Str × Rat}{y u:Rat}{M:Mem}{R:DK}{Y:DXK}:jv [p7 x,D9 y u] M R Y=(aX x y u M R Y):=propext ⟨fun z=>by obtain⟨_,_,_,_,_⟩:=z;walk_at "inj",fun h=>⟨x,y,u,rfl,h⟩⟩
theorem vB{k:Nat}:∀{ds:List D},(∀ x∈ds,cl k x=true)→clL k ds=true
 | [],_=>rfl
 | d :: r,h=>by
  show(cl k d && clL k r)=true
  rw[h d IG,vB (fun x hx=>h x (IC _ hx))];rfl
theorem S7{bs:List (Str × Rat)}{y u:Rat}{S:Nat}(h:CD S y 0 u 0)(hb:∀ x∈bs,w6 x)(i:Nat):CD (S+42*bs.length) (f6 (bs.take i) (y,u)).1 0 (f6 (bs.take i) (y,u)).2 0 :=
 (BQ h fun x hx=>hb x (Jm hx)).mono (by
  rw[Jg];omega)
theorem A8.del{p l:Addr}{M M':Mem}(h:A8 p M M')(hl:M l=none)(hp:l≠p):A8 p M (aG M' l):=⟨fun b u hb e=>by
  rw[gT (by intro z;subst z;rw[hl]at e;cases e)];exact h.keep b u hb e,by
  obtain⟨x,y,z,e⟩:=h.pool.ex
  exact⟨x,y,z,by rw[gT (Ne.symm hp)];exact e⟩⟩
theorem cS{ds:List D}{n:Nat}:K0 ds none (some (n:Int))=ds.take n:=by
 unfold K0 HT.sIx
 simp only[Nj,Nat.sub_zero]
 rw[if_neg (by omega)]
 by_cases h:n≤ds.length
 ·congr 1;omega
 ·rw[JD (by omega),JD (by omega)]
theorem yC{xs:List D}{r:Int}{M:Mem}{R:DK}(h0:0≤r)(h1:r<xs.length)(h:∀ d∈xs,R d M):gIx (.vl xs) (.int r) M R:=by
 obtain⟨z,e,hz⟩:=yM h0 h1
 exact⟨z,e,h z hz⟩
end GM
set_option maxHeartbeats 1000000
namespace L2
open PySem PySem.Spec PyProof.Rows
section
variable {X:Cx} {pins:List (Addr × Obj)} {σ:St} {H:Hp} {s:Shared} {h':Heap}
theorem Inv.keptL{t':Nat}(I:Inv X pins σ H s)(k:∀ b o,b≠X.env.locals→s.heap.get? b=some o→h'.get? b=some o)(ns:∀ m,s.heap.Ns X.env.locals m→h'.Ns X.env.locals m):Inv X pins σ H { s with heap:=h',toks:=t' }:=by
 have ne:∀{b:Addr} {o:Obj},X.s₀.heap.get? b=some o→b≠X.env.locals:=fun{b o} e z=>by
  have h1:=II e
  rw[z]at h1
  exact absurd h1 (Nat.not_lt.mpr I.ok.above)
 have nL:∀{b:Addr} {u:HO},H b=some u→b≠X.env.locals:=fun{b u} e z=>by rw[z,I.free]at e;cases e
 obtain⟨m,hn,hl⟩:=I.loc
 have cel:∀{c:Addr} {v:Option Value},s.heap.IsCell c v→h'.IsCell c v:=fun{c v} d=>by
  obtain⟨o,e1,e2⟩:=d
  refine⟨o,k c o (fun z=>?_) e1,e2⟩
  obtain⟨o2,es,ep,e3,e4,_⟩:=hn
  rw[← z,e1]at e3
  cases e3
  rw[e2]at e4;cases e4
 refine⟨I.ok,I.os,I.bare,⟨fun b o q n hb hx=>k b o (ne q) (I.base.keep b o q n hb hx),fun b o q n hb hx=>?_,I.base.free,fun b o q hx=>?_,I.base.tups,I.base.frzs,I.base.tbls⟩,⟨m,ns m hn,fun i x v e1 e2 e3=>?_⟩,fun x c e=>?_,I.free,I.freeC,fun p hp=>?_,fun b u e=>?_,I.len⟩
 ·obtain⟨sl,z⟩:=I.base.slot b o q n hb hx
  exact⟨sl,k b _ (ne q) z⟩
 ·obtain⟨o',z⟩:=I.base.there b o q hx
  exact⟨o',k b _ (ne q) z⟩
 ·obtain⟨u,r,lk⟩:=hl i x v e1 e2 e3
  exact⟨u,r,lk.imp id fun⟨a,c,b,d⟩=>⟨a,c,b,cel d⟩⟩
 ·obtain⟨v,d⟩:=I.cell x c e
  exact⟨v,cel d⟩
 ·obtain⟨a,b,c,d⟩:=I.pin p hp
  exact⟨k _ _ c a,b,c,d⟩
 ·refine(I.hok b u e).stay (fun c v hc q=>k c v ?_ q) (fun _ q=>q) fun _ _ q=>q
  rcases hc with rfl|hc
  ·exact nL e
  ·exact nL hc
theorem jN{P:Program}{w:World}{h:Heap}{a:Addr}{o:HO}(x:v8 P w H h a o):∃ u,h.get? a=some u:=DL.eK x
theorem Inv.laidL{t':Nat}{a:Addr}{o:HO}(I:Inv X pins σ H s)(k:∀ b o,b≠X.env.locals→s.heap.get? b=some o→h'.get? b=some o)(ns:∀ m,s.heap.Ns X.env.locals m→h'.Ns X.env.locals m)(hn:s.heap.get? a=none)(hL:a≠X.env.locals)(nt:∀ xs,o ≠ .tup xs)(new:v8 X.prog X.w (upd H a o) h' a o):Inv X pins σ (upd H a o) { s with heap:=h',toks:=t' }:=by
 have J:=I.keptL (t':=t') k ns
 have nH:H a=none:=by
  cases e:H a with
  | none=>rfl
  | some u=>obtain⟨x,hx⟩:=jN (I.hok a u e);rw[hn]at hx;cases hx
 have ne:∀{b:Addr} {u:HO},H b=some u→b≠a:=fun{b u} e z=>by rw[z,nH]at e;cases e
 refine⟨J.ok,J.os,J.bare,⟨J.base.keep,J.base.slot,fun b o' q n hx=>?_,J.base.there,fun b xs q=>?_,fun b o' u q=>?_,fun b ps q=>?_⟩,J.loc,J.cell,?_,fun x c e=>?_,fun p hp=>?_,fun b u e=>?_,J.len⟩
 ·have hb:b≠a:=fun z=>by
   obtain⟨o2,e2⟩:=I.base.there b o' q hx
   rw[z,hn]at e2;cases e2
  rw[f9 hb];exact J.base.free b o' q n hx
 ·have:=J.base.tups b xs q
  rw[f9 (ne this)];exact this
 ·have:=J.base.frzs b o' u q
  rw[f9 (ne this)];exact this
 ·obtain⟨more,this⟩:=J.base.tbls b ps q
  exact⟨more,by rw[f9 (ne this)];exact this⟩
 ·rw[f9 (Ne.symm hL)];exact J.free
 ·have hb:c≠a:=fun z=>by
   obtain⟨v,o2,e2,_⟩:=I.cell x c e
   rw[z,hn]at e2;cases e2
  rw[f9 hb];exact J.freeC x c e
 ·obtain⟨p1,p2,p3⟩:=J.pin p hp
  have hb:p.1≠a:=fun z=>by
   have:=(I.pin p hp).1
   rw[z,hn]at this;cases this
  exact⟨p1,by rw[f9 hb];exact p2,p3⟩
 ·by_cases hb:b=a
  ·subst hb
   rw[h7]at e
   cases e
   exact new
  ·rw[f9 hb]at e
   refine(J.hok b u e).stay (fun _ _ _ q=>q) (fun c q=>?_) fun c xs q=>?_
   ·rw[f9 (ne q)];exact q
   ·rw[f9 (ne q)];exact q
end
section
variable {prog:Program} {w:World} {A:Around} {E:Value→Shared→Prop} {s:Shared}
end
end L2
namespace DL
open PySem PySem.Spec L2
open PyProof.Rows hiding St
theorem eX:bootBuiltins "sorted" = some (.builtin "sorted"):=by decide +kernel
end DL
namespace L2
open PySem PySem.Spec PyProof.Rows
section
variable {N:Nat} {o:Nat→Nat→Bool} {s:Shared} {cmp:Nat→Nat→(Bool→Shared→Prop)→Shared→Prop}
structure mq(N:Nat)(o:Nat→Nat→Bool):Prop where
 tr:∀ i j k,i<N→j<N→k<N→o i j=true→o j k=true→o i k=true
 tot:∀ i j,i<N→j<N→i≠j→o i j=false→o j i=true
def fg(N:Nat)(o:Nat→Nat→Bool)(s:Shared)(cmp:Nat→Nat→(Bool→Shared→Prop)→Shared→Prop):Prop:=∀ i j C,i<N→j<N→C (o i j) s→cmp i j C s
def PPm(N:Nat)(p:Array Nat):Prop:=p.Perm (MI (JK N))
noncomputable abbrev gA(p:Array Nat)(i:Nat):Nat:=p.getD i 0
theorem PPm.size{p:Array Nat}(h:PPm N p):p.size=N:=by
 have:=h.size_eq
 simpa using this
theorem uR{p:Array Nat}{i v:Nat}(h:p[i]? = some v):gA p i=v:=by
 show p.getD i 0=v
 rw[Array.getD_eq_getD_getElem?,h];rfl
theorem G8{p:Array Nat}{i:Nat}(h:i<p.size):p[i]? = some (gA p i):=by
 show p[i]? = some (p.getD i 0)
 rw[Array.getD_eq_getD_getElem?,Array.getElem?_eq_getElem h];rfl
theorem PPm.lt{p:Array Nat}(h:PPm N p){i:Nat}(hi:i<N):gA p i<N:=by
 have hs:=G8 (p:=p) (i:=i) (by rw[h.size];exact hi)
 have hm:gA p i∈p:=Array.mem_of_getElem? hs
 have:=(Array.Perm.mem_iff h).mp hm
 simpa using this
theorem PPm.inj{p:Array Nat}(h:PPm N p){i j:Nat}(hi:i<N)(hj:j<N)(e:gA p i=gA p j):i=j:=by
 have hn:p.toList.Nodup:=(Array.perm_iff_toList_perm.mp h).nodup_iff.mpr (by simpa using List.nodup_range)
 have e1:p.toList[i]? = p.toList[j]?:=by
  rw[Array.getElem?_toList,Array.getElem?_toList,G8 (by rw[h.size];exact hi),G8 (by rw[h.size];exact hj),e]
 exact(List.getElem?_inj (by rw[Array.length_toList,h.size];exact hi) hn).mp e1
def mn(o:Nat→Nat→Bool)(p:Array Nat)(m:Nat):Prop:=∀ i j,i<j→j<m→o (gA p i) (gA p j)=true
def FE(o:Nat→Nat→Bool)(p:Array Nat)(m:Nat):Prop:=∀ i j,i<j→j<m→o (gA p j) (gA p i)=true
theorem mi(O:mq N o)(hc:fg N o s cmp){p:Array Nat}(hp:PPm N p){Q:Nat→Shared→Prop}:∀(f n:Nat),1≤n→n+f≤N→mn o p n →
  (∀ m,n≤m→m≤n+f→mn o p m→(m=n+f∨o (gA p m) (gA p (m - 1))=true)→Q m s)→(PySem.W.kas_asc p f n).kasWp cmp Q s
 | 0,n,_,_,hs,q=>q n (IL _) (IL _) hs (.inl rfl)
 | f+1,n,h1,hn,hs,q=>by
  show cmp (gA p n) (gA p (n - 1)) (fun b s'=>(if b=true then PySem.W.KasT.ret n else PySem.W.kas_asc p f (n+1)).kasWp cmp Q s') s
  refine hc _ _ _ (hp.lt (by omega)) (hp.lt (by omega)) ?_
  cases e:o (gA p n) (gA p (n - 1))with
  | true =>
   rw[if_pos rfl]
   exact q n (IL _) (by omega) hs (.inr e)
  | false =>
   rw[if_neg (by decide)]
   have up:o (gA p (n - 1)) (gA p n)=true:=O.tot _ _ (hp.lt (by omega)) (hp.lt (by omega)) (fun z=>by have:=hp.inj (by omega) (by omega) z;omega) e
   refine mi O hc hp f (n+1) (by omega) (by omega) (fun i j hij hj=>?_) (fun m a1 a2 a3 a4=>q m (by omega) (by omega) a3 (by rcases a4 with h|h;exact .inl (by omega);exact .inr h))
   rcases Ka (LX.mp hj)with c|c
   ·exact hs i j hij c
   ·subst c
    rcases Ka (show i≤j - 1 by omega)with d|d
    ·exact O.tr _ _ _ (hp.lt (by omega)) (hp.lt (by omega)) (hp.lt (by omega)) (hs i (j - 1) d (by omega)) up
    ·rw[d];exact up
theorem oQ(O:mq N o)(hc:fg N o s cmp){p:Array Nat}(hp:PPm N p){Q:Array Nat × Nat × Nat→Shared→Prop}:∀(f n:Nat),1≤n→n+f≤N→FE o p n →
  (∀ m,n≤m→m≤n+f→FE o p m→Q (p,m,0) s)→(PySem.W.kas_desc f p n 0).kasWp cmp Q s
 | 0,n,_,_,hs,q=>q n (IL _) (IL _) hs
 | f+1,n,h1,hn,hs,q=>by
  show cmp (gA p n) (gA p (n - 1)) (fun b s'=>(if b=true then(if (0:Nat) > 0 then PySem.W.kas_desc f (PySem.W.kas_rev p (n - (0+1)) n) (n+1) 0 else PySem.W.kas_desc f p (n+1) 0)
   else .ask (gA p (n - 1)) (gA p n) fun d=>if d=true then .ret (p,n,0)else PySem.W.kas_desc f p (n+1) (0+1)).kasWp cmp Q s') s
  refine hc _ _ _ (hp.lt (by omega)) (hp.lt (by omega)) ?_
  cases e:o (gA p n) (gA p (n - 1))with
  | true =>
   rw[if_pos rfl,if_neg (by decide)]
   refine oQ O hc hp f (n+1) (by omega) (by omega) (fun i j hij hj=>?_) (fun m a1 a2 a3=>q m (by omega) (by omega) a3)
   rcases Ka (LX.mp hj)with c|c
   ·exact hs i j hij c
   ·subst c
    rcases Ka (show i≤j - 1 by omega)with d|d
    ·exact O.tr _ _ _ (hp.lt (by omega)) (hp.lt (by omega)) (hp.lt (by omega)) e (hs i (j - 1) d (by omega))
    ·rw[d];exact e
  | false =>
   rw[if_neg (by decide)]
   show cmp (gA p (n - 1)) (gA p n) (fun d s'=>(if d=true then PySem.W.KasT.ret (p,n,0)else PySem.W.kas_desc f p (n+1) (0+1)).kasWp cmp Q s') s
   refine hc _ _ _ (hp.lt (by omega)) (hp.lt (by omega)) ?_
   rw[O.tot _ _ (hp.lt (by omega)) (hp.lt (by omega)) (fun z=>by have:=hp.inj (by omega) (by omega) z;omega) e,if_pos rfl]
   exact q n (IL _) (by omega) hs
theorem tE{p:Array Nat}{n:Nat}(hn:n≤p.size){k:Nat}(hk:k<p.size):gA (PySem.W.kas_rev p 0 n) k=if k<n then gA p (n - 1 - k)else gA p k:=by
 have e:=getElem?_mirror_all (xs:=p) (i:=0) hn k
 refine uR ?_
 show(mirror p 0 n ((n - 0) / 2))[k]? = _
 rw[e]
 by_cases c:k<n
 ·rw[if_pos ⟨Jr _,c⟩,if_pos c,show 0+n - 1 - k=n - 1 - k by omega]
  exact G8 (by omega)
 ·rw[if_neg (fun z=>c z.2),if_neg c]
  exact G8 hk
theorem Br{p:Array Nat}{n:Nat}(h:PPm N p):PPm N (PySem.W.kas_rev p 0 n):=(mirror_perm p 0 n _).trans h
theorem vp(O:mq N o)(hc:fg N o s cmp){p:Array Nat}(hp:PPm N p)(h1:1≤N){Q:Nat × Array Nat→Shared→Prop}
  (q:∀ m p',1≤m→m≤N→PPm N p'→mn o p' m→Q (m,p') s):(PySem.W.kas_count N p).kasWp cmp Q s:=by
 unfold PySem.W.kas_count
 rw[PySem.W.KasT.kasWp_bind]
 refine mi O hc hp (N - 1) 1 (IL 1) (by omega) (fun i j hij hj=>absurd hij (by omega)) fun n n1 n2 hs ho=>?_
 by_cases e:n=N
 ·subst e
  rw[if_pos (by simp)]
  exact q n p n1 (IL _) hp hs
 rw[if_neg (by simpa using e)]
 by_cases e2:n > 1
 ·rw[if_pos e2]
  show cmp (gA p 0) (gA p (n - 1)) (fun b s'=>(if b=true then PySem.W.KasT.ret (n,p)else PySem.W.kas_descPart n N (PySem.W.kas_rev p 0 n)).kasWp cmp Q s') s
  refine hc _ _ _ (hp.lt (by omega)) (hp.lt (by omega)) ?_
  rw[hs 0 (n - 1) (by omega) (by omega),if_pos rfl]
  exact q n p n1 (by omega) hp hs
 ·rw[if_neg e2]
  obtain rfl:n=1:=by omega
  have e0:o (gA p 1) (gA p 0)=true:=by
   rcases ho with h|h
   ·omega
   ·exact h
  unfold PySem.W.kas_descPart
  rw[PySem.W.KasT.kasWp_bind]
  refine oQ O hc hp (N - (1+1)) (1+1) (by omega) (by omega) (fun i j hij hj=>?_) fun m m1 m2 hd=>?_
  ·obtain rfl:j=1:=by omega
   obtain rfl:i=0:=by omega
   exact e0
  show(if (0:Nat) > 0 then PySem.W.kas_tail3 m N (PySem.W.kas_rev p (m - (0+1)) m)else PySem.W.kas_tail3 m N p).kasWp cmp Q s
  rw[if_neg (by decide)]
  unfold PySem.W.kas_tail3
  rw[PySem.W.KasT.kasWp_bind]
  have hp':PPm N (PySem.W.kas_rev p 0 m):=Br hp
  have sz:=hp.size
  refine mi O hc hp' (N - m) m (by omega) (by omega) (fun i j hij hj=>?_) fun k k1 k2 hk _=>q k _ (by omega) (by omega) hp' hk
  rw[tE (by omega) (by omega),tE (by omega) (by omega),if_pos (by omega),if_pos (by omega)]
  exact hd _ _ (by omega) (by omega)
theorem cu(O:mq N o)(hc:fg N o s cmp){p:Array Nat}(hp:PPm N p){k:Nat}(hk:k<N)(hs:mn o p k){Q:Nat→Shared→Prop}:∀(f l r:Nat),r - l≤f→l≤r→r≤k →
  (∀ i,i<l→o (gA p i) (gA p k)=true)→(∀ i,r≤i→i<k→o (gA p k) (gA p i)=true) →
  (∀ l,l≤k→(∀ i,i<l→o (gA p i) (gA p k)=true)→(∀ i,l≤i→i<k→o (gA p k) (gA p i)=true)→Q l s)→(PySem.W.kas_place p k f l r).kasWp cmp Q s
 | 0,l,r,hf,h1,h2,a,b,q=>q l (by omega) a ((show l=r by omega)▸b)
 | f+1,l,r,hf,h1,h2,a,b,q=>by
  unfold PySem.W.kas_place
  by_cases c:l≥r
  ·rw[if_pos c]
   exact q l (by omega) a ((show l=r by omega)▸b)
  rw[if_neg c]
  show cmp (gA p k) (gA p ((l+r) / 2)) (fun c s'=>(if c=true then PySem.W.kas_place p k f l ((l+r) / 2)else PySem.W.kas_place p k f ((l+r) / 2+1) r).kasWp cmp Q s') s
  have hm:(l+r) / 2<r:=by omega
  have hm2:l≤(l+r) / 2:=by omega
  generalize (l+r) / 2=m at *
  refine hc _ _ _ (hp.lt (by omega)) (hp.lt (by omega)) ?_
  cases e:o (gA p k) (gA p m)with
  | true =>
   rw[if_pos rfl]
   refine cu O hc hp hk hs f l m (by omega) (by omega) (by omega) a (fun i hi hik=>?_) q
   rcases Ka hi with d|d
   ·exact O.tr _ _ _ (hp.lt (by omega)) (hp.lt (by omega)) (hp.lt (by omega)) e (hs m i d hik)
   ·rw[← d];exact e
  | false =>
   rw[if_neg (by decide)]
   have up:o (gA p m) (gA p k)=true:=O.tot _ _ (hp.lt (by omega)) (hp.lt (by omega)) (fun z=>by have:=hp.inj (by omega) (by omega) z;omega) e
   refine cu O hc hp hk hs f (m+1) r (by omega) (by omega) h2 (fun i hi=>?_) b q
   rcases Ka (LX.mp hi)with d|d
   ·exact O.tr _ _ _ (hp.lt (by omega)) (hp.lt (by omega)) (hp.lt (by omega)) (hs i m d (by omega)) up
   ·rw[d];exact up
theorem vF{p:Array Nat}{k l:Nat}(hk:k<p.size)(hl:l≤k){i:Nat}(hi:i<p.size):gA (bubble p k (k - l)) i=if i=l then gA p k else if l<i∧i≤k then gA p (i - 1)else gA p i:=by
 have e:=getElem?_bubble hk (k - l) (by omega) i
 rw[show k - (k - l)=l by omega]at e
 refine uR ?_
 rw[e]
 by_cases c:i=l
 ·rw[if_pos c,if_pos c];exact G8 hk
 ·rw[if_neg c,if_neg c]
  by_cases d:l<i∧i≤k
  ·rw[if_pos d,if_pos d];exact G8 (by omega)
  ·rw[if_neg d,if_neg d];exact G8 hi
theorem vJ(O:mq N o)(hc:fg N o s cmp){Q:Array Nat→Shared→Prop}:∀(f k:Nat) (p:Array Nat),PPm N p→k+f=N→mn o p k→(∀ p',PPm N p'→mn o p' N→Q p' s)→(PySem.W.kas_bin f p k).kasWp cmp Q s
 | 0,k,p,hp,hk,hs,q=>by
  obtain rfl:k=N:=by omega
  exact q p hp hs
 | f+1,k,p,hp,hk,hs,q=>by
  unfold PySem.W.kas_bin
  rw[PySem.W.KasT.kasWp_bind]
  refine cu O hc hp (by omega) hs k 0 k (by omega) (by omega) (IL _) (fun i hi=>absurd hi (by omega)) (fun i h1 h2=>absurd h2 (by omega)) fun l hl a b=>?_
  have sz:=hp.size
  refine vJ O hc f (k+1) _ ((bubble_perm p k (k - l)).trans hp) (by omega) (fun i j hij hj=>?_) q
  rw[vF (by omega) hl (by omega),vF (by omega) hl (by omega)]
  by_cases c1:i=l
  ·rw[if_pos c1,if_neg (by omega),if_pos (by omega)]
   exact b _ (by omega) (by omega)
  ·rw[if_neg c1]
   by_cases c2:l<i
   ·rw[if_pos ⟨c2,by omega⟩,if_neg (by omega),if_pos (by omega)]
    exact hs _ _ (by omega) (by omega)
   ·rw[if_neg (by omega)]
    by_cases c3:j=l
    ·rw[if_pos c3]
     exact a i (by omega)
    ·rw[if_neg c3]
     by_cases c4:l<j
     ·rw[if_pos ⟨c4,by omega⟩]
      exact hs _ _ (by omega) (by omega)
     ·rw[if_neg (by omega)]
      exact hs _ _ hij (by omega)
theorem xl(O:mq N o)(hc:fg N o s cmp)(h1:1≤N){Q:Array Nat→Shared→Prop}(q:∀ p',PPm N p'→mn o p' N→Q p' s):(PySem.W.kas_sort N).kasWp cmp Q s:=by
 unfold PySem.W.kas_sort
 rw[PySem.W.KasT.kasWp_bind]
 refine vp O hc (p:=MI (JK N)) (Array.Perm.refl _) h1 fun m p' m1 m2 hp hs=>?_
 show(if m<N then PySem.W.kas_bin (N - max m 1) p' (max m 1)else .ret p').kasWp cmp Q s
 by_cases c:m<N
 ·rw[if_pos c,show max m 1=m by omega]
  exact vJ O hc _ m p' hp (by omega) hs q
 ·rw[if_neg c]
  obtain rfl:m=N:=by omega
  exact q p' hp hs
end
noncomputable abbrev aJ:=List Int × List Int
noncomputable def lt2(k k':aJ):Bool:=if k.1=k'.1 then HT.B5 k.2 k'.2 else HT.B5 k.1 k'.1
theorem bf:∀(xs:List Int),HT.B5 xs xs=false
 | []=>rfl
 | x :: xs=>by rw[HT.K9,if_pos rfl];exact bf xs
theorem lT:∀(xs ys zs:List Int),HT.B5 xs ys=true→HT.B5 ys zs=true→HT.B5 xs zs=true
 | [],[],_,h,_=>by cases h
 | [],_ :: _,[],_,h=>by cases h
 | [],_ :: _,_ :: _,_,_=>rfl
 | _ :: _,[],_,h,_=>by cases h
 | _ :: _,_ :: _,[],_,h=>by cases h
 | x :: xs,y :: ys,z :: zs,h1,h2=>by
  rw[HT.K9]at h1 h2 ⊢
  by_cases c1:x=y
  ·subst c1
   rw[if_pos rfl]at h1
   by_cases c2:x=z
   ·rw[if_pos c2]at h2 ⊢
    exact lT xs ys zs h1 h2
   ·rw[if_neg c2]at h2 ⊢
    exact h2
  ·rw[if_neg c1]at h1
   have h1:=of_decide_eq_true h1
   by_cases c2:y=z
   ·rw[if_neg (by omega)];exact decide_eq_true (by omega)
   ·rw[if_neg c2]at h2
    have h2:=of_decide_eq_true h2
    rw[if_neg (by omega)];exact decide_eq_true (by omega)
theorem gE:∀(xs ys:List Int),xs≠ys→HT.B5 xs ys=false→HT.B5 ys xs=true
 | [],[],h,_=>absurd rfl h
 | [],_ :: _,_,h=>by cases h
 | _ :: _,[],_,_=>rfl
 | x :: xs,y :: ys,h,h1=>by
  rw[HT.K9]at h1 ⊢
  by_cases c:x=y
  ·subst c
   rw[if_pos rfl]at h1 ⊢
   exact gE xs ys (fun z=>h (by rw[z])) h1
  ·rw[if_neg c]at h1
   have:=of_decide_eq_false h1
   rw[if_neg (fun z=>c z.symm)];exact decide_eq_true (by omega)
theorem gz(k:aJ):lt2 k k=false:=by unfold lt2;rw[if_pos rfl];exact bf _
theorem uu{a b c:aJ}(h1:lt2 a b=true)(h2:lt2 b c=true):lt2 a c=true:=by
 unfold lt2 at *
 by_cases c1:a.1=b.1
 ·rw[if_pos c1]at h1
  by_cases c2:b.1=c.1
  ·rw[if_pos c2]at h2
   rw[if_pos (c1.trans c2)];exact lT _ _ _ h1 h2
  ·rw[if_neg c2]at h2
   rw[if_neg (by rw[c1];exact c2),c1];exact h2
 ·rw[if_neg c1]at h1
  by_cases c2:b.1=c.1
  ·rw[if_neg (by rw[← c2];exact c1),← c2];exact h1
  ·rw[if_neg c2]at h2
   have:=lT _ _ _ h1 h2
   rw[if_neg (fun z=>by rw[z,bf]at this;cases this)];exact this
theorem yk{a b:aJ}(h:a≠b)(h1:lt2 a b=false):lt2 b a=true:=by
 unfold lt2 at *
 by_cases c:a.1=b.1
 ·rw[if_pos c]at h1
  rw[if_pos c.symm]
  exact gE _ _ (fun z=>h (Prod.ext c z)) h1
 ·rw[if_neg c]at h1
  rw[if_neg (fun z=>c z.symm)]
  exact gE _ _ c h1
theorem jB:∀(xs ys:List aJ),xs.Pairwise (fun a b=>lt2 a b=true)→ys.Pairwise (fun a b=>lt2 a b=true)→(∀ k,k∈xs↔k∈ys)→xs=ys
 | [],[],_,_,_=>rfl
 | [],y :: _,_,_,h=>by cases(h y).mpr (.head _)
 | x :: _,[],_,_,h=>by cases(h x).mp (.head _)
 | x :: xs,y :: ys,hx,hy,h=>by
  obtain⟨hx1,hx2⟩:=JL.mp hx
  obtain⟨hy1,hy2⟩:=JL.mp hy
  have e:x=y:=by
   rcases IE.mp ((h x).mp (.head _))with e|e
   ·exact e
   ·rcases IE.mp ((h y).mpr (.head _))with e2|e2
    ·exact e2.symm
    ·have:=uu (hy1 x e) (hx1 y e2)
     rw[gz]at this;cases this
  subst e
  congr 1
  refine jB xs ys hx2 hy2 fun k=>⟨fun hk=>?_,fun hk=>?_⟩
  ·rcases IE.mp ((h k).mp (.tail _ hk))with e|e
   ·have:=hx1 k hk
    rw[e,gz]at this;cases this
   ·exact e
  ·rcases IE.mp ((h k).mpr (.tail _ hk))with e|e
   ·have:=hy1 k hk
    rw[e,gz]at this;cases this
   ·exact e
theorem uI{us:List Value}{ns:List Int}(h:IntsAre us ns):∀{ms:List Int},IntsAre us ms→ns=ms:=by
 induction h with
 | nil=>intro ms h;cases h;rfl
 | cons a t h ih =>
  intro ms h2
  cases h2 with
  | cons a2 t2 h2=>rw[ih h2]
theorem oO{A:Around}{s:Shared}{l b:Addr}{us vs:List Value}{ns ms:List Int}(hl:IsTup s.heap l us.toArray)(hb:IsTup s.heap b vs.toArray)(hi:IntsAre us ns)(hj:IntsAre vs ms)(hu:A.units<cLine):∃ e,SeqAt.EqAt A s (.ref l) (.ref b) e∧(e=true↔ns=ms):=by
 by_cases c:l=b
 ·subst c
  refine⟨true,SeqAt.EqAt.same _,⟨fun _=>?_,fun _=>rfl⟩⟩
  obtain⟨o,h1,_,n,h2⟩:=hl
  obtain⟨o',h1',_,n',h2'⟩:=hb
  rw[h1]at h1';cases h1'
  rw[h2]at h2'
  injection h2' with h2'
  have h3:us=vs:=by simpa using h2'
  subst h3
  exact uI hi hj
 ·have item:∀{us:List Value} {ns:List Int},IntsAre us ns→∀(j:Nat) (h:j<us.toArray.size),∃ t,us.toArray[j] = .int (ns.getD j 0) t:=fun{us ns} h=>by
   induction h with
   | nil=>intro j h;exact absurd h (by simp)
   | cons a t h ih =>
    intro j hj
    cases j with
    | zero=>exact⟨t,by simp⟩
    | succ j =>
     obtain⟨t',e⟩:=ih j (by simpa using hj)
     exact⟨t',by simpa using e⟩
  refine⟨_,SeqAt.EqAt.of_refs c (SeqAt.RcAt.tuples (e:=fun j=>decide (ns.getD j 0=ms.getD j 0)) hl hb hu fun j h1 h2=>?_),?_⟩
  ·obtain⟨t,e1⟩:=item hi j h1
   obtain⟨u,e2⟩:=item hj j h2
   rw[e1,e2]
   obtain⟨e,he,hiff⟩:=HT.kb A.in1 s (ns.getD j 0) t (ms.getD j 0) u
   have:e=decide (ns.getD j 0=ms.getD j 0):=by
    by_cases z:ns.getD j 0=ms.getD j 0
    ·rw[hiff.mpr z,decide_eq_true z]
    ·rw[decide_eq_false z]
     cases e with
     | false=>rfl
     | true=>exact absurd (hiff.mp rfl) z
   rw[← this];exact he
  ·rw[Kt,Kl]
   have z1:=hi.length
   have z2:=hj.length
   simp only[IY,z1,z2,KW,beq_iff_eq,decide_eq_true_eq]
   constructor
   ·rintro⟨h1,h2⟩
    refine Kk h2 fun i a1 a2=>?_
    have:=h1 i (by omega)
    simpa[a1,a2]using this
   ·rintro rfl
    exact⟨fun _ _=>rfl,rfl⟩
section
variable {X:Cx} {pins:List (Addr × Obj)} {σ:St} {H:Hp} {s:Shared}
inductive Q3 (K:Iy) (H:Hp):List V→List aJ→Prop
 | nil:Q3 K H [] []
 | cons {a b c:Addr} {ns ms:List Int} {ys:List V} {ks:List aJ} (h1:SqT K H a [.ref b,.ref c]) (h2:SqT K H b (ns.map V.int)) (h3:SqT K H c (ms.map V.int)) (t:Q3 K H ys ks):Q3 K H (.ref a :: ys) ((ns,ms) :: ks)
theorem Q3.length{K:Iy}{H:Hp}{ys:List V}{ks:List aJ}(h:Q3 K H ys ks):ys.length=ks.length:=by
 induction h with
 | nil=>rfl
 | cons _ _ _ _ ih=>rw[IA,IA,ih]
theorem Q3.at{K:Iy}{H:Hp}{ys:List V}{ks:List aJ}(h:Q3 K H ys ks):∀{i:Nat},i<ys.length→∃ a b c,ys.getD i .non = .ref a∧SqT K H a [.ref b,.ref c]∧SqT K H b ((ks.getD i ([],[])).1.map V.int)∧SqT K H c ((ks.getD i ([],[])).2.map V.int):=by
 induction h with
 | nil=>intro i hi;exact absurd hi (by simp)
 | cons h1 h2 h3 t ih =>
  intro i hi
  cases i with
  | zero=>exact⟨_,_,_,rfl,h1,h2,h3⟩
  | succ i=>exact ih (by simpa using hi)
theorem X5{ys:List V}{us:List Value}(r:i5 ys us):∀{i:Nat} {a:Addr},ys.getD i .non = .ref a→us.getD i Value.none = .ref a:=by
 induction r with
 | nil=>intro i a h;cases h
 | cons r t ih =>
  intro i a h
  cases i with
  | zero =>
   have h:_=V.ref a:=h
   subst h
   exact r
  | succ i=>exact ih h
theorem qg(I:Inv X pins σ H s){ys:List V}{ks:List aJ}(h:Q3 X.K H ys ks):∀{us:List Value},i5 ys us→∃ fs,PySem.W.KatTups s.heap us fs∧fs.length=us.length∧∀ v∈fs,∃ b o,v=Value.ref b∧s.heap.get? b=some o∧o.cls = .type "tuple" := by
 induction h with
 | nil=>intro us r;cases r;exact⟨[],trivial,rfl,fun v hv=>nomatch hv⟩
 | cons h1 h2 h3 t ih =>
  intro us r
  cases r with
  | cons r rl =>
   obtain rfl:=r
   obtain⟨fs,k1,k2,k3⟩:=ih rl
   obtain⟨its,rv,⟨o,e1,e2,n,e3⟩,_⟩:=I.tuple h1
   obtain⟨its2,rv2,⟨o2,g1,g2,n2,g3⟩,_⟩:=I.tuple h2
   obtain⟨u1,u2,e,r1,r2⟩:=i5.two rv
   obtain rfl:=r1
   obtain rfl:=r2
   subst e
   refine⟨_ :: fs,.cons e1 e2 e3 rfl k1,by rw[IA,IA,k2],fun v hv=>?_⟩
   rcases IE.mp hv with rfl|hv
   ·exact⟨_,o2,rfl,g1,g2⟩
   ·exact k3 v hv
theorem ma(hu:X.A.units+64<cLine):v9 X (.builtin "sorted") (fun xs H Q=>∃(l:Addr) (ys:List V) (ks:List aJ),xs=[.ref l]∧SqL X.K H l ys∧Q3 X.K H ys ks∧2≤ys.length∧ys.length<64∧ks.Nodup ∧
  ∀ is:List Nat,is.Perm (JK ys.length)→(is.map fun i=>ks.getD i ([],[])).Pairwise (fun a b=>lt2 a b=true)→∀ p,H p=none→Q (.ref p) (upd H p (.lst (is.map fun i=>ys.getD i .non)))):=by
 intro pins s σ H xs us Q I rv h
 obtain⟨l,ys,ks,rfl,hl,hk,l2,l64,nd,q⟩:=h
 obtain⟨u,rfl,ru⟩:=i5.one rv
 obtain rfl:u=Value.ref l:=ru
 obtain⟨its,rl,isl,_⟩:=I.list hl
 obtain⟨m,F⟩:=I.fr
 obtain⟨ol,nl,hl1,hl2,_,hl3⟩:=isl
 have len:ys.length=its.length:=rl.length
 have klen:=hk.length
 refine PySem.W.kat_sorted (vs:=its) F (uq (g:=X.base)) ⟨ol,hl1,hl2,nl,hl3⟩ (by omega) (by omega) fun Dl e1 h1 F1 N1 lt1=>?_
 have keep:∀ c o,c≠X.env.locals→s.heap.get? c=some o→h1.get? c=some o:=fun c o n e=>by
  cases q:X.base.get? c with
  | some u =>
   have:=I.bk c u q
   rw[e]at this;cases this
   exact F1.keep c _ q
  | none=>exact(N1 (c,o) (.tail _ (O0 n q e))).1
 have nsOf:∀{h2:Heap},Fr X.base X.env.locals h2 m→∀ m',s.heap.Ns X.env.locals m'→h2.Ns X.env.locals m':=fun{h2} F2 m' hm=>by
  obtain⟨o1,es1,ep1,a1,a2,_,a4⟩:=hm
  obtain⟨o2,es2,ep2,b1,b2,_,b4⟩:=F.ns
  rw[a1]at b1;cases b1
  rw[a2]at b2;cases b2
  have:m'=m:=funext fun x=>(a4 x).symm.trans (b4 x)
  rw[this];exact F2.ns
 have I1:Inv X pins σ H { s with heap:=h1,toks:=s.toks }:=I.keptL keep (nsOf F1)
 obtain⟨fs,t1,t2,t3⟩:=qg I1 hk rl
 refine PySem.W.kat_kind (fs:=fs) (T:=.type "tuple") t1 (by omega) (fun v hv=>?_) rfl ?_
 ·obtain⟨b,o,rfl,g1,g2⟩:=t3 v hv
  have:PySem.W.Looks (model X.prog X.w) h1 (typeOf (.ref b)) o.cls:=(PySem.W.Looks.ld g1).andThen .now
  rw[g2]at this
  exact this
 have et:(Value.type "tuple" != Value.type "tuple")=false:=by rfl
 rw[et]
 have pk:∀{i j:Nat},i<ys.length→j<ys.length→i≠j→ks.getD i ([],[])≠ks.getD j ([],[]):=fun{i j} hi hj ne e=>by
  have hi':i<ks.length:=by omega
  have hj':j<ks.length:=by omega
  have e1:ks.getD i ([],[])=ks[i]:=by simp[hi']
  have e2:ks.getD j ([],[])=ks[j]:=by simp[hj']
  rw[e1,e2]at e
  exact ne ((MQ nd).mp e)
 have O:mq its.length (fun i j=>lt2 (ks.getD i ([],[])) (ks.getD j ([],[]))):=⟨fun i j k _ _ _ a b=>uu a b,fun i j hi hj ne e=>yk (pk (by omega) (by omega) ne) e⟩
 refine xl O (fun i j C hi hj hC=>?_) (by omega) fun p' hp hs=>?_
 ·obtain⟨a,b,c,ea,s1,s2,s3⟩:=hk.at (i:=i) (by omega)
  obtain⟨a',b',c',ea',s1',s2',s3'⟩:=hk.at (i:=j) (by omega)
  have w1:∀{x y z:Addr},SqT X.K H x [.ref y,.ref z]→∃ o n,h1.get? x=some o∧o.data = .seq #[.ref y,.ref z] n:=fun{x y z} hx=>by
   obtain⟨its,rv,⟨o,e1,e2,n,e3⟩,_⟩:=I1.tuple hx
   obtain⟨u1,u2,e,r1,r2⟩:=i5.two rv
   obtain rfl:=r1
   obtain rfl:=r2
   subst e
   exact⟨o,n,e1,e3⟩
  obtain⟨o1,n1,g1,d1⟩:=w1 s1
  obtain⟨o2,n2,g2,d2⟩:=w1 s1'
  have tp:∀{x:Addr} {ns:List Int},SqT X.K H x (ns.map V.int)→∃ us:List Value,IsTup h1 x us.toArray∧IntsAre us ns:=fun{x ns} hx=>by
   obtain⟨us,r,p,_⟩:=I1.tuple hx
   exact⟨us,p,cN r⟩
  obtain⟨ub,pb,ib⟩:=tp s2
  obtain⟨ub',pb',ib'⟩:=tp s2'
  obtain⟨uc,pc,ic⟩:=tp s3
  obtain⟨uc',pc',ic'⟩:=tp s3'
  have hu2:X.A.in1.in1.units<cLine:=by show X.A.units+1+1<cLine;omega
  obtain⟨e,he,hiff⟩:=oO (A:=X.A.in1.in1) (s:={ s with heap:=h1 }) pb pb' ib ib' hu2
  obtain⟨e',he',hiff'⟩:=oO (A:=X.A.in1.in1) (s:={ s with heap:=h1 }) pc pc' ic ic' hu2
  show wpAny (model X.prog X.w) X.A.in1.in1 (keyLt' (tuples' false) (its.getD i Value.none) (its.getD j Value.none)) C (fun _ _=>False) { s with heap:=h1 }
  rw[X5 rl ea,X5 rl ea']
  have hC:C (lt2 (ks.getD i ([],[])) (ks.getD j ([],[]))) { s with heap:=h1 }:=hC
  generalize ks.getD i ([],[])=k1 at *
  generalize ks.getD j ([],[])=k2 at *
  unfold lt2 at hC
  refine PySem.W.kat_lt g1 d1 g2 d2 (PySem.W.kat_cons (he _ _ _ _ ?_))
  cases e with
  | true =>
   rw[if_pos (hiff.mp rfl)]at hC
   refine PySem.W.kat_yes (PySem.W.kat_cons (he' _ _ _ _ ?_))
   cases e' with
   | true =>
    rw[hiff'.mp rfl,bf]at hC
    exact PySem.W.kat_yes (PySem.W.kat_nil hC)
   | false=>exact PySem.W.kat_no (PySem.W.kat_one _ _ (HT.cE pc pc' ic ic' hu2 hC))
  | false =>
   rw[if_neg (fun z=>by cases hiff.mpr z)]at hC
   exact PySem.W.kat_no (PySem.W.kat_one _ _ (HT.cE pb pb' ib ib' hu2 hC))
 ·have hD0:=N1 (Dl,seqObj "list" #[] e1) (.head _)
  have hDn:s.heap.get? Dl=none:=by
   cases e:s.heap.get? Dl with
   | none=>rfl
   | some u=>exact absurd (lt1 (Dl,u) (O0 hD0.2.1 hD0.2.2 e)) (JZ _)
  refine PySem.W.KasFin.intro F1 N1 (.head fun p hp=>Jk (lt1 p hp)) fun h2 c2 F2 N2=>?_
  have keep2:∀ c o,c≠X.env.locals→s.heap.get? c=some o→h2.get? c=some o:=fun c o n e=>by
   cases q:X.base.get? c with
   | some u =>
    have:=I.bk c u q
    rw[e]at this;cases this
    exact F2.keep c _ q
   | none=>exact(N2 (c,o) (.tail _ (O0 n q e))).1
  have hD2:=N2 (Dl,PySem.W.listOf (MI _) c2) (.head _)
  have pr:p'.toList.Perm (JK ys.length):=by
   rw[len];have:=Array.perm_iff_toList_perm.mp hp;simpa using this
  have rl':i5 (p'.toList.map fun i=>ys.getD i .non) (p'.toList.map fun i=>its.getD i Value.none):=by
   have hlt:∀ i∈p'.toList,i<ys.length:=fun i hi=>by simpa using pr.mem_iff.mp hi
   generalize p'.toList=is at hlt ⊢
   induction is with
   | nil=>exact .nil
   | cons i is ih =>
    refine .cons ?_ (ih fun j hj=>hlt j (.tail _ hj))
    obtain⟨a,b,c,ea,_⟩:=hk.at (hlt i (.head _))
    show j6 (ys.getD i V.non) (its.getD i Value.none)
    rw[ea,X5 rl ea]
    rfl
  have I2:Inv X pins σ (upd H Dl (.lst (p'.toList.map fun i=>ys.getD i .non))) { s with heap:=h2,toks:=s.toks }:=I.laidL keep2 (nsOf F2) hDn hD0.2.1 (fun _ z=>nomatch z) ⟨?_,_,c2,rl',hD2.1⟩
  ·refine⟨.ref Dl,_,I2,rfl,q p'.toList pr ?_ Dl ?_⟩
   ·rw[Ke,Lv]
    intro i j hi hj hij
    have sz:=hp.size
    have:=hs i j hij (by rw[Array.length_toList]at hj;omega)
    have g:∀{k:Nat} (hk:k<p'.toList.length),gA p' k=p'.toList[k]:=fun{k} hk=>uR (by rw[← Array.getElem?_toList,IS hk])
    rw[g hi,g hj]at this
    exact this
   ·cases e:H Dl with
    | none=>rfl
    | some u=>obtain⟨x,hx⟩:=jN (I.hok Dl u e);rw[hDn]at hx;cases hx
  ·rw[ID,pr.length_eq,JR]
   exact IT (show ys.length≤1000 by omega) (by decide)
end
end L2
namespace DL
open PySem PySem.Spec L2 PyProof.Rows
structure vN(P:Program)(base:Heap):Prop where
 n:base.NoSeer
 t:P.given.tree=none
structure LDv(X:Cx):Prop where
 see:vN X.prog X.base
 rm:X.A.depth+Builtin.pylongFrames<recursionLimit
 st:X.stack=X.env :: X.outer
 g:X.env.scope.isGenerator=false
 c:X.env.scope.isCoroutine=false
def CNz(_ j:Int):Prop:=j≠0
theorem tZ{X:Cx}(hp:LDv X):OpR X (binaryOp .FloorDiv) (rI CNz fun i j=>.int (i.fdiv j)):=by
 intro pins s σ H x y v u Q I rx ry h
 obtain⟨i,j,rfl,rfl,hc,q⟩:=h
 obtain⟨t,rfl⟩:=rx
 obtain⟨t',rfl⟩:=ry
 exact floordiv_int hc ⟨.int _,H,I.tok _,⟨_,rfl⟩,q⟩ (.inr (PylongRoom.of I.nolimit hp.rm (SeerAt.of (hp.see.n.keeps I.bk) hp.see.t (I.ok.frames.trans (congrArg some hp.st)) hp.g hp.c I.ok.blt I.ok.glob)))
theorem bb{X:Cx}(hp:LDv X):DOp X (binaryOp .FloorDiv) (gI CNz fun i j=>.int (i.fdiv j)):=kf (tZ hp) fun _ _ _=>.int _
theorem ldv{P:Program}{w:World}{K:Iy}{mg:Str→Option Value}{base:Heap}{N ps:List Str}{x:Str}{sc:Scope}{f:Addr}{cdv:Value}{A:Around}{outer:List Env}{s:Shared}{H:Hp}{E:XK}{k:Nat}
  (S:vN P base) (hr:D7 k (A.deeper (envOfC x sc s.heap.objs.size f cdv))) (F:f8 N ps sc) (hk:32≤k:=by decide):LDv (kj CX0 P w K mg base N x sc f cdv A outer s H E).nox :=
 ⟨S,by
  have:=hr.dp
  show(A.deeper (envOfC x sc s.heap.objs.size f cdv)).depth+100<_
  omega,rfl,F.gen,F.co⟩
end DL
namespace GM
open PySem PySem.Spec L2 DL
open RM (sz)
noncomputable def R7(l:Rat × Rat × Rat)(y u:Rat):Bool:=decide (C4 (l.1*y+l.2.1*u)≤l.2.2)
noncomputable def B6(ls:List (Rat × Rat × Rat))(y u:Rat):Bool:=ls.all fun l=>R7 l y u
structure LSz(n:Nat)(l:Rat × Rat × Rat):Prop where
 p:sz l.1≤n
 q:sz l.2.1≤n
 r:sz l.2.2≤n
noncomputable def jb(p q y u:Rat):Int:=p.num*y.num*q.den*u.den+q.num*u.num*p.den*y.den
noncomputable def du(p q y u:Rat):Int:=p.den*y.den*q.den*u.den
abbrev T8(p q y u:Rat)(M:Mem)(R:DK)(Y:DXK):Prop:=(sz p+sz q+sz y+sz u≤8000)∧R (.tup [.int (jb p q y u),.int (du p q y u)]) M
def lC:DSp:=fun ds M R Y=>∃(p q y u:Rat),ds=[f7 p,f7 q,D9 y u]∧T8 p q y u M R Y
theorem iJ{p q y u:Rat}{M:Mem}{R:DK}{Y:DXK}:lC [f7 p,f7 q,D9 y u] M R Y=(T8 p q y u M R Y):=propext ⟨fun z=>by obtain⟨_,_,_,_,_,_⟩:=z;walk_at "inj",fun h=>⟨p,q,y,u,rfl,h⟩⟩
abbrev P1(l:Rat × Rat × Rat)(y u:Rat)(M:Mem)(R:DK)(Y:DXK):Prop:=(LSz 700 l∧sz y≤2200∧sz u≤2200)∧R (.bl (R7 l y u)) M
def fX:DSp:=fun ds M R Y=>∃(l:Rat × Rat × Rat) (y u:Rat),ds=[j4 l,D9 y u]∧P1 l y u M R Y
theorem dG{l:Rat × Rat × Rat}{y u:Rat}{M:Mem}{R:DK}{Y:DXK}:fX [j4 l,D9 y u] M R Y=(P1 l y u M R Y):=propext ⟨fun z=>by obtain⟨_,_,_,_,_⟩:=z;walk_at "inj",fun h=>⟨l,y,u,rfl,h⟩⟩
abbrev U7(ls:List (Rat × Rat × Rat))(y u:Rat)(M:Mem)(R:DK)(Y:DXK):Prop:=(ls.length≤12∧(∀ l∈ls,LSz 700 l)∧sz y≤2200∧sz u≤2200)∧R (.bl (B6 ls y u)) M
def nJ:DSp:=fun ds M R Y=>∃(x0:D) (ls:List (Rat × Rat × Rat)) (y u:Rat),ds=[x0,D9 y u]∧(x0 = .vl (ls.map j4)∨x0 = .tup (ls.map j4))∧U7 ls y u M R Y
theorem mF{ls:List (Rat × Rat × Rat)}{y u:Rat}{M:Mem}{R:DK}{Y:DXK}:nJ [.vl (ls.map j4),D9 y u] M R Y=(U7 ls y u M R Y):=propext ⟨fun z=>by obtain⟨_,_,_,_,_,_,_⟩:=z;walk_at "injs",fun h=>⟨_,ls,y,u,rfl,.inl rfl,h⟩⟩
theorem dF{ls:List (Rat × Rat × Rat)}{y u:Rat}{M:Mem}{R:DK}{Y:DXK}:nJ [.tup (ls.map j4),D9 y u] M R Y=(U7 ls y u M R Y):=propext ⟨fun z=>by obtain⟨_,_,_,_,_,_,_⟩:=z;walk_at "injs",fun h=>⟨_,ls,y,u,rfl,.inr rfl,h⟩⟩
abbrev ju(ls:List (Rat × Rat × Rat))(y u:Rat)(M:Mem)(R:DK)(Y:DXK):Prop:=(ls.length≤12∧(∀ l∈ls,LSz 700 l)∧sz y≤2200∧sz u≤2200)∧R (.bl (B6 ls y u)) M
theorem dm{a b c d:Int}(hb:0<b)(hd:0<d):Jv a b≤Jv c d↔a*d≤c*b:=by
 rw[Rat.le_iff_sub_nonneg,Rat.divInt_sub_divInt _ _ (by omega) (by omega),KG (Kz hd hb)]
 omega
theorem C5{a b:Int}{m n:Nat}(h1:a.natAbs<2 ^ m)(h2:b.natAbs<2 ^ n):(a*b).natAbs<2 ^ (m+n):=by
 rw[JF,Mp]
 exact Nat.mul_lt_mul_of_lt_of_le h1 (LR h2) (Nat.pow_pos (by decide))
theorem AZ(p q y u:Rat):(jb p q y u).natAbs<2 ^ (sz p+sz q+sz y+sz u+1):=by
 unfold jb
 have h1:=C5 (C5 (C5 (r9 p) (r9 y)) (j9 q)) (j9 u)
 have h2:=C5 (C5 (C5 (r9 q) (r9 u)) (j9 p)) (j9 y)
 rw[show sz p+sz y+sz q+sz u=sz p+sz q+sz y+sz u by omega]at h1
 rw[show sz q+sz u+sz p+sz y=sz p+sz q+sz y+sz u by omega]at h2
 have:=Lz (p.num*y.num*q.den*u.den) (q.num*u.num*p.den*y.den)
 rw[Lo]
 omega
theorem CO(p q y u:Rat):(du p q y u).natAbs<2 ^ (sz p+sz q+sz y+sz u):=by
 unfold du
 have h1:=C5 (C5 (C5 (j9 p) (j9 y)) (j9 q)) (j9 u)
 rw[show sz p+sz y+sz q+sz u=sz p+sz q+sz y+sz u by omega]at h1
 exact h1
theorem qf{l:Rat × Rat × Rat}{y u:Rat}:((jb l.1 l.2.1 y u).natAbs:Int)*(l.2.2.den:Int)≤l.2.2.num*du l.1 l.2.1 y u↔R7 l y u=true:=by
 have b0:0<du l.1 l.2.1 y u:=by
  unfold du
  exact Kz (Kz (Kz (by have:=l.1.den_pos;omega) (by have:=y.den_pos;omega)) (by have:=l.2.1.den_pos;omega)) (by have:=u.den_pos;omega)
 have e:l.1*y+l.2.1*u=Jv (jb l.1 l.2.1 y u) (du l.1 l.2.1 y u):=by
  conv=>lhs;rw[← Jx l.1,← Jx y,← Jx l.2.1,← Jx u]
  rw[LY,LY,LZ _ _ (JJ (RM.t5 _) (RM.t5 _)) (JJ (RM.t5 _) (RM.t5 _))]
  unfold jb du
  congr 1<;>grind
 unfold R7
 rw[e,decide_eq_true_iff]
 generalize du l.1 l.2.1 y u=b at *
 generalize jb l.1 l.2.1 y u=t at *
 have ea:C4 (Jv t b)=Jv (t.natAbs:Int) b:=by
  unfold C4
  have hh:=KG (a:=t) b0
  split
  ·rename_i h;have:=hh.mp h;rw[show(t.natAbs:Int)=t by omega]
  ·rename_i h;have:¬ 0≤t:=fun z=>h (hh.mpr z);rw[show(t.natAbs:Int) = -t by omega,← Rat.neg_divInt]
 rw[ea]
 conv=>rhs;rw[← Jx l.2.2]
 exact(dm b0 (by have:=l.2.2.den_pos;omega)).symm
theorem qc{ls:List (Rat × Rat × Rat)}{i:Nat}{d:D}(h:(ls.map j4)[i]? = some d):∃ l,ls[i]? = some l∧d=j4 l:=by
 rw[Jb]at h
 cases e:ls[i]? with
 | none=>rw[e]at h;cases h
 | some l=>rw[e]at h;exact⟨l,rfl,(Option.some.inj h).symm⟩
structure vM(w:Rat):Prop where
 n:w.num.natAbs≤4
 d:w.den≤4
 ne:w≠0
theorem small_one:vM 1:=⟨by decide,by decide,by decide⟩
theorem vM.sz{w:Rat}(h:vM w):RM.sz w≤3:=by
 rw[← Jx w]
 exact cF (by decide) (by have:=h.n;omega) (by have:=h.d;omega) (RM.t5 w)
noncomputable def rD(r:Rat × Rat):D:=D9 r.1 r.2
theorem Fs:CD 90 1 0 0 0:=⟨1,0,0,0,1,by decide,by decide,⟨by decide,by decide,by decide,by decide⟩,by grind,by grind,by grind,by grind⟩
theorem Ft:CD 90 0 0 1 0:=⟨0,0,1,0,1,by decide,by decide,⟨by decide,by decide,by decide,by decide⟩,by grind,by grind,by grind,by grind⟩
noncomputable def v6(bs:List (Str × Rat)):Nat→List (Rat × Rat × Rat)
 | 0=>[]
 | i+1=>v6 bs i++(match bs[i]? with|some x=>(if x.1 = "stop" then[((f6 (bs.take i) (1,0)).1,(f6 (bs.take i) (0,1)).1,x.2)]else[])|none=>[])
theorem qb{bs:List (Str × Rat)}{i:Nat}{x:Str × Rat}(h:bs[i]? = some x)(hx:x.1 = "stop"):v6 bs (i+1)=v6 bs i++[((f6 (bs.take i) (1,0)).1,(f6 (bs.take i) (0,1)).1,x.2)]:=by
 show v6 bs i++_=_
 rw[h];simp only[if_pos hx]
theorem ux{bs:List (Str × Rat)}{i:Nat}{x:Str × Rat}(h:bs[i]? = some x)(hx:¬ x.1 = "stop"):v6 bs (i+1)=v6 bs i:=by
 show v6 bs i++_=_
 rw[h];simp only[if_neg hx,Kc]
theorem W0(bs:List (Str × Rat)):∀ i,(v6 bs i).length≤i
 | 0=>IL 0
 | i+1=>by
  have:=W0 bs i
  show(v6 bs i++_).length≤i+1
  rw[IX]
  split
  ·split
   ·show _+1≤_;omega
   ·show _+0≤_;omega
  ·show _+0≤_;omega
theorem oj{bs:List (Str × Rat)}(hl:bs.length≤12)(hok:∀ x∈bs,w6 x):∀ i,∀ l∈v6 bs i,LSz 600 l
 | 0,l,h=>by cases h
 | i+1,l,h=>by
  rcases Jc.mp h with h|h
  ·exact oj hl hok i l h
  ·cases e:bs[i]? with
   | none=>rw[e]at h;cases h
   | some x =>
    replace h:l∈(if x.1 = "stop" then[((f6 (bs.take i) (1,0)).1,(f6 (bs.take i) (0,1)).1,x.2)]else[]):=by rw[e]at h;exact h
    by_cases hx:x.1 = "stop"
    ·rw[if_pos hx]at h
     rw[Ja.mp h]
     have c1:CD 90 1 0 0 0:=Fs
     have c2:CD 90 0 0 1 0:=Ft
     have t1:=(S7 c1 hok i).t2
     have t2:=(S7 c2 hok i).t2
     have a1:=t1.y
     have a2:=t2.y
     have a3:=(hok x (IU e)).sz
     exact⟨by show sz (f6 (bs.take i) (1,0)).1≤600;omega,by show sz (f6 (bs.take i) (0,1)).1≤600;omega,by show sz x.2≤600;omega⟩
    ·rw[if_neg hx]at h;cases h
abbrev F5(bs:List (Str × Rat))(M:Mem)(R:DK)(Y:DXK):Prop:=(bs.length≤12∧∀ x∈bs,w6 x)∧R (.vl ((v6 bs bs.length).map j4)) M
def U6:DSp:=fun ds M R Y=>∃(x0:D) (bs:List (Str × Rat)),ds=[x0]∧(x0 = .vl (bs.map p7)∨x0 = .tup (bs.map p7))∧F5 bs M R Y
theorem bx{bs:List (Str × Rat)}{M:Mem}{R:DK}{Y:DXK}:U6 [.vl (bs.map p7)] M R Y=(F5 bs M R Y):=propext ⟨fun z=>by obtain⟨_,_,_,_,_⟩:=z;walk_at "injs",fun h=>⟨_,bs,rfl,.inl rfl,h⟩⟩
theorem S4{bs:List (Str × Rat)}{M:Mem}{R:DK}{Y:DXK}:U6 [.tup (bs.map p7)] M R Y=(F5 bs M R Y):=propext ⟨fun z=>by obtain⟨_,_,_,_,_⟩:=z;walk_at "injs",fun h=>⟨_,bs,rfl,.inr rfl,h⟩⟩
theorem xj(q r:Rat):Jv (q.num*(r.den:Int) - r.num*(q.den:Int)) ((q.den:Int)*(r.den:Int))=q - r:=by
 rw[Lp,RM.ir q (-r),LD,LF,Int.neg_mul,← Int.sub_eq_add_neg]
noncomputable def T0(bs:List (Str × Rat))(x:Rat):List (Rat × Rat × Rat):=(v6 bs bs.length).map fun l=>(l.1,l.1*x+l.2.1,l.2.2)
theorem eD(bs:List (Str × Rat))(x:Rat):(T0 bs x).length≤bs.length:=by
 unfold T0;rw[ID];exact W0 bs bs.length
noncomputable def jT(l:Nat × Rat × Rat × Rat):D:=.tup [.int (l.1:Int),f7 l.2.1,f7 l.2.2.1,f7 l.2.2.2]
end GM
namespace DL
open PySem PySem.Spec L2
open PyProof.Rows hiding St
section
variable {X:Cx} {name:Str} {id:String} {o:Expr} {to:DTE} {apos cpos:Pos}
end
section
variable {e:Ev} {M:Mem} {R:DK} {to:DTE}
end
end DL
namespace GM
noncomputable abbrev T3:=Rat × Rat × Rat
noncomputable def ve(a b:T3):Rat:=a.1*b.2.1 - a.2.1*b.1
noncomputable def tn(a b c:T3):Rat:=a.2.2*ve b c - b.2.2*ve a c+c.2.2*ve a b
noncomputable def dt(a:T3)(z:Rat × Rat):Rat:=a.1*z.1+a.2.1*z.2
noncomputable def ry(a b:T3):Rat × Rat:=((a.2.2*b.2.1 - b.2.2*a.2.1) / ve a b,(a.1*b.2.2 - b.1*a.2.2) / ve a b)
noncomputable def ng(a:T3):T3:=(-a.1,-a.2.1,a.2.2)
noncomputable def ngZ(z:Rat × Rat):Rat × Rat:=(-z.1,-z.2)
def Sup(ss:List T3)(z:Rat × Rat):Prop:=∀ s∈ss,dt s z≤s.2.2
structure Dh(ss:List T3)(a b:T3):Prop where
 ve:0<ve a b
 mem:b∈ss
 hull:∀ s∈ss,0<GM.ve a s→0≤tn a b s
theorem eF{a b:T3}(h:ve a b≠0):ve a b*(ry a b).1=a.2.2*b.2.1 - b.2.2*a.2.1∧ve a b*(ry a b).2=a.1*b.2.2 - b.1*a.2.2:=by
 unfold ry
 constructor
 ·show ve a b*((a.2.2*b.2.1 - b.2.2*a.2.1) / ve a b)=_
  rw[Lr,Jo h]
 ·show ve a b*((a.1*b.2.2 - b.1*a.2.2) / ve a b)=_
  rw[Lr,Jo h]
theorem A6{x:Rat}(h:0<x):x≠0:=by grind
theorem E1{x:Rat}(h:0<x):0≤x:=by grind
theorem tot(x y:Rat):x≤y∨y≤x:=by grind
theorem D4{v x y:Rat}(hv:v≠0)(h:v*x=v*y):x=y:=by grind
theorem jy{a b:T3}(h:ve a b≠0)(s:T3):ve a b*(s.2.2 - dt s (ry a b))=tn a b s:=by
 obtain⟨e1,e2⟩:=eF h
 unfold dt tn
 have:ve a b*(s.2.2 - (s.1*(ry a b).1+s.2.1*(ry a b).2))=ve a b*s.2.2 - s.1*(ve a b*(ry a b).1) - s.2.1*(ve a b*(ry a b).2):=by grind
 rw[this,e1,e2]
 unfold ve
 grind
theorem jA{a b:T3}(h:ve a b≠0):dt a (ry a b)=a.2.2:=by
 have:=jy h a
 have e:tn a b a=0:=by unfold tn ve;grind
 rw[e]at this
 grind
theorem gh{a b:T3}(h:ve a b≠0):dt b (ry a b)=b.2.2:=by
 have:=jy h b
 have e:tn a b b=0:=by unfold tn ve;grind
 rw[e]at this
 grind
theorem ba{a b:T3}{z:Rat × Rat}(h:ve a b≠0)(h1:dt a z=a.2.2)(h2:dt b z=b.2.2):z=ry a b:=by
 obtain⟨e1,e2⟩:=eF h
 have z1:ve a b*z.1=ve a b*(ry a b).1:=by
  rw[e1,← h1,← h2];unfold ve dt;grind
 have z2:ve a b*z.2=ve a b*(ry a b).2:=by
  rw[e2,← h1,← h2];unfold ve dt;grind
 exact Prod.ext (D4 h z1) (D4 h z2)
theorem jz(a b:T3):ry (ng a) (ng b)=ngZ (ry a b):=by
 have e:ve (ng a) (ng b)=ve a b:=by unfold ve ng;grind
 unfold ry ngZ
 rw[e]
 show((a.2.2*(-b.2.1) - b.2.2*(-a.2.1)) / ve a b,((-a.1)*b.2.2 - (-b.1)*a.2.2) / ve a b)=_
 exact Prod.ext (by show _ / _ = -(_ / _);grind) (by show _ / _ = -(_ / _);grind)
theorem zV(a b s:T3)(z:Rat × Rat):tn a b s=(a.2.2 - dt a z)*ve b s - (b.2.2 - dt b z)*ve a s+(s.2.2 - dt s z)*ve a b:=by
 unfold tn ve dt;grind
theorem u0{v x:Rat}(hv:0<v)(h:0≤v*x):0≤x:=by
 rcases tot 0 x with z|z
 ·exact z
 ·by_cases e:x=0
  ·grind
  ·have:0<v * -x:=JU hv (by grind)
   grind
theorem Bg{a b:T3}{ss:List T3}(h:0<ve a b)(ht:∀ s∈ss,0≤tn a b s):Sup ss (ry a b):=fun s hs=>by
 have:=jy (A6 h) s
 have h2:=ht s hs
 rw[← this]at h2
 have:=u0 h h2
 grind
theorem je{ss:List T3}{a b:T3}{z:Rat × Rat}(hz:Sup ss z)(ha:dt a z=a.2.2)(e:Dh ss a b):Sup ss (ry a b):=by
 refine Bg e.ve fun s hs=>?_
 by_cases h:0<ve a s
 ·exact e.hull s hs h
 ·rw[zV a b s z,ha]
  have h1:0≤(b.2.2 - dt b z)*(-ve a s):=IH (by have:=hz b e.mem;grind) (by grind)
  have h2:0≤(s.2.2 - dt s z)*ve a b:=IH (by have:=hz s hs;grind) (by have:=e.ve;grind)
  grind
theorem bR{ss:List T3}(sy:∀ s∈ss,ng s∈ss){z:Rat × Rat}(h:Sup ss z):Sup ss (ngZ z):=fun s hs=>by
 have:=h _ (sy s hs)
 have e:dt (ng s) z=dt s (ngZ z):=by unfold dt ng ngZ;grind
 rw[← e];exact this
theorem G9{a b w:T3}(h:0<ve a b)(z:Rat × Rat):ve a b*dt w z=ve w b*dt a z+ve a w*dt b z:=by
 unfold ve dt;grind
theorem kJ{w:T3}:∀(x:T3) (l:List T3) (y:T3),0≤ve x w→0<ve w y→∃ ab∈(x :: l).zip (l++[y]),0≤ve ab.1 w∧0<ve w ab.2
 | x,[],y,h1,h2=>⟨(x,y),IG,h1,h2⟩
 | x,x' :: l,y,h1,h2=>by
  by_cases h:0<ve w x'
  ·exact⟨(x,x'),IG,h1,h⟩
  ·have e:ve x' w = -ve w x':=by unfold ve;grind
   obtain⟨ab,hm,q⟩:=kJ x' l y (by rw[e];grind) h2
   exact⟨ab,IC _ hm,q⟩
structure Rim(ss:List T3)(h0:T3)(l:List T3):Prop where
 ne:l≠[]
 sy:∀ s∈ss,ng s∈ss
 pos:∀ s∈ss,0<s.2.2
 all:∀ ab∈(h0 :: l).zip (l++[ng h0]),ab.1∈ss∧ab.2∈ss∧0<ve ab.1 ab.2∧Sup ss (ry ab.1 ab.2)
noncomputable def gP(h0:T3)(l:List T3):List (T3 × T3):=(h0 :: l).zip (l++[ng h0])
noncomputable def aH(h0:T3)(l:List T3):List (Rat × Rat):=(gP h0 l).map (fun ab=>ry ab.1 ab.2)++(gP h0 l).map (fun ab=>ngZ (ry ab.1 ab.2))
theorem F0{α β:Type}(f:α→β):∀(l m:List α),(l.map f).zip (m.map f)=(l.zip m).map fun p=>(f p.1,f p.2)
 | [],_=>rfl
 | _ :: _,[]=>rfl
 | a :: l,b :: m=>by rw[Jj,Jj,KJ,F0 f l m];rfl
theorem um(a:T3):ng (ng a)=a:=by
 obtain⟨p,q,r⟩:=a
 unfold ng
 show(- -p,- -q,r)=(p,q,r)
 rw[Mr,Mr]
theorem Rim.around{ss:List T3}{h0:T3}{l:List T3}(R:Rim ss h0 l)(w:T3)(hw:¬ (w.1=0∧w.2.1=0)) :
  ∃ a b,a∈ss∧b∈ss∧0<ve a b∧Sup ss (ry a b)∧ry a b∈aH h0 l∧0≤ve a w∧0<ve w b:=by
 have fromE:∀ ab∈gP h0 l,0≤ve ab.1 w→0<ve w ab.2→∃ a b,a∈ss∧b∈ss∧0<ve a b∧Sup ss (ry a b)∧ry a b∈aH h0 l∧0≤ve a w∧0<ve w b:=fun ab hm h1 h2=>by
  obtain⟨q1,q2,q3,q4⟩:=R.all ab hm
  exact⟨ab.1,ab.2,q1,q2,q3,q4,JM _ (IJ.mpr ⟨ab,hm,rfl⟩),h1,h2⟩
 have fromN:∀ ab∈gP h0 l,0≤ve (ng ab.1) w→0<ve w (ng ab.2)→∃ a b,a∈ss∧b∈ss∧0<ve a b∧Sup ss (ry a b)∧ry a b∈aH h0 l∧0≤ve a w∧0<ve w b:=fun ab hm h1 h2=>by
  obtain⟨q1,q2,q3,q4⟩:=R.all ab hm
  refine⟨ng ab.1,ng ab.2,R.sy _ q1,R.sy _ q2,?_,?_,?_,h1,h2⟩
  ·have:ve (ng ab.1) (ng ab.2)=ve ab.1 ab.2:=by unfold ve ng;grind
   rw[this];exact q3
  ·rw[jz];exact bR R.sy q4
  ·rw[jz];exact IW _ (IJ.mpr ⟨ab,hm,rfl⟩)
 have e0:ve w (ng h0)=ve h0 w:=by unfold ve ng;grind
 have e1:ve (ng h0) w = -ve h0 w:=by unfold ve ng;grind
 by_cases c1:0<ve h0 w
 ·obtain⟨ab,hm,k1,k2⟩:=kJ h0 l (ng h0) (E1 c1) (by rw[e0];exact c1)
  exact fromE ab hm k1 k2
 by_cases c2:ve h0 w<0
 ·have e2:ve w h0 = -ve h0 w:=by unfold ve;grind
  obtain⟨ab,hm,k1,k2⟩:=kJ (w:=w) (ng h0) (l.map ng) h0 (by rw[e1];clear fromE fromN;grind) (by rw[e2];clear fromE fromN;grind)
  have em:ab∈((h0 :: l).map ng).zip ((l++[ng h0]).map ng):=by
   rw[Jn,Jj,Jj,Ki,um];exact hm
  rw[F0]at em
  obtain⟨cd,hcd,rfl⟩:=IJ.mp em
  exact fromN cd hcd k1 k2
 ·have c0:ve h0 w=0:=by clear fromE fromN;grind
  cases l with
  | nil=>exact absurd rfl R.ne
  | cons x l =>
   have hm:(h0,x)∈gP h0 (x :: l):=IG
   obtain⟨q1,q2,q3,q4⟩:=R.all _ hm
   have q3:0<ve h0 x:=q3
   by_cases k:0<ve w x
   ·exact fromE _ hm (by show 0≤ve h0 w;rw[c0];exact JV) k
   ·refine fromN _ hm (by show 0≤ve (ng h0) w;rw[e1,c0];exact JV) ?_
    show 0<ve w (ng x)
    have ex:ve w (ng x) = -ve w x:=by unfold ve ng;grind
    rw[ex]
    clear fromE fromN
    have hne:ve w x≠0:=fun z=>hw (by
     unfold ve at c0 z q3
     have i1:w.1*(h0.1*x.2.1 - h0.2.1*x.1)=0:=by
      have:w.1*(h0.1*x.2.1 - h0.2.1*x.1)=h0.1*(w.1*x.2.1 - w.2.1*x.1)+x.1*(h0.1*w.2.1 - h0.2.1*w.1):=by grind
      rw[this,z,c0];grind
     have i2:w.2.1*(h0.1*x.2.1 - h0.2.1*x.1)=0:=by
      have:w.2.1*(h0.1*x.2.1 - h0.2.1*x.1)=h0.2.1*(w.1*x.2.1 - w.2.1*x.1)+x.2.1*(h0.1*w.2.1 - h0.2.1*w.1):=by grind
      rw[this,z,c0];grind
     have hv:h0.1*x.2.1 - h0.2.1*x.1≠0:=by grind
     exact⟨by grind,by grind⟩)
    grind
theorem Rim.most{ss:List T3}{h0:T3}{l:List T3}(R:Rim ss h0 l)(w:T3)(hw:¬ (w.1=0∧w.2.1=0)):∃ c∈aH h0 l,Sup ss c∧∀ z,Sup ss z→dt w z≤dt w c:=by
 obtain⟨a,b,ha,hb,hv,hs,hc,k1,k2⟩:=R.around w hw
 refine⟨_,hc,hs,fun z hz=>?_⟩
 have e1:=G9 (w:=w) hv z
 have e2:=G9 (w:=w) hv (ry a b)
 rw[jA (A6 hv),gh (A6 hv)]at e2
 have h1:0≤ve w b*(a.2.2 - dt a z):=IH (E1 k2) (by have:=hz a ha;grind)
 have h2:0≤ve a w*(b.2.2 - dt b z):=IH k1 (by have:=hz b hb;grind)
 have h3:0≤ve a b*(dt w (ry a b) - dt w z):=by grind
 have:=u0 hv h3
 grind
theorem Rim.corner{ss:List T3}{h0:T3}{l:List T3}(R:Rim ss h0 l){s t:T3}{z:Rat × Rat}(hz:Sup ss z)(hs:s∈ss)(ht:t∈ss)(hv:0<ve s t)(es:dt s z=s.2.2)(et:dt t z=t.2.2):z∈aH h0 l:=by
 have hw:¬ (s.1=0∧s.2.1=0):=fun⟨q1,q2⟩=>by
  unfold ve at hv
  rw[q1,q2]at hv
  grind
 obtain⟨a,b,ha,hb,hab,hsup,hc,k1,k2⟩:=R.around s hw
 have e1:=G9 (w:=s) hab z
 have e2:=G9 (w:=s) hab (ry a b)
 rw[jA (A6 hab),gh (A6 hab)]at e2
 have za:=hz a ha
 have zb:=hz b hb
 have zs:=hsup s hs
 have h1:0≤ve s b*(a.2.2 - dt a z):=IH (E1 k2) (by grind)
 have h2:0≤ve a s*(b.2.2 - dt b z):=IH k1 (by grind)
 have h3:0≤ve a b*(s.2.2 - dt s (ry a b)):=IH (by grind) (by grind)
 rw[es]at e1
 have s1:ve s b*(a.2.2 - dt a z)=0:=by grind
 have s2:ve a s*(b.2.2 - dt b z)=0:=by grind
 have ta:dt a z=a.2.2:=by grind
 have fin:dt b z=b.2.2→z∈aH h0 l:=fun tb=>by rw[ba (A6 hab) ta tb];exact hc
 by_cases c:ve a s=0
 ·
  have hat:0<ve a t:=by
   have i:ve a b*ve s t=ve s b*ve a t - ve t b*ve a s:=by unfold ve;grind
   rw[c]at i
   have p1:0<ve a b*ve s t:=JU hab hv
   have p2:0<ve s b*ve a t:=by grind
   rcases tot 0 (ve a t)with z|z
   ·by_cases e:ve a t=0
    ·rw[e]at p2;grind
    ·grind
   ·have:0≤ve s b*(-ve a t):=IH (by grind) (by grind)
    grind
  have h5:0≤tn a b t:=by
   rw[← jy (A6 hab) t]
   exact IH (by grind) (by have:=hsup t ht;grind)
  rw[zV a b t z,ta,et]at h5
  have h6:0≤ve a t * -(b.2.2 - dt b z):=by grind
  have:=u0 hat h6
  exact fin (by grind)
 ·exact fin (by grind)
theorem Ax{ss:List T3}{h0 hm f:T3}{z0 z:Rat × Rat}(sy:∀ s∈ss,ng s∈ss)(m0:h0∈ss)(mm:hm∈ss)(s0:Sup ss z0)(t0:dt h0 z0=h0.2.2)(sz:Sup ss z)(tz:dt hm z=hm.2.2)(e:Dh ss hm f)(h1:0<ve h0 hm)(h2:ve h0 f≤0) :
  Sup ss (ry hm (ng h0)):=by
 have sf:=je sz tz e
 have v1:0<ve hm (ng h0):=by
  have:ve hm (ng h0)=ve h0 hm:=by unfold ve ng;grind
  rw[this];exact h1
 have v2:0≤ve (ng h0) f:=by
  have:ve (ng h0) f = -ve h0 f:=by unfold ve ng;grind
  rw[this];grind
 have tf:=jA (a:=hm) (b:=f) (A6 e.ve)
 have tg:=gh (a:=hm) (b:=f) (A6 e.ve)
 have e1:=G9 (w:=ng h0) e.ve (ngZ z0)
 have e2:=G9 (w:=ng h0) e.ve (ry hm f)
 rw[tf,tg]at e2
 have sn:=bR sy s0
 have q1:=sn hm mm
 have q2:=sn f e.mem
 have g0:dt (ng h0) (ngZ z0)=(ng h0).2.2:=by
  have:dt (ng h0) (ngZ z0)=dt h0 z0:=by unfold dt ng ngZ;grind
  rw[this,t0];rfl
 rw[g0]at e1
 have q3:=sf (ng h0) (sy h0 m0)
 have p1:0≤ve (ng h0) f*(hm.2.2 - dt hm (ngZ z0)):=IH v2 (by grind)
 have p2:0≤ve hm (ng h0)*(f.2.2 - dt f (ngZ z0)):=IH (by grind) (by grind)
 have p3:0≤ve hm f*(dt (ng h0) (ry hm f) - (ng h0).2.2):=by grind
 have p4:=u0 e.ve p3
 have t3:dt (ng h0) (ry hm f)=(ng h0).2.2:=by grind
 rw[← ba (a:=hm) (b:=ng h0) (A6 v1) tf t3]
 exact sf
end GM
namespace GM
open PySem PySem.Spec L2 DL
open RM (sz)
noncomputable abbrev Sd:=Int × Int × Int × Int × Int
noncomputable def sdD(s:Sd):D:=.tup [.int s.1,.int s.2.1,.int s.2.2.1,.int s.2.2.2.1,.int s.2.2.2.2]
noncomputable def tri(s:Sd):T3:=((s.1:Rat),(s.2.1:Rat),(s.2.2.1:Rat))
noncomputable def veZ(a b:Sd):Int:=a.1*b.2.1 - a.2.1*b.1
noncomputable def tnZ(a b c:Sd):Int:=a.2.2.1*veZ b c - b.2.2.1*veZ a c+c.2.2.1*veZ a b
noncomputable def j5(s:Sd):Sd:=(-s.1,-s.2.1,s.2.2.1,s.2.2.2.1,-s.2.2.2.2)
noncomputable def C1(a b:Sd):Bool:=if a.1*b.2.2.1 - b.1*a.2.2.1=0 then decide (0<a.2.1*b.2.2.1 - b.2.1*a.2.2.1)else decide (0<a.1*b.2.2.1 - b.1*a.2.2.1)
noncomputable def u9(ss:List Sd)(f:Sd):Sd:=ss.foldl (fun f s=>if C1 s f=true then s else f) f
noncomputable def yL(h:Sd)(f:Option Sd)(s:Sd):Bool:=match f with
 | none=>true
 | some g=>decide (tnZ h g s<0) || (decide (tnZ h g s=0) && decide (0<veZ g s))
noncomputable def K8(h:Sd)(f:Option Sd)(s:Sd):Option Sd:=if 0<veZ h s then(if yL h f s=true then some s else f)else f
noncomputable def A0(h:Sd)(ss:List Sd):Option Sd:=ss.foldl (K8 h) none
noncomputable def C7(h0:Sd)(ss:List Sd):Nat→Option Sd→List Sd
 | 0,_=>[]
 | _+1,none=>[]
 | k+1,some h=>if 0<veZ h0 h then h :: C7 h0 ss k (A0 h ss)else[]
noncomputable def L5:List Sd→List Sd
 | []=>[]
 | s :: r=>u9 (s :: r) s :: C7 (u9 (s :: r) s) (s :: r) (s :: r).length (A0 (u9 (s :: r) s) (s :: r))
theorem u6(a b:Sd):ve (tri a) (tri b)=(veZ a b:Rat):=by
 unfold ve tri veZ
 rw[KP,IV,IV]
theorem fj(a b c:Sd):tn (tri a) (tri b) (tri c)=(tnZ a b c:Rat):=by
 unfold tn tnZ
 rw[u6,u6,u6,LW,KP,IV,IV,IV]
 rfl
theorem v7{n:Int}:(0:Rat)<(n:Rat)↔0<n:=by
 have:=Rat.intCast_lt_intCast (a:=0) (b:=n)
 rw[← this];rfl
theorem AB{n:Int}:(0:Rat)≤(n:Rat)↔0≤n:=by
 have:=LN (a:=0) (b:=n)
 rw[← this];rfl
theorem B2(s:Sd):tri (j5 s)=ng (tri s):=by
 unfold tri j5 ng
 rw[LV,LV]
theorem R5{a b:Int}(ha:0<a)(h:0≤a*b):0≤b:=by
 rcases Ma b 0 with z|z
 ·have:=Int.mul_lt_mul_of_pos_left z ha
  omega
 ·exact z
theorem jR{a b:Int}(ha:0<a)(h:0<a*b):0<b:=by
 rcases Ma 0 b with z|z
 ·exact z
 ·have:=Int.mul_le_mul_of_nonneg_left z (MJ ha)
  omega
theorem plu(h g s t:Sd):veZ h g*tnZ h s t=veZ h s*tnZ h g t - veZ h t*tnZ h g s:=by unfold tnZ veZ;grind
theorem FZ(h g s t:Sd):veZ h g*tnZ g s t=tnZ h g s*veZ t g - tnZ h g t*veZ s g:=by unfold tnZ veZ;grind
theorem FY(o h g s:Sd):veZ o g*veZ h s=veZ o h*veZ g s+veZ o s*veZ h g:=by unfold veZ;grind
structure vO(h:Sd)(pre:List Sd)(f:Option Sd):Prop where
 no:f=none→∀ s∈pre,¬ 0<veZ h s
 yes:∀ g,f=some g→g∈pre∧0<veZ h g∧∀ s∈pre,0<veZ h s→0≤tnZ h g s∧(tnZ h g s=0→veZ g s≤0)
theorem uj{h:Sd}{pre:List Sd}{f:Option Sd}{s:Sd}(hp:∀ s∈pre,0<s.2.2.1)(hs:0<s.2.2.1)(I:vO h pre f):vO h (pre++[s]) (K8 h f s):=by
 unfold K8
 by_cases c:0<veZ h s
 ·rw[if_pos c]
  by_cases b:yL h f s=true
  ·rw[if_pos b]
   refine⟨fun z=>(by cases z),fun g e=>?_⟩
   cases e
   refine⟨by simp,c,fun t ht hv=>?_⟩
   have self:tnZ h s s=0∧veZ s s=0:=by unfold tnZ veZ;grind
   rcases Jc.mp ht with ht|ht
   ·cases f with
    | none=>exact absurd hv (I.no rfl t ht)
    | some g =>
     obtain⟨g1,g2,g3⟩:=I.yes g rfl
     obtain⟨k1,k2⟩:=g3 t ht hv
     have b':tnZ h g s<0∨(tnZ h g s=0∧0<veZ g s):=by
      have b:(decide (tnZ h g s<0) || (decide (tnZ h g s=0) && decide (0<veZ g s)))=true:=b
      simpa using b
     have pl:=plu h g s t
     have n1:0≤veZ h s*tnZ h g t:=Kr (by omega) k1
     have n2:0≤veZ h t * -tnZ h g s:=Kr (by omega) (by omega)
     rw[Ms]at n2
     refine⟨R5 g2 (by omega),fun z=>?_⟩
     rw[z,ML]at pl
     have m1:veZ h s*tnZ h g t=0:=by omega
     have m2:veZ h t*tnZ h g s=0:=by omega
     have e1:tnZ h g t=0:=(KQ.mp m1).resolve_left (by omega)
     have e2:tnZ h g s=0:=(KQ.mp m2).resolve_left (by omega)
     have gs:0<veZ g s:=by omega
     have gt:=k2 e1
     have p2:=FZ h g s t
     rw[e1,e2,Mb,Mb]at p2
     have e3:tnZ g s t=0:=(KQ.mp (by omega:veZ h g*tnZ g s t=0)).resolve_left (by omega)
     have e4:g.2.2.1*veZ s t - s.2.2.1*veZ g t+t.2.2.1*veZ g s=0:=e3
     have rg:=hp g g1
     have rt:=hp t ht
     have q1:0≤s.2.2.1 * -veZ g t:=Kr (by omega) (by omega)
     have q2:0≤t.2.2.1*veZ g s:=Kr (by omega) (by omega)
     rw[Ms]at q1
     have q3:0≤g.2.2.1 * -veZ s t:=by rw[Ms];omega
     have:=R5 rg q3
     omega
   ·rw[Ja.mp ht,self.1,self.2]
    exact⟨Int.le_refl _,fun _=>Int.le_refl _⟩
  ·rw[if_neg b]
   cases f with
   | none=>exact absurd rfl b
   | some g =>
    obtain⟨g1,g2,g3⟩:=I.yes g rfl
    refine⟨fun z=>(by cases z),fun g' e=>?_⟩
    cases e
    refine⟨JM _ g1,g2,fun t ht hv=>?_⟩
    rcases Jc.mp ht with ht|ht
    ·exact g3 t ht hv
    ·rw[Ja.mp ht]
     have b':¬ (tnZ h g s<0∨(tnZ h g s=0∧0<veZ g s)):=by
      intro z
      apply b
      show(decide (tnZ h g s<0) || (decide (tnZ h g s=0) && decide (0<veZ g s)))=true
      simpa using z
     exact⟨by omega,fun z=>by omega⟩
 ·rw[if_neg c]
  refine⟨fun z t ht=>?_,fun g e=>?_⟩
  ·rcases Jc.mp ht with ht|ht
   ·exact I.no z t ht
   ·rw[Ja.mp ht];exact c
  ·obtain⟨g1,g2,g3⟩:=I.yes g e
   refine⟨JM _ g1,g2,fun t ht hv=>?_⟩
   rcases Jc.mp ht with ht|ht
   ·exact g3 t ht hv
   ·rw[Ja.mp ht]at hv;exact absurd hv c
theorem jP{h:Sd}:∀(l pre:List Sd) (f:Option Sd),(∀ s∈pre,0<s.2.2.1)→(∀ s∈l,0<s.2.2.1)→vO h pre f→vO h (pre++l) (l.foldl (K8 h) f)
 | [],pre,f,_,_,I=>by rw[Kc];exact I
 | s :: l,pre,f,h1,h2,I=>by
  have h3:=h2 s IG
  have:=jP l (pre++[s]) (K8 h f s) (fun t ht=>by
   rcases Jc.mp ht with ht|ht
   ·exact h1 t ht
   ·rw[Ja.mp ht];exact h3) (fun t ht=>h2 t (IC _ ht)) (uj h1 h3 I)
  rwa [LA]at this
theorem V8{h:Sd}{ss:List Sd}(hp:∀ s∈ss,0<s.2.2.1):vO h ss (A0 h ss):=by
 have:=jP (h:=h) ss [] none (fun _ z=>nomatch z) hp ⟨fun _ _ z=>(nomatch z),fun _ z=>(nomatch z)⟩
 rwa [Na]at this
theorem E9{h f:Sd}{ss:List Sd}(hp:∀ s∈ss,0<s.2.2.1)(e:A0 h ss=some f):f∈ss∧0<veZ h f∧Dh (ss.map tri) (tri h) (tri f):=by
 obtain⟨h1,h2,h3⟩:=(V8 hp).yes f e
 refine⟨h1,h2,by rw[u6];exact v7.mpr h2,IJ.mpr ⟨f,h1,rfl⟩,fun s hs hv=>?_⟩
 obtain⟨t,ht,rfl⟩:=IJ.mp hs
 rw[u6]at hv
 rw[fj]
 exact AB.mpr (h3 t ht (v7.mp hv)).1
theorem V7:∀(ss:List Sd) (f:Sd),u9 ss f=f∨u9 ss f∈ss
 | [],f=>.inl rfl
 | s :: r,f=>by
  show u9 r (if C1 s f=true then s else f)=f∨_
  rcases V7 r (if C1 s f=true then s else f)with h|h
  ·rw[h]
   split
   ·rename_i c;right;show u9 r (if C1 s f=true then s else f)∈_;rw[h,if_pos c];exact IG
   ·exact .inl rfl
  ·exact .inr (IC _ h)
theorem yt{s f:Sd}(h:C1 s f=true):f.1*s.2.2.1≤s.1*f.2.2.1:=by
 unfold C1 at h
 split at h
 ·omega
 ·have:=of_decide_eq_true h;omega
theorem yu{s f:Sd}(h:¬ C1 s f=true):s.1*f.2.2.1≤f.1*s.2.2.1:=by
 unfold C1 at h
 split at h
 ·omega
 ·have:¬ 0<s.1*f.2.2.1 - f.1*s.2.2.1:=fun z=>h (decide_eq_true z)
  omega
theorem ED{a b c x y z:Int}(hy:0<y)(hx:0<x)(hz:0<z)(h1:a*y≤b*x)(h2:b*z≤c*y):a*z≤c*x:=by
 have e1:=La h1 (MJ hz)
 have e2:=La h2 (MJ hx)
 have e3:0≤y*(c*x - a*z):=by
  have:y*(c*x - a*z)=c*y*x - a*y*z:=by grind
  have e4:b*x*z=b*z*x:=by grind
  omega
 have:=R5 hy e3
 omega
theorem nW:∀(ss:List Sd) (f:Sd) (t:Sd),(∀ s∈ss,0<s.2.2.1)→0<f.2.2.1→0<t.2.2.1→(t∈ss∨t.1*f.2.2.1≤f.1*t.2.2.1)→t.1*(u9 ss f).2.2.1≤(u9 ss f).1*t.2.2.1
 | [],f,t,_,_,_,h=>by
  rcases h with h|h
  ·cases h
  ·exact h
 | s :: r,f,t,hp,hf,ht,h=>by
  have hs:=hp s IG
  show t.1*(u9 r (if C1 s f=true then s else f)).2.2.1≤(u9 r (if C1 s f=true then s else f)).1*t.2.2.1
  refine nW r _ t (fun s hs=>hp s (IC _ hs)) (by split<;>assumption) ht ?_
  rcases h with h|h
  ·rcases IE.mp h with rfl|h
   ·right
    split
    ·omega
    ·rename_i c;exact yu c
   ·exact .inl h
  ·right
   split
   ·rename_i c
    exact ED hf ht hs h (yt c)
   ·exact h
theorem kr{α:Type}{p q:α→Bool}{x:α}:∀{l:List α},(∀ y∈l,q y=true→p y=true)→x∈l→p x=true→q x=false→(l.filter q).length<(l.filter p).length
 | [],_,h,_,_=>nomatch h
 | y :: l,h1,h2,h3,h4=>by
  have le:∀(l:List α),(∀ y∈l,q y=true→p y=true)→(l.filter q).length≤(l.filter p).length:=fun l=>by
   induction l with
   | nil=>intro _;exact IL _
   | cons a l ih =>
    intro h
    have:=ih fun y hy=>h y (IC _ hy)
    by_cases qa:q a=true
    ·rw[Jp qa,Jp (h a IG qa),IA,IA];omega
    ·rw[Jz qa]
     by_cases pa:p a=true
     ·rw[Jp pa,IA];omega
     ·rw[Jz pa];exact this
  have hl:=le l fun y hy=>h1 y (IC _ hy)
  rcases IE.mp h2 with rfl|h2
  ·rw[Jp h3,Jz (by rw[h4];decide),IA];omega
  ·have ih:=kr (fun y hy=>h1 y (IC _ hy)) h2 h3 h4
   by_cases qa:q y=true
   ·rw[Jp qa,Jp (h1 y IG qa),IA,IA];omega
   ·rw[Jz qa]
    by_cases pa:p y=true
    ·rw[Jp pa,IA];omega
    ·rw[Jz pa];exact ih
noncomputable def qp(h0:Sd)(ss:List Sd)(h:Sd):Nat:=(ss.filter fun s=>decide (0<veZ h s) && decide (0<veZ h0 s)).length
theorem vx(h0:Sd)(ss:List Sd)(h:Sd):qp h0 ss h≤ss.length:=List.length_filter_le _ _
theorem X0{h0 h f:Sd}{ss:List Sd}(hp:∀ s∈ss,0<s.2.2.1)(e:A0 h ss=some f)(h1:h=h0∨0<veZ h0 h)(h2:0<veZ h0 f):qp h0 ss f<qp h0 ss h:=by
 obtain⟨m,v,_⟩:=E9 hp e
 unfold qp
 refine kr (x:=f) (fun s _ hq=>?_) m (by rw[decide_eq_true v,decide_eq_true h2];rfl) ?_
 ·rw[Kt,decide_eq_true_eq,decide_eq_true_eq]at hq ⊢
  refine⟨?_,hq.2⟩
  rcases h1 with rfl|h1
  ·exact hq.2
  ·have i:=FY h0 h f s
   have a1:=Kz h1 hq.1
   have a2:=Kz hq.2 v
   exact jR h2 (by omega)
 ·have:veZ f f=0:=by unfold veZ;grind
  rw[this];rfl
theorem xC{h0:Sd}{ss:List Sd}(hp:∀ s∈ss,0<s.2.2.1)(sy:∀ s∈ss,j5 s∈ss)(m0:h0∈ss){z0:Rat × Rat}(s0:Sup (ss.map tri) z0)(t0:dt (tri h0) z0=(tri h0).2.2):∀(k:Nat) (a:Sd) (z:Rat × Rat),a∈ss→Sup (ss.map tri) z→dt (tri a) z=(tri a).2.2 →
  (a=h0∨0<veZ h0 a)→(a=h0→∃ f,A0 h0 ss=some f)→(∀ f,A0 a ss=some f→0<veZ h0 f→qp h0 ss f<k) →
  ∀ ab∈(a :: C7 h0 ss k (A0 a ss)).zip (C7 h0 ss k (A0 a ss)++[j5 h0]),ab.1∈ss∧ab.2∈ss∧0<veZ ab.1 ab.2∧Sup (ss.map tri) (ry (tri ab.1) (tri ab.2)):=by
 have syT:∀ s∈ss.map tri,ng s∈ss.map tri:=fun s hs=>by
  obtain⟨t,ht,rfl⟩:=IJ.mp hs
  rw[← B2];exact IJ.mpr ⟨_,sy t ht,rfl⟩
 intro k
 induction k with
 | zero =>
  intro a z ha hz ta h1 h2 h3 ab hab
  cases e:A0 a ss with
  | none =>
   exfalso
   rcases h1 with rfl|h1
   ·obtain⟨f,hf⟩:=h2 rfl;rw[e]at hf;cases hf
   ·have:=(V8 (h:=a) hp).no e (j5 h0) (sy h0 m0)
    exact this (by rw[show veZ a (j5 h0)=veZ h0 a by unfold veZ j5;grind];exact h1)
  | some f =>
   obtain⟨mf,vf,ef⟩:=E9 hp e
   by_cases c:0<veZ h0 f
   ·exact absurd (h3 f e c) (Mc _)
   ·rw[e]at hab
    have hab:ab∈[(a,j5 h0)]:=hab
    rw[Ja.mp hab]
    have hv:0<veZ h0 a:=by
     rcases h1 with rfl|h1
     ·exact absurd vf c
     ·exact h1
    have ev:veZ a (j5 h0)=veZ h0 a:=by unfold veZ j5;grind
    refine⟨ha,sy h0 m0,by show 0<veZ a (j5 h0);rw[ev];exact hv,?_⟩
    show Sup _ (ry (tri a) (tri (j5 h0)))
    rw[B2]
    exact Ax syT (IJ.mpr ⟨h0,m0,rfl⟩) (IJ.mpr ⟨a,ha,rfl⟩) s0 t0 hz ta ef (by rw[u6];exact v7.mpr hv) (by rw[u6];have:=v7 (n:=veZ h0 f);grind)
 | succ k ih =>
  intro a z ha hz ta h1 h2 h3 ab hab
  cases e:A0 a ss with
  | none =>
   exfalso
   rcases h1 with rfl|h1
   ·obtain⟨f,hf⟩:=h2 rfl;rw[e]at hf;cases hf
   ·have:=(V8 (h:=a) hp).no e (j5 h0) (sy h0 m0)
    exact this (by rw[show veZ a (j5 h0)=veZ h0 a by unfold veZ j5;grind];exact h1)
  | some f =>
   obtain⟨mf,vf,ef⟩:=E9 hp e
   rw[e]at hab
   by_cases c:0<veZ h0 f
   ·have er:C7 h0 ss (k+1) (some f)=f :: C7 h0 ss k (A0 f ss):=if_pos c
    rw[er]at hab
    have sf:=je hz ta ef
    rcases IE.mp hab with rfl|hab
    ·exact⟨ha,mf,vf,sf⟩
    ·refine ih f (ry (tri a) (tri f)) mf sf (gh (A6 ef.ve)) (.inr c) (fun z=>?_) (fun g hg hc=>?_) ab hab
     ·subst z
      have:veZ f f=0:=by unfold veZ;grind
      omega
     ·have:=X0 hp hg (.inr c) hc
      have:=h3 f e c
      omega
   ·have er:C7 h0 ss (k+1) (some f)=[]:=if_neg c
    rw[er]at hab
    have hab:ab∈[(a,j5 h0)]:=hab
    rw[Ja.mp hab]
    have hv:0<veZ h0 a:=by
     rcases h1 with rfl|h1
     ·exact absurd vf c
     ·exact h1
    have ev:veZ a (j5 h0)=veZ h0 a:=by unfold veZ j5;grind
    refine⟨ha,sy h0 m0,by show 0<veZ a (j5 h0);rw[ev];exact hv,?_⟩
    show Sup _ (ry (tri a) (tri (j5 h0)))
    rw[B2]
    exact Ax syT (IJ.mpr ⟨h0,m0,rfl⟩) (IJ.mpr ⟨a,ha,rfl⟩) s0 t0 hz ta ef (by rw[u6];exact v7.mpr hv) (by rw[u6];have:=v7 (n:=veZ h0 f);grind)
noncomputable def A7(c d:Nat):Nat:=c / JP c d*d
theorem G6(c d:Nat):A7 c d=Nm c d:=by
 unfold A7 Nm
 rw[MM,← Nat.mul_div_assoc _ (Nat.gcd_dvd_left c d),MM]
noncomputable def cbL(l:T3):Nat:=A7 (A7 (A7 1 l.1.den) l.2.1.den) l.2.2.den
theorem cU(l:T3):cbL l=Nm (Nm l.1.den l.2.1.den) l.2.2.den:=by
 unfold cbL
 rw[G6,G6,G6,Nat.lcm_one_left]
theorem yI(l:T3):0<cbL l:=by
 rw[cU]
 exact Mt (Mt l.1.den_pos l.2.1.den_pos) l.2.2.den_pos
theorem AA(l:T3):l.1.den ∣ cbL l:=by rw[cU];exact LG (Lc _ _) (Lc _ _)
theorem Az(l:T3):l.2.1.den ∣ cbL l:=by rw[cU];exact LG (LB _ _) (Lc _ _)
theorem Ay(l:T3):l.2.2.den ∣ cbL l:=by rw[cU];exact LB _ _
noncomputable def az(q:Rat)(c:Nat):Int:=q.num*((c / q.den:Nat):Int)
theorem aL{q:Rat}{c:Nat}(h:q.den ∣ c):(az q c:Rat)=q*(c:Rat):=by
 obtain⟨k,rfl⟩:=h
 unfold az
 rw[LH _ q.den_pos,IV,← G5 q,Jy,Jf]
 grind
noncomputable def i4(l:T3)(i:Nat):Sd:=(az l.1 (cbL l),az l.2.1 (cbL l),az l.2.2 (cbL l),(i:Int),(cbL l:Int))
noncomputable def K2:Nat→List T3→List Sd
 | _,[]=>[]
 | i,l :: r=>i4 l i :: j5 (i4 l i) :: K2 (i+1) r
noncomputable abbrev g5(ls:List T3):List Sd:=K2 0 ls
theorem B8(l:T3)(i:Nat):tri (i4 l i)=(l.1*(cbL l:Rat),l.2.1*(cbL l:Rat),l.2.2*(cbL l:Rat)):=by
 unfold tri i4
 rw[aL (AA l),aL (Az l),aL (Ay l)]
theorem yD(s:Sd):j5 (j5 s)=s:=by
 obtain⟨a,b,c,d,e⟩:=s
 unfold j5
 show(- -a,- -b,c,d,- -e)=_
 rw[Nb,Nb,Nb]
theorem E3{s:Sd}:∀{ls:List T3} {i:Nat},s∈K2 i ls→∃ l∈ls,∃ j,s=i4 l j∨s=j5 (i4 l j)
 | [],_,h=>nomatch h
 | l :: r,i,h=>by
  rcases IE.mp h with h|h
  ·exact⟨l,IG,i,.inl h⟩
  ·rcases IE.mp h with h|h
   ·exact⟨l,IG,i,.inr h⟩
   ·obtain⟨l',h1,j,h2⟩:=E3 h
    exact⟨l',IC _ h1,j,h2⟩
theorem aQ{l:T3}:∀{ls:List T3} {i:Nat},l∈ls→∃ j,i4 l j∈K2 i ls∧j5 (i4 l j)∈K2 i ls
 | [],_,h=>nomatch h
 | m :: r,i,h=>by
  rcases IE.mp h with rfl|h
  ·exact⟨i,IG,IC _ IG⟩
  ·obtain⟨j,h1,h2⟩:=aQ (i:=i+1) h
   exact⟨j,IC _ (IC _ h1),IC _ (IC _ h2)⟩
theorem kS:∀{ls:List T3} {i:Nat},∀ s∈K2 i ls,j5 s∈K2 i ls
 | [],_,_,h=>nomatch h
 | l :: r,i,s,h=>by
  rcases IE.mp h with rfl|h
  ·exact IC _ IG
  ·rcases IE.mp h with rfl|h
   ·rw[yD];exact IG
   ·exact IC _ (IC _ (kS s h))
structure LineOk(l:T3):Prop where
 ne:¬ (l.1=0∧l.2.1=0)
 pos:0<l.2.2
theorem E7(l:T3):(0:Rat)<(cbL l:Rat):=by
 exact Rat.natCast_pos.mpr (yI l)
theorem fq{ls:List T3}(h:∀ l∈ls,LineOk l){i:Nat}:∀ s∈K2 i ls,0<s.2.2.1:=fun s hs=>by
 obtain⟨l,hl,j,e⟩:=E3 hs
 have hr:s.2.2.1=(i4 l j).2.2.1:=by rcases e with rfl|rfl<;>rfl
 rw[hr]
 have e2:((i4 l j).2.2.1:Rat)=l.2.2*(cbL l:Rat):=congrArg (fun t:T3=>t.2.2) (B8 l j)
 refine v7.mp ?_
 rw[e2]
 exact JU (h l hl).pos (E7 l)
theorem D5(l:T3)(y u:Rat):R7 l y u=true↔l.1*y+l.2.1*u≤l.2.2∧-(l.1*y+l.2.1*u)≤l.2.2:=by
 unfold R7 C4
 rw[decide_eq_true_iff]
 split<;>grind
theorem W1{c x r:Rat}(hc:0<c):x*c≤r*c↔x≤r:=by
 constructor
 ·intro h
  have:0≤c*(r - x):=by grind
  have:=u0 hc this
  grind
 ·intro h
  have:0≤(r - x)*c:=IH (by grind) (E1 hc)
  grind
theorem gQ(l:T3)(j:Nat)(z:Rat × Rat):dt (tri (i4 l j)) z=(l.1*z.1+l.2.1*z.2)*(cbL l:Rat):=by
 rw[B8];unfold dt;grind
theorem uZ(s:Sd)(z:Rat × Rat):dt (tri (j5 s)) z = -dt (tri s) z:=by rw[B2];unfold dt ng;grind
theorem S8(ls:List T3)(z:Rat × Rat):Sup ((g5 ls).map tri) z↔B6 ls z.1 z.2=true:=by
 unfold B6
 rw[Kl]
 constructor
 ·intro h l hl
  obtain⟨j,h1,h2⟩:=aQ (i:=0) hl
  have a1:=h _ (IJ.mpr ⟨_,h1,rfl⟩)
  have a2:=h _ (IJ.mpr ⟨_,h2,rfl⟩)
  rw[uZ]at a2
  have e:(tri (j5 (i4 l j))).2.2=(tri (i4 l j)).2.2:=rfl
  rw[e]at a2
  rw[gQ,B8]at a1 a2
  rw[D5]
  refine⟨(W1 (E7 l)).mp a1,(W1 (E7 l)).mp ?_⟩
  rw[Rat.neg_mul];exact a2
 ·intro h s hs
  obtain⟨t,ht,rfl⟩:=IJ.mp hs
  obtain⟨l,hl,j,e⟩:=E3 ht
  obtain⟨b1,b2⟩:=(D5 l z.1 z.2).mp (h l hl)
  rcases e with rfl|rfl
  ·rw[gQ,B8];exact(W1 (E7 l)).mpr b1
  ·rw[uZ]
   show -dt (tri (i4 l j)) z≤(tri (i4 l j)).2.2
   rw[gQ,B8,← Rat.neg_mul]
   exact(W1 (E7 l)).mpr b2
theorem J9{ls:List T3}(hok:∀ l∈ls,LineOk l)(hne:ls≠[]):∃ h0 l,L5 (g5 ls)=h0 :: l∧h0∈g5 ls ∧
  ((l=[]∧∀ s∈g5 ls,veZ h0 s=0)∨(l≠[]∧Rim ((g5 ls).map tri) (tri h0) (l.map tri)∧∀ ab∈(h0 :: l).zip (l++[j5 h0]),ab.1∈g5 ls∧ab.2∈g5 ls∧0<veZ ab.1 ab.2)):=by
 have hp:∀ s∈g5 ls,0<s.2.2.1:=fq hok (i:=0)
 have sy:∀ s∈g5 ls,j5 s∈g5 ls:=kS (ls:=ls) (i:=0)
 have nn:g5 ls≠[]:=by
  cases ls with
  | nil=>exact absurd rfl hne
  | cons a b=>exact fun z=>nomatch z
 generalize g5 ls=ss at *
 obtain⟨s1,r,rfl⟩:∃ s1 r,ss=s1 :: r:=by
  cases ss with
  | nil=>exact absurd rfl nn
  | cons a b=>exact⟨_,_,rfl⟩
 refine⟨u9 (s1 :: r) s1,_,rfl,?_⟩
 have m0:u9 (s1 :: r) s1∈s1 :: r:=by
  rcases V7 (s1 :: r) s1 with h|h
  ·rw[h];exact IG
  ·exact h
 have le:=fun t ht=>nW (s1 :: r) s1 t hp (hp s1 IG) (hp t ht) (.inl ht)
 generalize u9 (s1 :: r) s1=h0 at *
 generalize s1 :: r=ss at *
 refine⟨m0,?_⟩
 cases e:A0 h0 ss with
 | none =>
  left
  have no:=(V8 (h:=h0) hp).no e
  refine⟨by cases ss.length<;>rfl,fun s hs=>?_⟩
  have a1:=no s hs
  have a2:=no _ (sy s hs)
  have:veZ h0 (j5 s) = -veZ h0 s:=by unfold veZ j5;grind
  omega
 | some f =>
  right
  obtain⟨mf,vf,ef⟩:=E9 hp e
  have hl:ss.length≠0:=fun z=>by rw[List.eq_nil_of_length_eq_zero z]at m0;cases m0
  have r0:=hp h0 m0
  have p0:0<h0.1:=by
   rcases Ma 0 h0.1 with z|z
   ·exact z
   ·exfalso
    have cW:∀ s∈ss,s.1=0:=fun s hs=>by
     have q1:=le s hs
     have q2:=le _ (sy s hs)
     have rs:=hp s hs
     have q2:-s.1*h0.2.2.1≤h0.1*s.2.2.1:=q2
     have q3:0 ≤ -h0.1*s.2.2.1:=Kr (by omega) (by omega)
     rw[Int.neg_mul]at q2 q3
     have q4:s.1*h0.2.2.1=0:=by omega
     exact(KQ.mp q4).resolve_right (by omega)
    have:veZ h0 f=0:=by
     unfold veZ;rw[cW h0 m0,cW f mf,Mb,ML];rfl
    omega
  have p0R:(0:Rat)<(h0.1:Rat):=v7.mpr p0
  have s0:Sup (ss.map tri) ((h0.2.2.1:Rat) / (h0.1:Rat),0):=fun s hs=>by
   obtain⟨t,ht,rfl⟩:=IJ.mp hs
   have q:=le t ht
   have q':((t.1*h0.2.2.1:Int):Rat)≤((h0.1*t.2.2.1:Int):Rat):=LN.mpr q
   rw[IV,IV]at q'
   unfold dt tri
   show(t.1:Rat)*((h0.2.2.1:Rat) / (h0.1:Rat))+(t.2.1:Rat)*0≤(t.2.2.1:Rat)
   have e1:(h0.1:Rat)*((h0.2.2.1:Rat) / (h0.1:Rat))=(h0.2.2.1:Rat):=by rw[Lr,Jo (A6 p0R)]
   have:0≤(h0.1:Rat)*((t.2.2.1:Rat) - (t.1:Rat)*((h0.2.2.1:Rat) / (h0.1:Rat))):=by
    generalize (h0.2.2.1:Rat) / (h0.1:Rat)=w at *
    generalize (h0.1:Rat)=A at *
    generalize (h0.2.2.1:Rat)=B at *
    generalize (t.1:Rat)=C at *
    generalize (t.2.2.1:Rat)=E at *
    subst e1
    clear le hp sy
    grind
   have:=u0 p0R this
   rw[Md,Me]
   generalize (t.1:Rat)*((h0.2.2.1:Rat) / (h0.1:Rat))=w at *
   generalize (t.2.2.1:Rat)=E at *
   clear le hp sy
   grind
  have t0:dt (tri h0) ((h0.2.2.1:Rat) / (h0.1:Rat),0)=(tri h0).2.2:=by
   unfold dt tri
   show(h0.1:Rat)*((h0.2.2.1:Rat) / (h0.1:Rat))+(h0.2.1:Rat)*0=(h0.2.2.1:Rat)
   rw[Lr,Jo (A6 p0R),Md,Me]
  have all:=xC hp sy m0 s0 t0 ss.length h0 _ m0 s0 t0 (.inl rfl) (fun _=>⟨f,e⟩) (fun g hg hv=>IF (X0 hp hg (.inl rfl) hv) (vx h0 ss h0))
  rw[e]at all
  refine⟨?_,⟨?_,fun s hs=>?_,fun s hs=>?_,fun ab hab=>?_⟩,fun ab hab=>?_⟩
  ·obtain⟨k,hk⟩:∃ k,ss.length=k+1:=⟨ss.length - 1,by omega⟩
   rw[hk]
   show(if 0<veZ h0 f then _ else _)≠[]
   rw[if_pos vf];exact fun z=>nomatch z
  ·obtain⟨k,hk⟩:∃ k,ss.length=k+1:=⟨ss.length - 1,by omega⟩
   rw[hk]
   show(if 0<veZ h0 f then _ else _:List Sd).map tri≠[]
   rw[if_pos vf];exact fun z=>nomatch z
  ·obtain⟨t,ht,rfl⟩:=IJ.mp hs
   rw[← B2];exact IJ.mpr ⟨_,sy t ht,rfl⟩
  ·obtain⟨t,ht,rfl⟩:=IJ.mp hs
   exact v7.mpr (hp t ht)
  ·have em:ab∈((h0 :: C7 h0 ss ss.length (some f)).map tri).zip ((C7 h0 ss ss.length (some f)++[j5 h0]).map tri):=by
    rw[Jn,Jj,Jj,Ki,B2];exact hab
   rw[F0]at em
   obtain⟨cd,hcd,rfl⟩:=IJ.mp em
   obtain⟨q1,q2,q3,q4⟩:=all cd hcd
   exact⟨IJ.mpr ⟨_,q1,rfl⟩,IJ.mpr ⟨_,q2,rfl⟩,by show 0<ve (tri cd.1) (tri cd.2);rw[u6];exact v7.mpr q3,q4⟩
  ·obtain⟨q1,q2,q3,q4⟩:=all ab hab
   exact⟨q1,q2,q3⟩
noncomputable def E2(a b:Rat × Rat):Bool:=if a.1=b.1 then decide (a.2<b.2)else decide (a.1<b.1)
noncomputable def D3(rs:List (Rat × Rat)):Nat→Nat
 | 0=>0
 | i+1=>if E2 (rs.getD i (0,0)) (rs.getD (D3 rs i) (0,0))=true then i else D3 rs i
noncomputable def Y6(rs:List (Rat × Rat)):List (Rat × Rat):=rs.drop (D3 rs rs.length)++rs.take (D3 rs rs.length)
noncomputable def y4(h0:Sd)(l:List Sd):List (Rat × Rat):=((h0 :: l).zip (l++[j5 h0])).map fun ab=>ry (tri ab.1) (tri ab.2)
noncomputable def F6(ls:List T3):Option (List (Rat × Rat)):=match L5 (g5 ls)with
 | []=>none
 | [_]=>none
 | h0 :: x :: l=>some (Y6 (y4 h0 (x :: l)++(y4 h0 (x :: l)).map ngZ))
theorem V3{rs:List (Rat × Rat)}{z:Rat × Rat}:z∈Y6 rs↔z∈rs:=by
 unfold Y6
 rw[Jc,Or.comm,← Jc,Lb]
theorem tH(h0:Sd)(l:List Sd):y4 h0 l++(y4 h0 l).map ngZ=aH (tri h0) (l.map tri):=by
 unfold y4 aH gP
 have e:(tri h0 :: l.map tri).zip (l.map tri++[ng (tri h0)])=((h0 :: l).zip (l++[j5 h0])).map fun ab=>(tri ab.1,tri ab.2):=by
  rw[← F0,Jj,Jn,Jj,Ki,B2]
 rw[e,Js,Js,Js]
 rfl
def F8(ls:List T3):Prop:=∀ a∈ls,∀ b∈ls,a.1*b.2.1=b.1*a.2.1
theorem iX(a b:T3)(i j:Nat):ve (tri (i4 a i)) (tri (i4 b j))=(a.1*b.2.1 - b.1*a.2.1)*((cbL a:Rat)*(cbL b:Rat)):=by
 rw[B8,B8];unfold ve;grind
theorem vq{ls:List T3}(hok:∀ l∈ls,LineOk l) :
  (F6 ls=none∧F8 ls) ∨ ∃ cs,F6 ls=some cs∧¬ F8 ls∧(∃ h0 l,Rim ((g5 ls).map tri) h0 l∧∀ z,z∈cs↔z∈aH h0 l):=by
 by_cases hne:ls=[]
 ·subst hne
  exact .inl ⟨rfl,fun a ha=>nomatch ha⟩
 obtain⟨h0,l,e,m0,h⟩:=J9 hok hne
 rcases h with⟨rfl,h⟩|⟨hl,R,h⟩
 ·left
  refine⟨by unfold F6;rw[e],fun a ha b hb=>?_⟩
  obtain⟨i,ha,_⟩:=aQ (i:=0) ha
  obtain⟨j,hb,_⟩:=aQ (i:=0) hb
  have e1:=h _ ha
  have e2:=h _ hb
  obtain⟨c,hc,k,ec⟩:=E3 m0
  have hc0:¬ ((tri h0).1=0∧(tri h0).2.1=0):=fun⟨z1,z2⟩=>by
   have cp:=E7 c
   have:(tri (i4 c k)).1=0∧(tri (i4 c k)).2.1=0:=by
    rcases ec with rfl|rfl
    ·exact⟨z1,z2⟩
    ·rw[B2]at z1 z2
     unfold ng at z1 z2
     exact⟨by grind,by grind⟩
   rw[B8]at this
   have t1:c.1*(cbL c:Rat)=0:=this.1
   have t2:c.2.1*(cbL c:Rat)=0:=this.2
   exact(hok c hc).ne ⟨by grind,by grind⟩
  have f1:ve (tri h0) (tri (i4 a i))=0:=by rw[u6,e1];rfl
  have f2:ve (tri h0) (tri (i4 b j))=0:=by rw[u6,e2];rfl
  have f3:ve (tri (i4 a i)) (tri (i4 b j))=0:=by
   generalize tri (i4 a i)=x at *
   generalize tri (i4 b j)=y at *
   generalize tri h0=w at *
   unfold ve at *
   have i1:w.1*(x.1*y.2.1 - x.2.1*y.1)=0:=by
    have:w.1*(x.1*y.2.1 - x.2.1*y.1)=x.1*(w.1*y.2.1 - w.2.1*y.1) - y.1*(w.1*x.2.1 - w.2.1*x.1):=by grind
    rw[this,f1,f2];grind
   have i2:w.2.1*(x.1*y.2.1 - x.2.1*y.1)=0:=by
    have:w.2.1*(x.1*y.2.1 - x.2.1*y.1)=x.2.1*(w.1*y.2.1 - w.2.1*y.1) - y.2.1*(w.1*x.2.1 - w.2.1*x.1):=by grind
    rw[this,f1,f2];grind
   by_cases c1:w.1=0
   ·have c2:w.2.1≠0:=fun z=>hc0 ⟨c1,z⟩
    grind
   ·grind
  rw[iX]at f3
  have q1:=A6 (JU (E7 a) (E7 b))
  generalize (cbL a:Rat)*(cbL b:Rat)=k at *
  generalize a.1*b.2.1=u at *
  generalize b.1*a.2.1=v at *
  clear h e m0 hc0 f1 f2 e1 e2 hok
  grind
 ·right
  obtain⟨x,l,rfl⟩:∃ x l',l=x :: l':=by
   cases l with
   | nil=>exact absurd rfl hl
   | cons x l=>exact⟨x,l,rfl⟩
  refine⟨_,by unfold F6;rw[e],fun al=>?_,_,_,R,fun z=>?_⟩
  ·obtain⟨q1,q2,q3⟩:=h (h0,x) IG
   obtain⟨a,ha,i,ea⟩:=E3 q1
   obtain⟨b,hb,j,eb⟩:=E3 q2
   have hv:=al a ha b hb
   have z0:ve (tri (i4 a i)) (tri (i4 b j))=0:=by rw[iX,hv];grind
   have q3:0<veZ h0 x:=q3
   have q4:(0:Rat)<ve (tri h0) (tri x):=by rw[u6];exact v7.mpr q3
   have ea':tri h0=tri (i4 a i)∨tri h0=ng (tri (i4 a i)):=by
    rcases ea with h|h
    ·have h:h0=_:=h;left;rw[h]
    ·have h:h0=_:=h;right;rw[h,B2]
   have eb':tri x=tri (i4 b j)∨tri x=ng (tri (i4 b j)):=by
    rcases eb with h|h
    ·have h:x=_:=h;left;rw[h]
    ·have h:x=_:=h;right;rw[h,B2]
   have z1:ve (tri h0) (tri x)=0:=by
    rcases ea' with h|h<;>rcases eb' with h'|h'<;>(rw[h,h'];clear q4;generalize tri (i4 a i)=A at *;generalize tri (i4 b j)=B at *;unfold ve at *;first|exact z0|(unfold ng;grind))
   grind
  ·rw[V3,tH]
theorem ft{a b:Sd}:sdD a=sdD b↔a=b:=by
 constructor
 ·intro h
  unfold sdD at h
  injection h with h
  injection h with h1 h
  injection h with h2 h
  injection h with h3 h
  injection h with h4 h
  injection h with h5 h
  injection h1 with h1;injection h2 with h2;injection h3 with h3;injection h4 with h4;injection h5 with h5
  exact Prod.ext h1 (Prod.ext h2 (Prod.ext h3 (Prod.ext h4 h5)))
 ·rintro rfl;rfl
theorem ji{xs ys:List Sd}:xs.map sdD=ys.map sdD↔xs=ys:=Ju (fun _ _ h=>ft.mp h)
theorem K7{a b:Rat × Rat}:rD a=rD b↔a=b:=by
 constructor
 ·intro h
  unfold rD D9 at h
  injection h with h
  injection h with h1 h
  injection h with h2 h
  exact Prod.ext (g8.mp h1) (g8.mp h2)
 ·rintro rfl;rfl
theorem G2{xs ys:List (Rat × Rat)}:xs.map rD=ys.map rD↔xs=ys:=Ju (fun _ _ h=>K7.mp h)
structure SzS(s:Sd):Prop where
 p:s.1.natAbs<2 ^ 1200
 q:s.2.1.natAbs<2 ^ 1200
 r:s.2.2.1.natAbs<2 ^ 1200
noncomputable def jE:Option Sd→D
 | none=>.non
 | some s=>sdD s
structure LnOk(l:T3):Prop extends LineOk l where
 p:sz l.1≤1300
 q:sz l.2.1≤1300
 r:sz l.2.2≤1300
 s:SzS (i4 l 0)
def qv(ls:List T3):Prop:=ls.length≤12∧∀ l∈ls,LnOk l
local macro_rules|`(tactic| walk_at "inj")=>`(tactic| (rename_i e h;simp only[List.cons.injEq,GM.ft,GM.ji,GM.K7,GM.G2,and_true,true_and,GM.g8,GM.h8,GM.g6,GM.h9,GM.g7,D.tup.injEq,D.ref.injEq,D.int.injEq,D.str.injEq,D.bl.injEq,D.vl.injEq,IZ,and_assoc]at e;(repeat(obtain⟨e1,e⟩:=e;subst e1));subst e;exact h))
local macro_rules|`(tactic| walk_at "injs")=>`(tactic| (rename_i e o h;rcases o with o|o<;>(subst o;first|(exfalso;simp only[D.tup.injEq,List.cons.injEq,reduceCtorEq,false_and,and_false]at e;done)|(simp only[List.cons.injEq,GM.ft,GM.ji,GM.K7,GM.G2,and_true,true_and,GM.g8,GM.h8,GM.g6,GM.h9,GM.g7,D.tup.injEq,D.ref.injEq,D.int.injEq,D.str.injEq,D.bl.injEq,D.vl.injEq,IZ,and_assoc]at e;(repeat(obtain⟨e1,e⟩:=e;subst e1));subst e;exact h))))
abbrev gg(l:T3)(M:Mem)(R:DK)(Y:DXK):Prop:=LnOk l∧R (.int ((cbL l:Nat):Int)) M
def Bp:DSp:=fun ds M R Y=>∃(l:T3),ds=[j4 l]∧gg l M R Y
theorem qJ{l:T3}{M:Mem}{R:DK}{Y:DXK}:Bp [j4 l] M R Y=(gg l M R Y):=propext ⟨fun z=>by obtain⟨_,_,_⟩:=z;walk_at "inj",fun h=>⟨l,rfl,h⟩⟩
abbrev T6(l:T3)(c:Int)(M:Mem)(R:DK)(Y:DXK):Prop:=(LnOk l∧c=((cbL l:Nat):Int))∧R (.vl [.int (i4 l 0).1,.int (i4 l 0).2.1,.int (i4 l 0).2.2.1]) M
def lA:DSp:=fun ds M R Y=>∃(l:T3) (c:Int),ds=[j4 l,.int c]∧T6 l c M R Y
theorem iG{l:T3}{c:Int}{M:Mem}{R:DK}{Y:DXK}:lA [j4 l,.int c] M R Y=(T6 l c M R Y):=propext ⟨fun z=>by obtain⟨_,_,_,_⟩:=z;walk_at "inj",fun h=>⟨l,c,rfl,h⟩⟩
abbrev N7(ls:List T3)(M:Mem)(R:DK)(Y:DXK):Prop:=qv ls∧R (.vl ((g5 ls).map sdD)) M
def fR:DSp:=fun ds M R Y=>∃(x0:D) (ls:List T3),ds=[x0]∧(x0 = .vl (ls.map j4)∨x0 = .tup (ls.map j4))∧N7 ls M R Y
theorem iK{ls:List T3}{M:Mem}{R:DK}{Y:DXK}:fR [.vl (ls.map j4)] M R Y=(N7 ls M R Y):=propext ⟨fun z=>by obtain⟨_,_,_,_,_⟩:=z;walk_at "injs",fun h=>⟨_,ls,rfl,.inl rfl,h⟩⟩
theorem bu{ls:List T3}{M:Mem}{R:DK}{Y:DXK}:fR [.tup (ls.map j4)] M R Y=(N7 ls M R Y):=propext ⟨fun z=>by obtain⟨_,_,_,_,_⟩:=z;walk_at "injs",fun h=>⟨_,ls,rfl,.inr rfl,h⟩⟩
abbrev fZ(a:Sd)(M:Mem)(R:DK)(Y:DXK):Prop:=R (sdD (j5 a)) M
def xy:DSp:=fun ds M R Y=>∃(a:Sd),ds=[sdD a]∧fZ a M R Y
theorem qH{a:Sd}{M:Mem}{R:DK}{Y:DXK}:xy [sdD a] M R Y=(fZ a M R Y):=propext ⟨fun z=>by obtain⟨_,_,_⟩:=z;walk_at "inj",fun h=>⟨a,rfl,h⟩⟩
abbrev aS(a b:Sd)(M:Mem)(R:DK)(Y:DXK):Prop:=(SzS a∧SzS b)∧R (.int (veZ a b)) M
def eE:DSp:=fun ds M R Y=>∃(a b:Sd),ds=[sdD a,sdD b]∧aS a b M R Y
theorem mz{a b:Sd}{M:Mem}{R:DK}{Y:DXK}:eE [sdD a,sdD b] M R Y=(aS a b M R Y):=propext ⟨fun z=>by obtain⟨_,_,_,_⟩:=z;walk_at "inj",fun h=>⟨a,b,rfl,h⟩⟩
abbrev aT(a b c:Sd)(M:Mem)(R:DK)(Y:DXK):Prop:=(SzS a∧SzS b∧SzS c)∧R (.int (tnZ a b c)) M
def sU:DSp:=fun ds M R Y=>∃(a b c:Sd),ds=[sdD a,sdD b,sdD c]∧aT a b c M R Y
theorem mB{a b c:Sd}{M:Mem}{R:DK}{Y:DXK}:sU [sdD a,sdD b,sdD c] M R Y=(aT a b c M R Y):=propext ⟨fun z=>by obtain⟨_,_,_,_,_⟩:=z;walk_at "inj",fun h=>⟨a,b,c,rfl,h⟩⟩
abbrev aY(a b:Sd)(M:Mem)(R:DK)(Y:DXK):Prop:=(SzS a∧SzS b)∧R (.bl (C1 a b)) M
def sX:DSp:=fun ds M R Y=>∃(a b:Sd),ds=[sdD a,sdD b]∧aY a b M R Y
theorem mH{a b:Sd}{M:Mem}{R:DK}{Y:DXK}:sX [sdD a,sdD b] M R Y=(aY a b M R Y):=propext ⟨fun z=>by obtain⟨_,_,_,_⟩:=z;walk_at "inj",fun h=>⟨a,b,rfl,h⟩⟩
abbrev aV(ss:List Sd)(M:Mem)(R:DK)(Y:DXK):Prop:=(∃ s r,ss=s :: r)∧(∀ s∈ss,SzS s)∧R (sdD (u9 ss (ss.headD (0,0,0,0,0)))) M
def sW:DSp:=fun ds M R Y=>∃(ss:List Sd),ds=[.vl (ss.map sdD)]∧aV ss M R Y
theorem mD{ss:List Sd}{M:Mem}{R:DK}{Y:DXK}:sW [.vl (ss.map sdD)] M R Y=(aV ss M R Y):=propext ⟨fun z=>by obtain⟨_,_,_⟩:=z;walk_at "inj",fun h=>⟨ss,rfl,h⟩⟩
abbrev fV(ss:List Sd)(g:Sd)(M:Mem)(R:DK)(Y:DXK):Prop:=(SzS g∧∀ s∈ss,SzS s)∧R (jE (A0 g ss)) M
def Bl:DSp:=fun ds M R Y=>∃(ss:List Sd) (g:Sd),ds=[.vl (ss.map sdD),sdD g]∧fV ss g M R Y
theorem qF{ss:List Sd}{g:Sd}{M:Mem}{R:DK}{Y:DXK}:Bl [.vl (ss.map sdD),sdD g] M R Y=(fV ss g M R Y):=propext ⟨fun z=>by obtain⟨_,_,_,_⟩:=z;walk_at "inj",fun h=>⟨ss,g,rfl,h⟩⟩
abbrev U8(ls:List T3)(M:Mem)(R:DK)(Y:DXK):Prop:=qv ls∧R (.vl ((L5 (g5 ls)).map sdD)) M
def nK:DSp:=fun ds M R Y=>∃(x0:D) (ls:List T3),ds=[x0]∧(x0 = .vl (ls.map j4)∨x0 = .tup (ls.map j4))∧U8 ls M R Y
theorem mI{ls:List T3}{M:Mem}{R:DK}{Y:DXK}:nK [.vl (ls.map j4)] M R Y=(U8 ls M R Y):=propext ⟨fun z=>by obtain⟨_,_,_,_,_⟩:=z;walk_at "injs",fun h=>⟨_,ls,rfl,.inl rfl,h⟩⟩
theorem dH{ls:List T3}{M:Mem}{R:DK}{Y:DXK}:nK [.tup (ls.map j4)] M R Y=(U8 ls M R Y):=propext ⟨fun z=>by obtain⟨_,_,_,_,_⟩:=z;walk_at "injs",fun h=>⟨_,ls,rfl,.inr rfl,h⟩⟩
abbrev fW(a b:Sd)(M:Mem)(R:DK)(Y:DXK):Prop:=(SzS a∧SzS b∧veZ a b≠0)∧R (rD (ry (tri a) (tri b))) M
def Bm:DSp:=fun ds M R Y=>∃(a b:Sd),ds=[sdD a,sdD b]∧fW a b M R Y
theorem qG{a b:Sd}{M:Mem}{R:DK}{Y:DXK}:Bm [sdD a,sdD b] M R Y=(fW a b M R Y):=propext ⟨fun z=>by obtain⟨_,_,_,_⟩:=z;walk_at "inj",fun h=>⟨a,b,rfl,h⟩⟩
def yP(z:Rat × Rat):Prop:=sz z.1≤2402∧sz z.2≤2402
abbrev U5(a b:Rat × Rat)(M:Mem)(R:DK)(Y:DXK):Prop:=(yP a∧yP b)∧R (.bl (E2 a b)) M
def lE:DSp:=fun ds M R Y=>∃(a b:Rat × Rat),ds=[rD a,rD b]∧U5 a b M R Y
theorem iN{a b:Rat × Rat}{M:Mem}{R:DK}{Y:DXK}:lE [rD a,rD b] M R Y=(U5 a b M R Y):=propext ⟨fun z=>by obtain⟨_,_,_,_⟩:=z;walk_at "inj",fun h=>⟨a,b,rfl,h⟩⟩
abbrev U9(rs:List (Rat × Rat))(M:Mem)(R:DK)(Y:DXK):Prop:=(rs≠[]∧rs.length≤100∧∀ z∈rs,yP z)∧R (.vl ((Y6 rs).map rD)) M
def lF:DSp:=fun ds M R Y=>∃(rs:List (Rat × Rat)),ds=[.vl (rs.map rD)]∧U9 rs M R Y
theorem iP{rs:List (Rat × Rat)}{M:Mem}{R:DK}{Y:DXK}:lF [.vl (rs.map rD)] M R Y=(U9 rs M R Y):=propext ⟨fun z=>by obtain⟨_,_,_⟩:=z;walk_at "inj",fun h=>⟨rs,rfl,h⟩⟩
noncomputable def BS:Option (List (Rat × Rat))→D
 | none=>.non
 | some cs=>.vl (cs.map rD)
abbrev V0(ls:List T3)(M:Mem)(R:DK)(Y:DXK):Prop:=qv ls∧R (BS (F6 ls)) M
def nN:DSp:=fun ds M R Y=>∃(x0:D) (ls:List T3),ds=[x0]∧(x0 = .vl (ls.map j4)∨x0 = .tup (ls.map j4))∧V0 ls M R Y
theorem mJ{ls:List T3}{M:Mem}{R:DK}{Y:DXK}:nN [.vl (ls.map j4)] M R Y=(V0 ls M R Y):=propext ⟨fun z=>by obtain⟨_,_,_,_,_⟩:=z;walk_at "injs",fun h=>⟨_,ls,rfl,.inl rfl,h⟩⟩
theorem dM{ls:List T3}{M:Mem}{R:DK}{Y:DXK}:nN [.tup (ls.map j4)] M R Y=(V0 ls M R Y):=propext ⟨fun z=>by obtain⟨_,_,_,_,_⟩:=z;walk_at "injs",fun h=>⟨_,ls,rfl,.inr rfl,h⟩⟩
theorem qC{a:Sd}{M:Mem}{R:DK}:gIx (sdD a) (.int 0) M R=R (.int a.1) M:=L9
theorem qB{a:Sd}{M:Mem}{R:DK}:gIx (sdD a) (.int 1) M R=R (.int a.2.1) M:=L8
theorem qA{a:Sd}{M:Mem}{R:DK}:gIx (sdD a) (.int 2) M R=R (.int a.2.2.1) M:=fh
theorem qE{a:Rat × Rat}{M:Mem}{R:DK}:gIx (rD a) (.int 0) M R=R (f7 a.1) M:=L9
theorem qD{a:Rat × Rat}{M:Mem}{R:DK}:gIx (rD a) (.int 1) M R=R (f7 a.2) M:=L8
theorem SzS.ve{a b:Sd}(ha:SzS a)(hb:SzS b):(veZ a b).natAbs<2 ^ 2401:=by
 have h1:=g9 ha.p hb.q
 have h2:=g9 ha.q hb.p
 unfold veZ
 have:=MD (a.1*b.2.1) (a.2.1*b.1)
 rw[show 2401=1200+1200+1 from rfl,Lo]
 omega
theorem yp(c d:Nat):A7 c d≤c*d:=by
 unfold A7
 exact Nat.mul_le_mul_right _ (Kd _ _)
theorem hZ:∀(xs:List Rat) (c m:Nat),(∀ x∈xs,sz x≤1300)→c<2 ^ m→xs.foldl (fun c q=>A7 c q.den) c<2 ^ (m+1300*xs.length)
 | [],c,m,_,h=>by simpa using h
 | x :: xs,c,m,hx,h=>by
  have h1:A7 c x.den<2 ^ (m+1300):=Jl (yp c x.den) (B4 h (B1 x (hx x IG)))
  have:=hZ xs _ _ (fun y hy=>hx y (IC _ hy)) h1
  rw[Nc,IA]
  rwa [show m+1300*(xs.length+1)=m+1300+1300*xs.length by omega]
theorem LnOk.all{l:T3}(h:LnOk l):∀ x∈[l.1,l.2.1,l.2.2],sz x≤1300:=fun x hx=>by
 simp only[IE,Ji,or_false]at hx
 rcases hx with rfl|rfl|rfl
 ·exact h.p
 ·exact h.q
 ·exact h.r
theorem LnOk.cb{l:T3}(h:LnOk l):cbL l<2 ^ 3901:=hZ [l.1,l.2.1,l.2.2] 1 1 h.all (by decide)
theorem X6{ls:List T3}(h:qv ls){i:Nat}:∀ s∈K2 i ls,SzS s:=fun s hs=>by
 obtain⟨l,hl,j,e⟩:=E3 hs
 obtain⟨a,b,c⟩:=(h.2 l hl).s
 rcases e with rfl|rfl
 ·exact⟨a,b,c⟩
 ·exact⟨by show(-(i4 l j).1).natAbs<_;rw[JQ];exact a,by show(-(i4 l j).2.1).natAbs<_;rw[JQ];exact b,c⟩
theorem jg:∀(ls:List T3) (i j:Nat) (l:T3),ls[j]? = some l→K2 i (ls.take (j+1))=K2 i (ls.take j)++[i4 l (i+j),j5 (i4 l (i+j))]
 | [],_,_,_,h=>nomatch h
 | a :: r,i,0,l,h=>by
  obtain rfl:=Option.some.inj h
  rfl
 | a :: r,i,j+1,l,h=>by
  have:=jg r (i+1) j l h
  rw[Lj,Lj]
  show _ :: _ :: K2 (i+1) (r.take (j+1))=_ :: _ :: (K2 (i+1) (r.take j)++_)
  rw[this,show i+1+j=i+(j+1)by omega]
theorem aP:∀(ls:List T3) (i:Nat),(K2 i ls).length=2*ls.length
 | [],_=>rfl
 | a :: r,i=>by
  show(K2 (i+1) r).length+1+1=2*(r.length+1)
  rw[aP r (i+1)];omega
theorem av(a b:Int):Jv a b=(a:Rat) / (b:Rat):=KU a b
theorem tj(a b:Sd):(Jv (a.2.2.1*b.2.1 - b.2.2.1*a.2.1) (veZ a b),Jv (a.1*b.2.2.1 - b.1*a.2.2.1) (veZ a b))=ry (tri a) (tri b):=by
 unfold ry
 rw[u6,av,av,KP,KP,IV,IV,IV,IV]
 rfl
theorem zX{n:Nat}{a b:Sd}(ha:a.1.natAbs<2 ^ n∧a.2.1.natAbs<2 ^ n∧a.2.2.1.natAbs<2 ^ n)(hb:b.1.natAbs<2 ^ n∧b.2.1.natAbs<2 ^ n∧b.2.2.1.natAbs<2 ^ n)(hv:veZ a b≠0):sz (ry (tri a) (tri b)).1≤2*n+1∧sz (ry (tri a) (tri b)).2≤2*n+1:=by
 have sub:∀{x y z w:Int},x.natAbs<2 ^ n→y.natAbs<2 ^ n→z.natAbs<2 ^ n→w.natAbs<2 ^ n→(x*y - z*w).natAbs<2 ^ (2*n+1):=fun{x y z w} h1 h2 h3 h4=>by
  have e1:=g9 h1 h2
  have e2:=g9 h3 h4
  have:=MD (x*y) (z*w)
  rw[show 2*n+1=n+n+1 by omega,Lo]
  omega
 rw[← tj]
 have hve:(veZ a b).natAbs<2 ^ (2*n+1):=sub ha.1 hb.2.1 ha.2.1 hb.1
 exact⟨cF (by omega) (sub ha.2.2 hb.2.1 hb.2.2 ha.2.1) hve hv,cF (by omega) (sub ha.1 hb.2.2 hb.1 ha.2.2) hve hv⟩
theorem cq{rs:List (Rat × Rat)}(h:rs≠[]):∀ i,i≤rs.length→D3 rs i<rs.length
 | 0,_=>by
  cases rs with
  | nil=>exact absurd rfl h
  | cons a r=>exact Nat.zero_lt_succ _
 | i+1,hi=>by
  unfold D3
  split
  ·omega
  ·exact cq h i (by omega)
theorem jZ{ls:List T3}(hok:∀ l∈ls,LineOk l):(L5 (g5 ls)).length≤2*ls.length+1:=by
 have:∀(h0:Sd) (ss:List Sd) (k:Nat) (o:Option Sd),(C7 h0 ss k o).length≤k:=fun h0 ss k=>by
  induction k with
  | zero=>intro o;exact IL _
  | succ k ih =>
   intro o
   cases o with
   | none=>exact Jr _
   | some h =>
    show(if 0<veZ h0 h then h :: C7 h0 ss k (A0 h ss)else[]).length≤k+1
    split
    ·rw[IA];have:=ih (A0 h ss);omega
    ·exact Jr _
 have e:=aP ls 0
 unfold g5
 cases es:K2 0 ls with
 | nil=>exact Jr _
 | cons s r =>
  rw[es]at e
  show(C7 _ _ _ _).length+1≤_
  have:=this (u9 (s :: r) s) (s :: r) (s :: r).length (A0 (u9 (s :: r) s) (s :: r))
  omega
theorem oY{ds:List D}{n:Nat}:DL.K0 ds (some (n:Int)) none=ds.drop n:=by
 unfold DL.K0 HT.sIx
 have h1:¬ ((n:Int)<0):=by omega
 simp only[h1,if_false]
 rw[show((n:Int)).toNat=n from rfl]
 by_cases h:n≤ds.length
 ·rw[Nd h,JD (by rw[Jq];exact IL _)]
 ·rw[MT (by omega),LO (IL _),LO (by omega)]
  simp
theorem CF{x:D}{xs:List D}:DL.K0 (x :: xs) (some 1) none=xs:=by
 have:=oY (ds:=x :: xs) (n:=1)
 exact this
theorem qx:∀(a b:List Sd),Q4 (a.map sdD) (b.map sdD)=(a.zip b).map fun ab=>D.tup [sdD ab.1,sdD ab.2]
 | [],_=>rfl
 | _ :: _,[]=>rfl
 | x :: a,y :: b=>by
  show D.tup [sdD x,sdD y] :: Q4 (a.map sdD) (b.map sdD)=_
  rw[qx a b];rfl
theorem jC(h0:Sd)(l:List Sd):(y4 h0 l).length=l.length+1:=by
 unfold y4
 rw[ID,JB,IA,IX]
 simp
end GM
namespace GM
open PySem PySem.Spec L2 DL
open RM (sz)
theorem EW{a q:Rat}(h:q≠0):a / q*q=a:=Jo h
theorem Rim.neg{ss:List T3}{h0:T3}{l:List T3}{z:Rat × Rat}(h:z∈aH h0 l):ngZ z∈aH h0 l:=by
 have nn:∀ z:Rat × Rat,ngZ (ngZ z)=z:=fun z=>by
  unfold ngZ;exact Prod.ext (by show - -z.1=z.1;grind) (by show - -z.2=z.2;grind)
 rcases Jc.mp h with h|h
 ·obtain⟨ab,hab,rfl⟩:=IJ.mp h
  exact IW _ (IJ.mpr ⟨ab,hab,rfl⟩)
 ·obtain⟨ab,hab,rfl⟩:=IJ.mp h
  rw[nn]
  exact JM _ (IJ.mpr ⟨ab,hab,rfl⟩)
theorem above{ls:List T3}{h0:T3}{r:List T3}(R:Rim ((g5 ls).map tri) h0 r)(hok:∀ l∈ls,LineOk l):∃ z∈aH h0 r,0<z.1:=by
 have eps:∀(l:List T3),(∀ x∈l,LineOk x)→∃ e:Rat,0<e∧∀ x∈l,R7 x e 0=true:=fun l=>by
  induction l with
  | nil=>exact fun _=>⟨1,by decide,fun _ h=>nomatch h⟩
  | cons x l ih =>
   intro h
   obtain⟨e,e0,he⟩:=ih fun y hy=>h y (IC _ hy)
   have hr:=(h x IG).pos
   have small:∀{y:T3} {e e':Rat},R7 y e 0=true→0≤e'→e'≤e→0<e→R7 y e' 0=true:=fun{y e e'} k z1 z2 z3=>by
    rw[D5]at k ⊢
    rw[Md,Me]at k ⊢
    obtain⟨k1,k2⟩:=k
    have m1:0≤e'*(y.2.2 - y.1*e):=IH z1 (by grind)
    have m2:0≤e'*(y.2.2+y.1*e):=IH z1 (by grind)
    have r0:0≤y.2.2:=by grind
    have m3:0≤y.2.2*(e - e'):=IH r0 (by grind)
    have u1:0≤e*(y.2.2 - y.1*e'):=by grind
    have u2:=u0 z3 u1
    have u3:0≤e*(y.2.2+y.1*e'):=by grind
    have u4:=u0 z3 u3
    exact⟨by grind,by grind⟩
   by_cases p0:x.1=0
   ·refine⟨e,e0,fun y hy=>?_⟩
    rcases IE.mp hy with rfl|hy
    ·rw[D5,p0];exact⟨by grind,by grind⟩
    ·exact he y hy
   ·have ap:0<C4 x.1:=pz p0
    have dd:=EW (a:=x.2.2) (A6 ap)
    have t0:0<x.2.2 / C4 x.1:=by
     rcases tot (x.2.2 / C4 x.1) 0 with z|z
     ·have:=IH (show 0 ≤ -(x.2.2 / C4 x.1)by grind) (E1 ap)
      grind
     ·by_cases z0:x.2.2 / C4 x.1=0
      ·rw[z0]at dd;grind
      ·grind
    have lx:R7 x (x.2.2 / C4 x.1) 0=true:=by
     rw[D5,Md,Me]
     generalize x.2.2 / C4 x.1=t at *
     unfold C4 at dd
     have x0:0≤x.2.2:=by grind
     split at dd
     ·exact⟨by grind,by grind⟩
     ·exact⟨by grind,by grind⟩
    by_cases c:x.2.2 / C4 x.1≤e
    ·refine⟨_,t0,fun y hy=>?_⟩
     rcases IE.mp hy with rfl|hy
     ·exact lx
     ·exact small (he y hy) (E1 t0) c e0
    ·refine⟨e,e0,fun y hy=>?_⟩
     rcases IE.mp hy with rfl|hy
     ·exact small lx (E1 e0) (by grind) t0
     ·exact he y hy
 obtain⟨e,e0,he⟩:=eps ls hok
 obtain⟨c,hc,_,hm⟩:=R.most (1,0,0) (fun z=>by have:=z.1;revert this;decide)
 have:=hm (e,0) ((S8 ls (e,0)).mpr (by unfold B6;rw[Kl];exact he))
 unfold dt at this
 exact⟨c,hc,by grind⟩
noncomputable def Cs(xs:List Rat)(a:Rat):List Rat:=if a∈xs then xs else xs.filter (fun b=>decide (b<a))++[a]++xs.drop (xs.filter fun b=>decide (b<a)).length
def Ris(xs:List Rat):Prop:=xs.Pairwise (· < ·)
theorem Ris.cut{xs:List Rat}(h:Ris xs)(a:Rat):xs.filter (fun b=>decide (b<a))++xs.drop (xs.filter fun b=>decide (b<a)).length=xs∧∀ y∈xs.drop (xs.filter fun b=>decide (b<a)).length,¬ y<a:=by
 induction xs with
 | nil=>exact⟨rfl,fun _ h=>nomatch h⟩
 | cons x xs ih =>
  obtain⟨h1,h2⟩:=JL.mp h
  obtain⟨i1,i2⟩:=ih h2
  by_cases c:x<a
  ·rw[Jp (by simpa using c),IA,List.drop_succ_cons]
   exact⟨by rw[MU,i1],i2⟩
  ·have e:xs.filter (fun b=>decide (b<a))=[]:=by
    rw[List.filter_eq_nil_iff]
    intro y hy
    have:=h1 y hy
    simp only[decide_eq_true_eq]
    grind
   rw[Jz (by simpa using c),e]
   refine⟨rfl,fun y hy=>?_⟩
   rcases IE.mp hy with rfl|hy
   ·exact c
   ·have:=h1 y hy;grind
theorem Ris.ins{xs:List Rat}(h:Ris xs)(a:Rat):Ris (Cs xs a)∧∀ y,y∈Cs xs a↔y∈xs∨y=a:=by
 unfold Cs
 split
 ·rename_i ha
  exact⟨h,fun y=>⟨.inl,fun z=>z.elim id fun e=>e▸ha⟩⟩
 ·rename_i ha
  obtain⟨e,hd⟩:=h.cut a
  generalize hl:xs.filter (fun b=>decide (b<a))=lo at *
  generalize hu:xs.drop lo.length=up at *
  have hlo:∀ y∈lo,y<a:=fun y hy=>by
   rw[← hl]at hy
   simpa using(LQ.mp hy).2
  have hup:∀ y∈up,a<y:=fun y hy=>by
   have h1:=hd y hy
   have h2:y≠a:=fun z=>ha (by rw[← e,← z];exact IW _ hy)
   grind
  have hp:Ris (lo++up):=by rw[e];exact h
  obtain⟨p1,p2,p3⟩:=Le.mp hp
  refine⟨?_,fun y=>?_⟩
  ·refine Le.mpr ⟨Le.mpr ⟨p1,List.pairwise_singleton _ _,fun x hx y hy=>?_⟩,p2,fun x hx y hy=>?_⟩
   ·rw[Ja.mp hy];exact hlo x hx
   ·rcases Jc.mp hx with hx|hx
    ·exact p3 x hx y hy
    ·rw[Ja.mp hx];exact hup y hy
  ·rw[← e]
   simp only[Jc,Ja]
   grind
theorem CD.led5{S k:Nat}{x:Str × Rat}{a b c d:Rat}(h:CD S a b c d)(hx:sz x.2≤k):CD (S+(k+1)) (y7 x a c).1 (y7 x b d).1 (y7 x a c).2 (y7 x b d).2:=by
 unfold y7
 by_cases h1:x.1 = "gap"
 ·rw[if_pos h1,if_pos h1];exact h.step hx
 ·rw[if_neg h1,if_neg h1]
  by_cases h2:x.1 = "glass"
  ·rw[if_pos h2,if_pos h2]
   have:=(h.swap.step (q:=-x.2) (k:=k) (by rw[RM.I0];exact hx)).swap
   have e:∀ u v:Rat,u + -x.2*v=u - x.2*v:=fun u v=>by grind
   rw[e,e]at this
   exact this
  ·rw[if_neg h2,if_neg h2];exact h.mono (by omega)
theorem nU{bs:List (Str × Rat)}(hb:∀ x∈bs,w6 x):CD (1+42*bs.length) (f6 bs (1,0)).1 (f6 bs (0,1)).1 (f6 bs (1,0)).2 (f6 bs (0,1)).2:=by
 have gen:∀(bs:List (Str × Rat)) (S:Nat) (a b c d:Rat),(∀ x∈bs,w6 x)→CD S a b c d→CD (S+42*bs.length) (f6 bs (a,c)).1 (f6 bs (b,d)).1 (f6 bs (a,c)).2 (f6 bs (b,d)).2:=by
  intro bs
  induction bs with
  | nil=>intro S a b c d _ h;exact h.mono (by simp)
  | cons x r ih =>
   intro S a b c d hb h
   have h1:=h.led5 (hb x IG).sz
   have h2:=ih _ _ _ _ _ (fun z hz=>hb z (IC _ hz)) h1
   exact h2.mono (by simp only[IA];omega)
 exact gen bs 1 1 0 0 1 hb CD.one
theorem V6(bs:List (Str × Rat)):(f6 bs (1,0)).1*(f6 bs (0,1)).2 - (f6 bs (0,1)).1*(f6 bs (1,0)).2=1:=by
 have gen:∀(bs:List (Str × Rat)) (a b c d:Rat),a*d - b*c=1→(f6 bs (a,c)).1*(f6 bs (b,d)).2 - (f6 bs (b,d)).1*(f6 bs (a,c)).2=1:=by
  intro bs
  induction bs with
  | nil=>intro a b c d h;exact h
  | cons x r ih =>
   intro a b c d h
   refine ih (y7 x a c).1 (y7 x b d).1 (y7 x a c).2 (y7 x b d).2 ?_
   unfold y7
   by_cases h1:x.1 = "gap"
   ·rw[if_pos h1,if_pos h1];grind
   ·rw[if_neg h1,if_neg h1]
    by_cases h2:x.1 = "glass"
    ·rw[if_pos h2,if_pos h2];grind
    ·rw[if_neg h2,if_neg h2];exact h
 exact gen bs 1 0 0 1 (by grind)
theorem uv{bs:List (Str × Rat)}(hok:∀ x∈bs,w6 x):∀ i,∀ l∈v6 bs i,∃(j:Nat) (r:Rat),l=((f6 (bs.take j) (1,0)).1,(f6 (bs.take j) (0,1)).1,r)∧0<r∧sz r≤41
 | 0,l,h=>by cases h
 | i+1,l,h=>by
  rcases Jc.mp h with h|h
  ·exact uv hok i l h
  ·cases e:bs[i]? with
   | none=>rw[e]at h;cases h
   | some x =>
    replace h:l∈(if x.1 = "stop" then[((f6 (bs.take i) (1,0)).1,(f6 (bs.take i) (0,1)).1,x.2)]else[]):=by rw[e]at h;exact h
    by_cases hx:x.1 = "stop"
    ·rw[if_pos hx]at h
     have ok:=hok x (IU e)
     refine⟨i,x.2,Ja.mp h,?_,ok.sz⟩
     rcases ok.kind with⟨z,_⟩|z|⟨_,z⟩
     ·rw[z]at hx;exact absurd hx (by decide)
     ·rw[z]at hx;exact absurd hx (by decide)
     ·exact z
    ·rw[if_neg hx]at h;cases h
theorem kN{q:Rat}{c N:Nat}{A:Int}(hd:q.den ∣ c)(hc:c ∣ N)(hN:0<N)(e:q*(N:Rat)=(A:Rat)):(az q c).natAbs≤A.natAbs:=by
 obtain⟨m,rfl⟩:=hc
 have h1:=aL hd
 have e2:(A:Rat)=((az q c*(m:Int):Int):Rat):=by
  rw[IV,h1,← e,Jy,Jf];grind
 have e3:A=az q c*(m:Int):=Ll.mp e2
 rw[e3,JF,IK]
 exact Nat.le_mul_of_pos_right _ (My fun z=>by rw[z]at hN;simp at hN)
theorem gR{q:Rat}{N:Nat}{A:Int}(e:q*(N:Rat)=(A:Rat)):q.den ∣ N:=by
 have e1:=G5 q
 have e2:((q.num*(N:Int):Int):Rat)=((A*(q.den:Int):Int):Rat):=by
  rw[IV,IV,← e1,← e,Jf,Jf];grind
 have e3:q.num*(N:Int)=A*(q.den:Int):=Ll.mp e2
 have e4:q.num.natAbs*N=A.natAbs*q.den:=by
  have:=congrArg Int.natAbs e3
  rwa [JF,JF,IK,IK]at this
 have e5:q.den ∣ q.num.natAbs*N:=⟨A.natAbs,by rw[e4,MM]⟩
 exact Nat.Coprime.dvd_of_dvd_mul_left (Nat.Coprime.symm q.reduced) e5
structure LS5(l:T3):Prop where
 p:sz l.1≤505
 q:sz l.2.1≤547
 r:sz l.2.2≤41
def Di(n:Nat)(s:Sd):Prop:=s.1.natAbs<2 ^ n∧s.2.1.natAbs<2 ^ n∧s.2.2.1.natAbs<2 ^ n
theorem jh{bs:List (Str × Rat)}{x:Rat}(hl:bs.length≤12)(hok:∀ x∈bs,w6 x)(hx:sz x≤41):∀ l∈T0 bs x,LnOk l∧LS5 l∧Di 588 (i4 l 0):=fun l h=>by
 obtain⟨m,hm,rfl⟩:=IJ.mp h
 obtain⟨j,r,rfl,r0,hr⟩:=uv hok bs.length m hm
 have cd:=nU (bs:=bs.take j) fun x hx=>hok x (Jm hx)
 have dt1:=V6 (bs.take j)
 have hlen:(bs.take j).length≤12:=by rw[Jg];omega
 have cd:=cd.mono (show 1+42*(bs.take j).length≤505 by omega)
 show LnOk ((f6 (bs.take j) (1,0)).1,(f6 (bs.take j) (1,0)).1*x+(f6 (bs.take j) (0,1)).1,r)∧_
 generalize (f6 (bs.take j) (1,0)).1=p at *
 generalize (f6 (bs.take j) (0,1)).1=q at *
 obtain⟨A,B,C,E,D,h0,hd,⟨h1,h2,_,_⟩,e1,e2,_,_⟩:=cd.ex
 have xn:=G4 x hx
 have xd:=B1 x hx
 have rn:=G4 r hr
 have rd:=B1 r hr
 have ex:=G5 x
 have er:=G5 r
 have xd':(x.den:Int).natAbs<2 ^ 41:=by rw[IK];exact xd
 have rd':(r.den:Int).natAbs<2 ^ 41:=by rw[IK];exact rd
 have p1:p*((D*x.den:Nat):Rat)=((A*(x.den:Int):Int):Rat):=by
  rw[Jy,IV,Jf,← e1];grind
 have q1:(p*x+q)*((D*x.den:Nat):Rat)=((A*x.num+B*(x.den:Int):Int):Rat):=by
  rw[Jy,LW,IV,IV,Jf,← e1,← e2,← ex];grind
 have bp:(A*(x.den:Int)).natAbs<2 ^ 546:=g9 h1 xd'
 have bq:(A*x.num+B*(x.den:Int)).natAbs<2 ^ 547:=R8 (g9 h1 xn) (g9 h2 xd')
 have bd:D*x.den<2 ^ 546:=B4 hd xd
 have d0:D*x.den≠0:=KO h0 x.den_nz
 have sp:sz p≤505:=eU (by decide) h0 hd e1 h1
 have sq:sz (p*x+q)≤547:=eU (by decide) d0 (Mf bd (by decide)) q1 bq
 generalize p*x+q=q' at *
 have np:¬ (p=0∧q'=0):=fun⟨z1,z2⟩=>by
  have hA:A=0:=by
   rw[z1,Rat.zero_mul]at e1
   exact Ll.mp (by rw[← e1];rfl)
  have hB:B*(x.den:Int)=0:=by
   rw[z2,Rat.zero_mul,hA,Mb,Int.zero_add]at q1
   exact Ll.mp (by rw[← q1];rfl)
  have hB0:B=0:=(KQ.mp hB).resolve_right (by have:=x.den_nz;omega)
  rw[hB0]at e2
  have dn:(D:Rat)≠0:=by intro z;exact h0 (by exact_mod_cast z)
  have q0:q=0:=by
   have:q*(D:Rat)=0:=e2
   grind
  rw[z1,q0]at dt1
  grind
 have np':0<D*x.den*r.den:=Nat.mul_pos (My d0) r.den_pos
 have p2:p*((D*x.den*r.den:Nat):Rat)=((A*(x.den:Int)*(r.den:Int):Int):Rat):=by
  rw[Jy,← Rat.mul_assoc,p1,IV (A*(x.den:Int)),Jf]
 have q2:q'*((D*x.den*r.den:Nat):Rat)=(((A*x.num+B*(x.den:Int))*(r.den:Int):Int):Rat):=by
  rw[Jy,← Rat.mul_assoc,q1,IV,Jf]
 have r2:r*((D*x.den*r.den:Nat):Rat)=((((D*x.den:Nat):Int)*r.num:Int):Rat):=by
  rw[Jy,IV,Jf,← er];grind
 have cdv:cbL (p,q',r) ∣ D*x.den*r.den:=by
  rw[cU]
  exact Nat.lcm_dvd (Nat.lcm_dvd (gR p2) (gR q2)) (gR r2)
 have tp:(az p (cbL (p,q',r))).natAbs<2 ^ 588:=Jl (kN (AA (p,q',r)) cdv np' p2) (Mf (g9 bp rd') (by decide))
 have tq:(az q' (cbL (p,q',r))).natAbs<2 ^ 588:=Jl (kN (Az (p,q',r)) cdv np' q2) (g9 bq rd')
 have tr:(az r (cbL (p,q',r))).natAbs<2 ^ 588:=Jl (kN (Ay (p,q',r)) cdv np' r2) (Mf (g9 (by rw[IK];exact bd) rn) (by decide))
 have up:∀{n:Nat},n<2 ^ 588→n<2 ^ 1200:=fun h=>Mf h (by decide)
 exact⟨⟨⟨np,r0⟩,by show sz p≤1300;omega,by show sz q'≤1300;omega,by show sz r≤1300;omega,⟨up tp,up tq,up tr⟩⟩,⟨sp,sq,hr⟩,tp,tq,tr⟩
theorem xo{bs:List (Str × Rat)}{x:Rat}(hl:bs.length≤12)(hok:∀ x∈bs,w6 x)(hx:sz x≤41):qv (T0 bs x) :=
 ⟨IT (eD bs x) hl,fun l h=>(jh hl hok hx l h).1⟩
theorem CJ{ls:List T3}{n:Nat}(hok:∀ l∈ls,LineOk l)(hb:∀ l∈ls,Di n (i4 l 0)){cs:List (Rat × Rat)}(e:F6 ls=some cs):cs.length≤4*ls.length+2∧∀ z∈cs,sz z.1≤2*n+1∧sz z.2≤2*n+1:=by
 have hne:ls≠[]:=fun z=>by rw[z]at e;cases e
 have bs:∀ s∈g5 ls,Di n s:=fun s hs=>by
  obtain⟨l,hl,j,es⟩:=E3 hs
  obtain⟨a,b,c⟩:=hb l hl
  rcases es with rfl|rfl
  ·exact⟨a,b,c⟩
  ·exact⟨by show(-(i4 l j).1).natAbs<_;rw[JQ];exact a,by show(-(i4 l j).2.1).natAbs<_;rw[JQ];exact b,c⟩
 obtain⟨h0,l,eh,m0,h⟩:=J9 hok hne
 have hlen:=jZ hok
 unfold F6 at e
 rw[eh]at e hlen
 cases l with
 | nil=>cases e
 | cons x l =>
  have e:=Option.some.inj e
  rcases h with⟨z,_⟩|⟨_,_,h⟩
  ·cases z
  have rl:=jC h0 (x :: l)
  have hz:∀ z∈y4 h0 (x :: l),sz z.1≤2*n+1∧sz z.2≤2*n+1:=fun z hz=>by
   obtain⟨ab,hab,rfl⟩:=IJ.mp hz
   obtain⟨q1,q2,q3⟩:=h ab hab
   exact zX (bs _ q1) (bs _ q2) (by omega)
  refine⟨?_,fun z hzc=>?_⟩
  ·rw[← e]
   unfold Y6
   rw[IX,Jq,Jg,IX,ID,rl]
   simp only[IA]at hlen ⊢
   omega
  ·rw[← e,V3]at hzc
   rcases Jc.mp hzc with hzc|hzc
   ·exact hz z hzc
   ·obtain⟨y,hy,rfl⟩:=IJ.mp hzc
    obtain⟨y1,y2⟩:=hz y hy
    exact⟨by show sz (-y.1)≤_;rw[RM.I0];exact y1,by show sz (-y.2)≤_;rw[RM.I0];exact y2⟩
theorem E8{xs ys:List Rat}:xs.map f7=ys.map f7↔xs=ys:=Ju (fun _ _ h=>g8.mp h)
local macro_rules|`(tactic| walk_at "inj")=>`(tactic| (rename_i e h;simp only[List.cons.injEq,GM.E8,and_true,true_and,GM.g8,GM.h8,GM.g6,GM.h9,GM.g7,D.tup.injEq,D.ref.injEq,D.int.injEq,D.str.injEq,D.bl.injEq,D.vl.injEq,IZ,and_assoc]at e;(repeat(obtain⟨e1,e⟩:=e;subst e1));subst e;exact h))
local macro_rules|`(tactic| walk_at "injs")=>`(tactic| (rename_i e o h;rcases o with o|o<;>(subst o;first|(exfalso;simp only[D.tup.injEq,List.cons.injEq,reduceCtorEq,false_and,and_false]at e;done)|(simp only[List.cons.injEq,GM.E8,and_true,true_and,GM.g8,GM.h8,GM.g6,GM.h9,GM.g7,D.tup.injEq,D.ref.injEq,D.int.injEq,D.str.injEq,D.bl.injEq,D.vl.injEq,IZ,and_assoc]at e;(repeat(obtain⟨e1,e⟩:=e;subst e1));subst e;exact h))))
theorem qd{a b:Nat × Rat × Rat × Rat}:jT a=jT b↔a=b:=by
 constructor
 ·intro h
  unfold jT at h
  injection h with h
  injection h with h1 h
  injection h with h2 h
  injection h with h3 h
  injection h with h4 h
  injection h1 with h1
  exact Prod.ext (by omega) (Prod.ext (g8.mp h2) (Prod.ext (g8.mp h3) (g8.mp h4)))
 ·rintro rfl;rfl
theorem cG{xs ys:List (Nat × Rat × Rat × Rat)}:xs.map jT=ys.map jT↔xs=ys:=Ju (fun _ _ h=>qd.mp h)
end GM
namespace GM
open PySem PySem.Spec L2 DL
open RM (sz)
local macro_rules|`(tactic| walk_at "inj")=>`(tactic| (rename_i e h;simp only[List.cons.injEq,GM.cG,and_true,true_and,GM.g8,GM.h8,GM.g6,GM.h9,GM.g7,D.tup.injEq,D.ref.injEq,D.int.injEq,D.str.injEq,D.bl.injEq,D.vl.injEq,IZ,and_assoc]at e;(repeat(obtain⟨e1,e⟩:=e;subst e1));subst e;exact h))
local macro_rules|`(tactic| walk_at "injs")=>`(tactic| (rename_i e o h;rcases o with o|o<;>(subst o;first|(exfalso;simp only[D.tup.injEq,List.cons.injEq,reduceCtorEq,false_and,and_false]at e;done)|(simp only[List.cons.injEq,GM.cG,and_true,true_and,GM.g8,GM.h8,GM.g6,GM.h9,GM.g7,D.tup.injEq,D.ref.injEq,D.int.injEq,D.str.injEq,D.bl.injEq,D.vl.injEq,IZ,and_assoc]at e;(repeat(obtain⟨e1,e⟩:=e;subst e1));subst e;exact h))))
theorem oM:(1 / 2:Rat)=Jv 1 2:=by rw[KU];rfl
theorem uK:D.tup [.int 1,.int 2]=f7 (1 / 2):=by rw[oM];rfl
theorem gM:sz (1 / 2)≤3:=by rw[oM];decide
end GM
namespace GM
open PySem PySem.Spec L2 DL
open RM (sz)
noncomputable abbrev Zr:=Rat × Rat
noncomputable def cr(v w:Zr):Rat:=v.1*w.2 - v.2*w.1
theorem Aw(v w:Zr):cr (ngZ v) (ngZ w)=cr v w:=by unfold cr ngZ;grind
theorem eQ(v w:Zr):cr v (ngZ w) = -cr v w:=by unfold cr ngZ;grind
theorem Av(v w:Zr):cr (ngZ v) w = -cr v w:=by unfold cr ngZ;grind
theorem kn(v w:Zr):cr v w = -cr w v:=by unfold cr;grind
theorem gY(v:Zr):cr v v=0:=by unfold cr;grind
theorem bc(v:Zr):ngZ (ngZ v)=v:=by unfold ngZ;show(- -v.1,- -v.2)=v;rw[Mr,Mr]
theorem Fm{a b c:T3}(h1:ve a b≠0)(h2:ve b c≠0):ve a b*ve b c*cr (ry a b) (ry b c)=b.2.2*tn a b c:=by
 obtain⟨e1,e2⟩:=eF h1
 obtain⟨e3,e4⟩:=eF h2
 have:ve a b*ve b c*cr (ry a b) (ry b c)=(ve a b*(ry a b).1)*(ve b c*(ry b c).2) - (ve a b*(ry a b).2)*(ve b c*(ry b c).1):=by unfold cr;grind
 rw[this,e1,e2,e3,e4]
 unfold tn ve
 grind
theorem EV{a b c:T3}(h:T3)(h1:ve a b≠0)(h2:ve b c≠0):ve a b*ve b c*(dt h (ry a b) - dt h (ry b c))=ve h b*tn a b c:=by
 obtain⟨e1,e2⟩:=eF h1
 obtain⟨e3,e4⟩:=eF h2
 have:ve a b*ve b c*(dt h (ry a b) - dt h (ry b c))=ve b c*(h.1*(ve a b*(ry a b).1)+h.2.1*(ve a b*(ry a b).2)) - ve a b*(h.1*(ve b c*(ry b c).1)+h.2.1*(ve b c*(ry b c).2)):=by unfold dt;grind
 rw[this,e1,e2,e3,e4]
 unfold tn ve
 grind
theorem uY(s:T3)(v w x:Zr):cr v w*dt s x=cr x w*dt s v+cr v x*dt s w:=by unfold dt cr;grind
theorem mp{a b:Rat}(h1:0<a)(h2:0<b):0<a*b:=JU h1 h2
theorem P5{v x:Rat}(hv:0<v)(h:0<v*x):0<x:=by
 rcases tot x 0 with z|z
 ·have:0≤v*(-x):=IH (E1 hv) (by grind)
  grind
 ·by_cases e:x=0
  ·rw[e]at h;grind
  ·grind
structure Cn2(ss:List T3)(x:Zr):Prop where
 sup:Sup ss x
 two:∃ s t,s∈ss∧t∈ss∧ve s t≠0∧dt s x=s.2.2∧dt t x=t.2.2
theorem Cn2.ng{ss:List T3}(sy:∀ s∈ss,ng s∈ss){x:Zr}(h:Cn2 ss x):Cn2 ss (ngZ x):=by
 obtain⟨hs,s,t,ms,mt,hv,es,et⟩:=h
 refine⟨bR sy hs,GM.ng s,GM.ng t,sy s ms,sy t mt,?_,?_,?_⟩
 ·have:ve (GM.ng s) (GM.ng t)=ve s t:=by unfold ve GM.ng;grind
  rw[this];exact hv
 ·have:dt (GM.ng s) (ngZ x)=dt s x:=by unfold dt GM.ng ngZ;grind
  rw[this,es];rfl
 ·have:dt (GM.ng t) (ngZ x)=dt t x:=by unfold dt GM.ng ngZ;grind
  rw[this,et];rfl
theorem Eh{u x y:Rat}(hu:0<u)(h:x*u≤y*u):x≤y:=by
 have:0≤u*(y - x):=by grind
 have:=u0 hu this
 grind
theorem uo{ss:List T3}(pos:∀ s∈ss,0<s.2.2){b:T3}{v w:Zr}(hb:b∈ss)(bv:dt b v=b.2.2)(bw:dt b w=b.2.2)(sv:Sup ss v)(sw:Sup ss w)(hc:0<cr v w){x:Zr}(hx:Cn2 ss x)(h1:0<cr v x):x=w∨0<cr w x:=by
 by_cases h2:0<cr w x
 ·exact .inr h2
 left
 obtain⟨sx,s,t,ms,mt,hv,es,et⟩:=hx
 have h3:0≤cr x w:=by rw[kn];grind
 have hle:cr x w+cr v x≤cr v w:=by
  have e:=uY b v w x
  rw[bv,bw]at e
  have r:=pos b hb
  have q:=sx b hb
  have:cr v w*dt b x≤cr v w*b.2.2:=by
   have:0≤cr v w*(b.2.2 - dt b x):=IH (E1 hc) (by grind)
   grind
  refine Eh r ?_
  grind
 have key:∀ s∈ss,dt s x=s.2.2→dt s w=s.2.2:=fun s ms es=>by
  have e:=uY s v w x
  rw[es]at e
  have r:=pos s ms
  have q1:=sv s ms
  have q2:=sw s ms
  have p1:0≤cr x w*(s.2.2 - dt s v):=IH h3 (by grind)
  have p2:0≤cr v x*(s.2.2 - dt s w):=IH (E1 h1) (by grind)
  have p3:0≤(cr v w - (cr x w+cr v x))*s.2.2:=IH (by grind) (E1 r)
  have p4:cr v x*(s.2.2 - dt s w)=0:=by grind
  grind
 have e1:=key s ms es
 have e2:=key t mt et
 rw[ba hv es et,ba hv e1 e2]
structure F7(ss:List T3)(A:Nat→T3)(k:Nat):Prop where
 two:2≤k
 sy:∀ s∈ss,ng s∈ss
 pos:∀ s∈ss,0<s.2.2
 mem:∀ i,i≤k+1→A i∈ss
 ve:∀ i,i≤k→0<ve (A i) (A (i+1))
 sup:∀ i,i≤k→Sup ss (ry (A i) (A (i+1)))
 tn:∀ i,i<k→0<tn (A i) (A (i+1)) (A (i+2))
 up:∀ i,1≤i→i<k→0<GM.ve (A 0) (A i)
 lst:A k=ng (A 0)
 lst1:A (k+1)=ng (A 1)
noncomputable def rA(A:Nat→T3)(i:Nat):Zr:=ry (A i) (A (i+1))
section
variable {ss:List T3} {A:Nat→T3} {k:Nat}
theorem F7.rk(R:F7 ss A k):rA A k=ngZ (rA A 0):=by
 unfold rA;rw[R.lst,R.lst1,jz]
theorem F7.cn(R:F7 ss A k){i:Nat}(h:i≤k):Cn2 ss (rA A i) :=
 ⟨R.sup i h,A i,A (i+1),R.mem i (by omega),R.mem (i+1) (by omega),A6 (R.ve i h),jA (A6 (R.ve i h)),gh (A6 (R.ve i h))⟩
theorem F7.cr(R:F7 ss A k){i:Nat}(h:i<k):0<cr (rA A i) (rA A (i+1)):=by
 have v1:=R.ve i (by omega)
 have v2:=R.ve (i+1) (by omega)
 have e:=Fm (A6 v1) (A6 v2)
 have p:0<(A (i+1)).2.2*GM.tn (A i) (A (i+1)) (A (i+2)):=mp (R.pos _ (R.mem _ (by omega))) (R.tn i h)
 rw[← e]at p
 exact P5 (mp v1 v2) p
theorem F7.nxt(R:F7 ss A k){i:Nat}(h:i<k){x:Zr}(hx:Cn2 ss x)(h1:0<GM.cr (rA A i) x):x=rA A (i+1)∨0<GM.cr (rA A (i+1)) x :=
 uo R.pos (b:=A (i+1)) (R.mem _ (by omega)) (gh (A6 (R.ve i (by omega)))) (jA (A6 (R.ve (i+1) (by omega)))) (R.sup i (by omega)) (R.sup (i+1) (by omega)) (R.cr h) hx h1
theorem F7.down(R:F7 ss A k){i:Nat}(h:i+1<k):dt (A 0) (rA A (i+1))<dt (A 0) (rA A i):=by
 have v1:=R.ve i (by omega)
 have v2:=R.ve (i+1) (by omega)
 have e:=EV (A 0) (A6 v1) (A6 v2)
 have p:0<GM.ve (A 0) (A (i+1))*GM.tn (A i) (A (i+1)) (A (i+2)):=mp (R.up (i+1) (by omega) h) (R.tn i (by omega))
 rw[← e]at p
 have:=P5 (mp v1 v2) p
 unfold rA
 grind
theorem F7.down2(R:F7 ss A k):∀{i j:Nat},i<j→j<k→dt (A 0) (rA A j)<dt (A 0) (rA A i):=fun{i j}=>by
 induction j with
 | zero=>intro h;omega
 | succ j ih =>
  intro h1 h2
  have:=R.down h2
  by_cases e:i=j
  ·rw[e];exact this
  ·have:=ih (by omega) (by omega)
   grind
theorem F7.up0(R:F7 ss A k):∀{i:Nat},1≤i→i<k→0<GM.cr (rA A 0) (rA A i):=fun{i}=>by
 induction i with
 | zero=>intro h;omega
 | succ i ih =>
  intro _ h2
  by_cases e:i=0
  ·rw[e];exact R.cr (by omega)
  have h:=ih (by omega) (by omega)
  by_cases hc:0<GM.cr (rA A 0) (rA A (i+1))
  ·exact hc
  exfalso
  have hx:Cn2 ss (ngZ (rA A 0)):=(R.cn (Jr _)).ng R.sy
  have e1:GM.cr (rA A i) (ngZ (rA A 0))=GM.cr (rA A 0) (rA A i):=by rw[eQ,kn];grind
  have e2:GM.cr (rA A (i+1)) (ngZ (rA A 0))=GM.cr (rA A 0) (rA A (i+1)):=by rw[eQ,kn];grind
  rcases R.nxt (i:=i) (by omega) hx (by rw[e1];exact h)with z|z
  ·have ek:GM.cr (rA A (k - 1)) (ngZ (rA A 0))=GM.cr (rA A 0) (rA A (k - 1)):=by rw[eQ,kn];grind
   have ck:=R.cr (i:=k - 1) (by have:=R.two;omega)
   rw[show k - 1+1=k by have:=R.two;omega,R.rk]at ck
   have l0:dt (A 0) (ngZ (rA A 0)) = -dt (A 0) (rA A 0):=by unfold dt ngZ;grind
   have l1:dt (A 0) (rA A 0)=(A 0).2.2:=jA (A6 (R.ve 0 (by omega)))
   have lk:dt (A 0) (rA A (k - 1)) = -(A 0).2.2:=by
    have:=gh (A6 (R.ve (k - 1) (by omega)))
    rw[show k - 1+1=k by have:=R.two;omega,R.lst]at this
    have e3:dt (ng (A 0)) (ry (A (k - 1)) (ng (A 0))) = -dt (A 0) (ry (A (k - 1)) (ng (A 0))):=by unfold dt ng;grind
    rw[e3]at this
    have e4:(ng (A 0)).2.2=(A 0).2.2:=rfl
    rw[e4]at this
    unfold rA
    rw[show k - 1+1=k by have:=R.two;omega,R.lst]
    grind
   rw[z,l1]at l0
   by_cases ei:i+1=k - 1
   ·rw[← ei,← z,gY]at ck;grind
   ·have:=R.down2 (i:=i+1) (j:=k - 1) (by omega) (by omega)
    grind
  ·rw[e2]at z;exact hc z
end
noncomputable def nth(L:List Zr)(i:Nat):Zr:=L.getD (i % L.length) (0,0)
structure Chn(L:List Zr):Prop where
 cr:∀ i,0<cr (nth L i) (nth L (i+1))
 nxt:∀ i,∀ x∈L,0<GM.cr (nth L i) x→x=nth L (i+1)∨0<GM.cr (nth L (i+1)) x
 nd:∀ i j,i<j→j<L.length→nth L i≠nth L j
theorem o7{L:List Zr}(h:L≠[])(i:Nat):nth L i∈L:=by
 have hl:0<L.length:=Kj.mpr h
 unfold nth
 rw[IQ,IS (Kf _ hl)]
 exact Kw _
theorem Fv{L M:List Zr}(hL:Chn L)(hM:Chn M)(nL:L≠[])(nM:M≠[])(hs:∀ z,z∈L↔z∈M)(h0:nth L 0=nth M 0):L=M:=by
 have same:∀ i,nth L i=nth M i:=fun i=>by
  induction i with
  | zero=>exact h0
  | succ i ih =>
   have a1:=hL.cr i
   have a2:=hM.cr i
   rw[← ih]at a2
   have b1:=hL.nxt i (nth M (i+1)) ((hs _).mpr (o7 nM _)) a2
   have b2:=hM.nxt i (nth L (i+1)) ((hs _).mp (o7 nL _)) (by rw[← ih];exact a1)
   rcases b1 with e|b1
   ·exact e.symm
   ·rcases b2 with e|b2
    ·exact e
    ·rw[kn]at b2;grind
 have pL:0<L.length:=Kj.mpr nL
 have pM:0<M.length:=Kj.mpr nM
 have per:∀(K:List Zr),nth K K.length=nth K 0:=fun K=>by unfold nth;rw[MN,Nat.zero_mod]
 have ll:L.length=M.length:=by
  rcases Nat.lt_trichotomy L.length M.length with h|h|h
  ·exact absurd (by rw[← same 0,← same L.length,per L]) (hM.nd 0 L.length pL h)
  ·exact h
  ·exact absurd (by rw[same 0,same M.length,per M]) (hL.nd 0 M.length pM h)
 refine Kk ll fun i h1 h2=>?_
 have:=same i
 unfold nth at this
 rw[Jt h1,Jt h2,IQ,IQ,IS h1,IS h2]at this
 exact this
theorem Z1{L:List Zr}{i:Nat}(h:i<L.length):nth L i=L[i]:=by
 unfold nth
 rw[Jt h,IQ,IS h];rfl
theorem B0(L:List Zr){n:Nat}(hn:n<L.length)(i:Nat):nth (L.drop n++L.take n) i=nth L (i+n):=by
 have hl:(L.drop n++L.take n).length=L.length:=by rw[IX,Jq,Jg];omega
 have hi:i % L.length<L.length:=Kf _ (by omega)
 unfold nth
 rw[hl,IQ,IQ]
 congr 1
 rw[show(i+n) % L.length=(i % L.length+n) % L.length by rw[Nf]]
 generalize i % L.length=j at *
 by_cases c:j<L.length - n
 ·rw[Kb (by rw[Jq];exact c),List.getElem?_drop,Jt (by omega),Ls]
 ·rw[JC (by rw[Jq];omega),Jq,Lw (by omega),show(j+n) % L.length=j+n - L.length by rw[Mz (by omega),Jt (by omega)]]
  congr 1;omega
theorem Chn.rot{L:List Zr}(h:Chn L){n:Nat}(hn:n<L.length):Chn (L.drop n++L.take n):=by
 have hl:(L.drop n++L.take n).length=L.length:=by rw[IX,Jq,Jg];omega
 have hm:∀ z,z∈L.drop n++L.take n↔z∈L:=fun z=>by rw[Jc,Or.comm,← Jc,Lb]
 refine⟨fun i=>?_,fun i x hx h1=>?_,fun i j h1 h2=>?_⟩
 ·rw[B0 L hn,B0 L hn,show i+1+n=i+n+1 by omega];exact h.cr _
 ·rw[B0 L hn]at h1
  rw[B0 L hn,show i+1+n=i+n+1 by omega]
  exact h.nxt _ x ((hm x).mp hx) h1
 ·rw[B0 L hn,B0 L hn]
  rw[hl]at h2
  have md:∀ a,a<L.length→nth L (a+n)=if a+n<L.length then nth L (a+n)else nth L (a+n - L.length):=fun a ha=>by
   split
   ·rfl
   ·unfold nth
    rw[Mz (by omega)]
  rw[md i (by omega),md j h2]
  split<;>split
  ·exact h.nd _ _ (by omega) (by omega)
  ·exact fun e=>h.nd (j+n - L.length) (i+n) (by omega) (by omega) e.symm
  ·omega
  ·exact h.nd _ _ (by omega) (by omega)
noncomputable def C6(A:Nat→T3)(k:Nat):List Zr:=(JK k).map (rA A)++(JK k).map fun i=>ngZ (rA A i)
noncomputable def vA(A:Nat→T3)(k j:Nat):Zr:=if j<k then rA A j else ngZ (rA A (j - k))
section
variable {ss:List T3} {A:Nat→T3} {k:Nat}
theorem V4:(C6 A k).length=2*k:=by unfold C6;rw[IX,ID,ID,JR];omega
theorem B9(hk:0<k)(i:Nat):nth (C6 A k) i=vA A k (i % (2*k)):=by
 have hi:i % (2*k)<2*k:=Kf _ (by omega)
 unfold nth
 rw[V4,IQ]
 generalize i % (2*k)=j at *
 unfold C6 vA
 split
 ·rename_i h
  rw[Kb (by rw[ID,JR];exact h),Jb,Mu h];rfl
 ·rename_i h
  rw[JC (by rw[ID,JR];omega),ID,JR,Jb,Mu (by omega)];rfl
theorem F7.v1(R:F7 ss A k){j:Nat}(_h:j<2*k):vA A k (if j+1=2*k then 0 else j+1)=if j<k then rA A (j+1)else ngZ (rA A (j+1 - k)):=by
 have h2:=R.two
 unfold vA
 by_cases h1:j+1=2*k
 ·rw[if_pos h1,if_pos (by omega),if_neg (by omega),show j+1 - k=k by omega,R.rk,bc]
 ·rw[if_neg h1]
  by_cases h3:j+1<k
  ·rw[if_pos h3,if_pos (by omega)]
  ·rw[if_neg h3]
   by_cases h4:j<k
   ·rw[if_pos h4,show j+1=k by omega,R.rk,Nat.sub_self]
   ·rw[if_neg h4]
theorem jS{i n:Nat}(hn:0<n):(i+1) % n=if i % n+1=n then 0 else i % n+1:=by
 have h:=Kf i hn
 rw[← Nf]
 split
 ·rename_i e;rw[e,MN]
 ·exact Jt (by omega)
theorem nO(R:F7 ss A k){x:Zr}(h:x∈C6 A k):Cn2 ss x:=by
 unfold C6 at h
 rcases Jc.mp h with h|h
 ·obtain⟨i,hi,rfl⟩:=IJ.mp h
  exact R.cn (by have:=KW.mp hi;omega)
 ·obtain⟨i,hi,rfl⟩:=IJ.mp h
  exact(R.cn (by have:=KW.mp hi;omega)).ng R.sy
theorem F7.chn(R:F7 ss A k):Chn (C6 A k):=by
 have h2:=R.two
 have st:∀ i,nth (C6 A k) (i+1)=if i % (2*k)<k then rA A (i % (2*k)+1)else ngZ (rA A (i % (2*k)+1 - k)):=fun i=>by
  rw[B9 (by omega),jS (by omega),R.v1 (Kf _ (by omega))]
 refine⟨fun i=>?_,fun i x hx h1=>?_,fun i j hij hj=>?_⟩
 ·rw[B9 (by omega),st]
  have hi:i % (2*k)<2*k:=Kf _ (by omega)
  generalize i % (2*k)=j at *
  unfold vA
  by_cases h:j<k
  ·rw[if_pos h,if_pos h];exact R.cr h
  ·rw[if_neg h,if_neg h,Aw,show j+1 - k=j - k+1 by omega];exact R.cr (by omega)
 ·have cx:=nO R hx
  rw[B9 (by omega)]at h1
  rw[st]
  have hi:i % (2*k)<2*k:=Kf _ (by omega)
  generalize i % (2*k)=j at *
  unfold vA at h1
  by_cases h:j<k
  ·rw[if_pos h]at h1
   rw[if_pos h]
   exact R.nxt h cx h1
  ·rw[if_neg h]at h1
   rw[if_neg h,show j+1 - k=j - k+1 by omega]
   have e1:GM.cr (rA A (j - k)) (ngZ x)=GM.cr (ngZ (rA A (j - k))) x:=by rw[eQ,Av]
   have e2:GM.cr (rA A (j - k+1)) (ngZ x)=GM.cr (ngZ (rA A (j - k+1))) x:=by rw[eQ,Av]
   rcases R.nxt (i:=j - k) (by omega) (cx.ng R.sy) (by rw[e1];exact h1)with z|z
   ·left;rw[← z,bc]
   ·right;rw[← e2];exact z
 ·rw[V4]at hj
  rw[B9 (by omega),B9 (by omega),Jt (by omega),Jt hj]
  have inj:∀{a b:Nat},a<b→b<k→rA A a≠rA A b:=fun{a b} h1 h2 e=>by
   have:=R.down2 h1 h2
   rw[e]at this;grind
  have nz:∀{a b:Nat},a<k→b<k→rA A a≠ngZ (rA A b):=fun{a b} h1 h2 e=>by
   have ca:GM.cr (rA A 0) (rA A a)=GM.cr (rA A 0) (ngZ (rA A b)):=by rw[← e]
   rw[eQ]at ca
   by_cases a0:a=0
   ·by_cases b0:b=0
    ·have c1:=R.cr (i:=0) (by omega)
     have e':rA A 0=ngZ (rA A 0):=by rw[a0,b0]at e;exact e
     have z1:(rA A 0).1 = -(rA A 0).1:=congrArg Prod.fst e'
     have z2:(rA A 0).2 = -(rA A 0).2:=congrArg Prod.snd e'
     unfold GM.cr at c1
     have y1:(rA A 0).1=0:=by grind
     have y2:(rA A 0).2=0:=by grind
     rw[y1,y2]at c1;grind
    ·have:=R.up0 (i:=b) (by omega) h2
     rw[a0,gY]at ca;grind
   ·have p:=R.up0 (i:=a) (by omega) h1
    by_cases b0:b=0
    ·rw[b0,gY]at ca;grind
    ·have:=R.up0 (i:=b) (by omega) h2
     grind
  unfold vA
  by_cases c1:i<k
  ·rw[if_pos c1]
   by_cases c2:j<k
   ·rw[if_pos c2];exact inj hij c2
   ·rw[if_neg c2];exact nz c1 (by omega)
  ·rw[if_neg c1,if_neg (by omega)]
   intro e
   exact inj (a:=i - k) (b:=j - k) (by omega) (by omega) (by rw[← bc (rA A (i - k)),e,bc])
end
theorem nP{h0:Sd}{ss:List Sd}:∀(k:Nat) (a:Sd),∀ ab∈(a :: C7 h0 ss k (A0 a ss)).zip (C7 h0 ss k (A0 a ss)),A0 ab.1 ss=some ab.2
 | 0,a,ab,h=>by
  have:C7 h0 ss 0 (A0 a ss)=[]:=by cases A0 a ss<;>rfl
  rw[this]at h;cases h
 | k+1,a,ab,h=>by
  cases e:A0 a ss with
  | none=>rw[e]at h;cases h
  | some f =>
   rw[e]at h
   have e2:C7 h0 ss (k+1) (some f)=if 0<veZ h0 f then f :: C7 h0 ss k (A0 f ss)else[]:=rfl
   rw[e2]at h
   split at h
   ·rw[KJ]at h
    rcases IE.mp h with rfl|h
    ·exact e
    ·exact nP k f ab h
   ·cases h
theorem tu{h0:Sd}{ss:List Sd}:∀(k:Nat) (o:Option Sd),∀ s∈C7 h0 ss k o,0<veZ h0 s
 | 0,o,s,h=>by cases h
 | k+1,none,s,h=>by cases h
 | k+1,some f,s,h=>by
  have e2:C7 h0 ss (k+1) (some f)=if 0<veZ h0 f then f :: C7 h0 ss k (A0 f ss)else[]:=rfl
  rw[e2]at h
  split at h
  ·rename_i hv
   rcases IE.mp h with rfl|h
   ·exact hv
   ·exact tu k _ s h
  ·cases h
noncomputable def kp(s:Sd):Rat:=(s.1:Rat) / (s.2.2.1:Rat)
noncomputable def kq(s:Sd):Rat:=(s.2.1:Rat) / (s.2.2.1:Rat)
def Lx(t f:Sd):Prop:=kp t<kp f∨(kp t=kp f∧kq t≤kq f)
theorem Lx.trans{a b c:Sd}(h:Lx a b)(g:Lx b c):Lx a c:=by unfold Lx at *;grind
theorem sJ{a b x y:Int}(hx:0<x)(hy:0<y):((a*y - b*x:Int):Rat)=((a:Rat) / (x:Rat) - (b:Rat) / (y:Rat))*((x:Rat)*(y:Rat)):=by
 have h1:(0:Rat)<(x:Rat):=v7.mpr hx
 have h2:(0:Rat)<(y:Rat):=v7.mpr hy
 rw[KP,IV,IV]
 grind
theorem sgn{a b x y:Int}(hx:0<x)(hy:0<y):(0<a*y - b*x↔(b:Rat) / (y:Rat)<(a:Rat) / (x:Rat))∧(a*y - b*x=0↔(b:Rat) / (y:Rat)=(a:Rat) / (x:Rat)):=by
 have e:=sJ (a:=a) (b:=b) hx hy
 have p:(0:Rat)<(x:Rat)*(y:Rat):=JU (v7.mpr hx) (v7.mpr hy)
 generalize a*y - b*x=n at *
 generalize (a:Rat) / (x:Rat)=u at *
 generalize (b:Rat) / (y:Rat)=v at *
 generalize (x:Rat)*(y:Rat)=c at *
 constructor
 ·rw[← v7,e]
  constructor
  ·intro h
   have:=P5 p (x:=u - v) (by grind)
   grind
  ·intro h
   have:=JU p (show 0<u - v by grind)
   grind
 ·constructor
  ·intro h
   rw[h]at e
   have e:(0:Rat)=(u - v)*c:=e
   grind
  ·intro h
   rw[h]at e
   have e:(n:Rat)=0:=by rw[e];grind
   exact_mod_cast e
theorem yr{s f:Sd}(hs:0<s.2.2.1)(hf:0<f.2.2.1):(C1 s f=true→Lx f s)∧(¬ C1 s f=true→Lx s f):=by
 obtain⟨a1,a2⟩:=sgn (a:=s.1) (b:=f.1) hs hf
 obtain⟨b1,b2⟩:=sgn (a:=s.2.1) (b:=f.2.1) hs hf
 have k1:kp s=(s.1:Rat) / (s.2.2.1:Rat):=rfl
 have k2:kp f=(f.1:Rat) / (f.2.2.1:Rat):=rfl
 have k3:kq s=(s.2.1:Rat) / (s.2.2.1:Rat):=rfl
 have k4:kq f=(f.2.1:Rat) / (f.2.2.1:Rat):=rfl
 rw[← k1,← k2]at a1 a2
 rw[← k3,← k4]at b1 b2
 unfold C1 Lx
 by_cases c:s.1*f.2.2.1 - f.1*s.2.2.1=0
 ·rw[if_pos c,decide_eq_true_eq]
  have:=a2.mp c
  constructor
  ·intro h;have:=b1.mp h;grind
  ·intro h;rw[b1]at h;grind
 ·rw[if_neg c,decide_eq_true_eq]
  rw[a2]at c
  constructor
  ·intro h;have:=a1.mp h;grind
  ·intro h;rw[a1]at h;grind
theorem gk:∀(ss:List Sd) (f t:Sd),(∀ s∈ss,0<s.2.2.1)→0<f.2.2.1→(t∈ss∨Lx t f)→Lx t (u9 ss f)
 | [],f,t,_,_,h=>by
  rcases h with h|h
  ·cases h
  ·exact h
 | s :: r,f,t,hp,hf,h=>by
  have hs:=hp s IG
  obtain⟨j1,j2⟩:=yr hs hf
  have e:u9 (s :: r) f=u9 r (if C1 s f=true then s else f):=rfl
  rw[e]
  by_cases c:C1 s f=true
  ·rw[if_pos c]
   refine gk r s t (fun x hx=>hp x (IC _ hx)) hs ?_
   rcases h with h|h
   ·rcases IE.mp h with rfl|h
    ·exact .inr (.inr ⟨rfl,JV⟩)
    ·exact .inl h
   ·exact .inr (h.trans (j1 c))
  ·rw[if_neg c]
   refine gk r f t (fun x hx=>hp x (IC _ hx)) hf ?_
   rcases h with h|h
   ·rcases IE.mp h with rfl|h
    ·exact .inr (j2 c)
    ·exact .inl h
   ·exact .inr h
theorem EB{a h l:Sd}(pa:0<a.2.2.1)(ph:0<h.2.2.1)(pl:0<l.2.2.1)(la:Lx a h)(ll:Lx l h)(v1:0<veZ a h)(v2:0<veZ h l):tnZ a h l≠0:=fun z=>by
 have ra:(0:Rat)<(a.2.2.1:Rat):=v7.mpr pa
 have rh:(0:Rat)<(h.2.2.1:Rat):=v7.mpr ph
 have rl:(0:Rat)<(l.2.2.1:Rat):=v7.mpr pl
 have V1:(0:Rat)<ve (tri a) (tri h):=by rw[u6];exact v7.mpr v1
 have V2:(0:Rat)<ve (tri h) (tri l):=by rw[u6];exact v7.mpr v2
 have Z:tn (tri a) (tri h) (tri l)=0:=by rw[fj,z];rfl
 have ea:(a.1:Rat)=kp a*(a.2.2.1:Rat):=by unfold kp;grind
 have ea2:(a.2.1:Rat)=kq a*(a.2.2.1:Rat):=by unfold kq;grind
 have eh:(h.1:Rat)=kp h*(h.2.2.1:Rat):=by unfold kp;grind
 have eh2:(h.2.1:Rat)=kq h*(h.2.2.1:Rat):=by unfold kq;grind
 have el:(l.1:Rat)=kp l*(l.2.2.1:Rat):=by unfold kp;grind
 have el2:(l.2.1:Rat)=kq l*(l.2.2.1:Rat):=by unfold kq;grind
 unfold Lx at la ll
 have ve1:ve (tri a) (tri h)=(kp a*kq h - kq a*kp h)*((a.2.2.1:Rat)*(h.2.2.1:Rat)):=by
  unfold ve tri
  show(a.1:Rat)*(h.2.1:Rat) - (a.2.1:Rat)*(h.1:Rat)=_
  rw[ea,ea2,eh,eh2];grind
 have ve2:ve (tri h) (tri l)=(kp h*kq l - kq h*kp l)*((h.2.2.1:Rat)*(l.2.2.1:Rat)):=by
  unfold ve tri
  show(h.1:Rat)*(l.2.1:Rat) - (h.2.1:Rat)*(l.1:Rat)=_
  rw[el,el2,eh,eh2];grind
 have te:tn (tri a) (tri h) (tri l)=((kp h*kq l - kq h*kp l) - (kp a*kq l - kq a*kp l)+(kp a*kq h - kq a*kp h))*((a.2.2.1:Rat)*(h.2.2.1:Rat)*(l.2.2.1:Rat)):=by
  unfold tn ve tri
  show(a.2.2.1:Rat)*((h.1:Rat)*(l.2.1:Rat) - (h.2.1:Rat)*(l.1:Rat)) - (h.2.2.1:Rat)*((a.1:Rat)*(l.2.1:Rat) - (a.2.1:Rat)*(l.1:Rat))+(l.2.2.1:Rat)*((a.1:Rat)*(h.2.1:Rat) - (a.2.1:Rat)*(h.1:Rat))=_
  rw[ea,ea2,eh,eh2,el,el2];grind
 have P3:(0:Rat)<(a.2.2.1:Rat)*(h.2.2.1:Rat)*(l.2.2.1:Rat):=JU (JU ra rh) rl
 have U1:0<kp a*kq h - kq a*kp h:=P5 (JU ra rh) (by rw[ve1]at V1;grind)
 have U2:0<kp h*kq l - kq h*kp l:=P5 (JU rh rl) (by rw[ve2]at V2;grind)
 have U3:(kp h*kq l - kq h*kp l) - (kp a*kq l - kq a*kp l)+(kp a*kq h - kq a*kp h)=0:=by
  rw[Z]at te
  have hz:∀ x c:Rat,0<c→0=x*c→x=0:=fun x c h e=>by grind
  exact hz _ _ P3 te
 clear te ve1 ve2 ea ea2 eh eh2 el el2 Z V1 V2 z v1 v2 pa ph pl P3 ra rh rl
 generalize kp a=ap at *
 generalize kq a=aq at *
 generalize kp h=hp at *
 generalize kq h=hq at *
 generalize kp l=lp at *
 generalize kq l=lq at *
 generalize hU:hp*lq - hq*lp=u2 at *
 generalize hV:ap*hq - aq*hp=u1 at *
 have i1:u2*(hp - ap)+u1*(hp - lp)=0:=by grind
 have i2:u2*(hq - aq)+u1*(hq - lq)=0:=by grind
 have g1:ap≤hp:=by grind
 have g2:lp≤hp:=by grind
 have n1:0≤u2*(hp - ap):=IH (E1 U2) (by grind)
 have n2:0≤u1*(hp - lp):=IH (E1 U1) (by grind)
 have y1:u2*(hp - ap)=0:=by grind
 have y2:u1*(hp - lp)=0:=by grind
 have e1:hp=ap:=by grind
 have e2:hp=lp:=by grind
 have g3:aq≤hq:=by grind
 have g4:lq≤hq:=by grind
 have n3:0≤u2*(hq - aq):=IH (E1 U2) (by grind)
 have n4:0≤u1*(hq - lq):=IH (E1 U1) (by grind)
 have y3:u2*(hq - aq)=0:=by grind
 have e3:hq=aq:=by grind
 rw[e1,e3]at hV
 grind
noncomputable def i8(h0:Sd)(l:List Sd):List Sd:=h0 :: l++[j5 h0,j5 (l.headD h0)]
noncomputable def fA(h0:Sd)(l:List Sd)(i:Nat):T3:=tri ((i8 h0 l).getD i h0)
theorem E4{h0:Sd}{l:List Sd}{i:Nat}(h:i<l.length+1):(i8 h0 l).getD i h0=(h0 :: l)[i]'(by rw[IA];exact h):=by
 unfold i8
 rw[IQ,Kb (by rw[IA];exact h),IS];rfl
theorem R9{h0:Sd}{l:List Sd}:(i8 h0 l).getD (l.length+1) h0=j5 h0:=by
 unfold i8
 rw[IQ,JC (by rw[IA];exact IL _),IA,Nat.sub_self];rfl
theorem bh{h0:Sd}{l:List Sd}:(i8 h0 l).getD (l.length+2) h0=j5 (l.headD h0):=by
 unfold i8
 rw[IQ,JC (by rw[IA];omega),IA,show l.length+2 - (l.length+1)=1 by omega];rfl
theorem oP{h0:Sd}{l:List Sd}{i:Nat}(h:i<l.length+1):((i8 h0 l).getD i h0,(i8 h0 l).getD (i+1) h0)∈(h0 :: l).zip (l++[j5 h0]):=by
 have hz:i<((h0 :: l).zip (l++[j5 h0])).length:=by rw[JB,IA,IX];show i<min _ (l.length+1);omega
 have e:((h0 :: l).zip (l++[j5 h0]))[i]=((i8 h0 l).getD i h0,(i8 h0 l).getD (i+1) h0):=by
  rw[Kx,E4 h]
  congr 1
  by_cases c:i<l.length
  ·rw[E4 (show i+1<l.length+1 by omega),JX,KD c]
  ·obtain rfl:i=l.length:=by omega
   rw[R9,Ks (IL _)]
   simp
 rw[← e]
 exact Kw _
theorem AI{h0:Sd}{l:List Sd}{i:Nat}(h:i<l.length):((i8 h0 l).getD i h0,(i8 h0 l).getD (i+1) h0)∈(h0 :: l).zip l:=by
 have hz:i<((h0 :: l).zip l).length:=by rw[JB,IA];omega
 have e:((h0 :: l).zip l)[i]=((i8 h0 l).getD i h0,(i8 h0 l).getD (i+1) h0):=by
  rw[Kx,E4 (show i<l.length+1 by omega),E4 (show i+1<l.length+1 by omega),JX]
 rw[← e]
 exact Kw _
theorem nD{a b c:Sd}(pa:0<a.2.2.1)(pb:0<b.2.2.1)(pc:0<c.2.2.1)(v1:0<veZ a b)(v2:0<veZ b c)(h:veZ a c≤0):0<tnZ a b c:=by
 unfold tnZ
 have h1:=Kz pa v2
 have h2:=Kz pc v1
 have h3:0≤b.2.2.1 * -veZ a c:=Kr (by omega) (by omega)
 rw[Ms]at h3
 omega
theorem Ba{ss:List Sd}(hp:∀ s∈ss,0<s.2.2.1){a b c:Sd}(ha:a∈ss)(hc:c∈ss)(e:A0 a ss=some b)(v2:0<veZ b c):0<tnZ a b c:=by
 obtain⟨mb,v1,h3⟩:=(V8 (h:=a) hp).yes b e
 by_cases h:0<veZ a c
 ·obtain⟨q1,q2⟩:=h3 c hc h
  rcases Ma 0 (tnZ a b c)with z|z
  ·exact z
  ·have:=q2 (by omega);omega
 ·exact nD (hp a ha) (hp b mb) (hp c hc) v1 v2 (by omega)
theorem zY{ls:List T3}(hok:∀ l∈ls,LineOk l){h0 x:Sd}{l:List Sd}(e:L5 (g5 ls)=h0 :: x :: l) :
  F7 ((g5 ls).map tri) (fA h0 (x :: l)) ((x :: l).length+1)∧y4 h0 (x :: l)++(y4 h0 (x :: l)).map ngZ=C6 (fA h0 (x :: l)) ((x :: l).length+1):=by
 have hp:∀ s∈g5 ls,0<s.2.2.1:=fq hok (i:=0)
 have sy:∀ s∈g5 ls,j5 s∈g5 ls:=kS (ls:=ls) (i:=0)
 have hne:ls≠[]:=fun z=>by rw[z]at e;cases e
 obtain⟨g0,m,e',m0,h⟩:=J9 hok hne
 rw[e]at e'
 cases e'
 rcases h with⟨z,_⟩|⟨_,R,hE⟩
 ·cases z
 have nx:(∀ ab∈(h0 :: x :: l).zip (x :: l),A0 ab.1 (g5 ls)=some ab.2)∧(∀ s∈x :: l,0<veZ h0 s)∧∀ t∈g5 ls,Lx t h0:=by
  cases es:g5 ls with
  | nil=>rw[es]at e;cases e
  | cons s r =>
   rw[es]at e hp
   have e2:L5 (s :: r)=u9 (s :: r) s :: C7 (u9 (s :: r) s) (s :: r) (s :: r).length (A0 (u9 (s :: r) s) (s :: r)):=rfl
   rw[e2]at e
   injection e with e3 e4
   have n1:=nP (h0:=u9 (s :: r) s) (ss:=s :: r) (s :: r).length (u9 (s :: r) s)
   have n2:=tu (h0:=u9 (s :: r) s) (ss:=s :: r) (s :: r).length (A0 (u9 (s :: r) s) (s :: r))
   have n3:=fun t ht=>gk (s :: r) s t hp (hp s IG) (.inl ht)
   rw[e4,e3]at n1
   rw[e4,e3]at n2
   rw[e3]at n3
   exact⟨n1,n2,n3⟩
 obtain⟨nx1,nx2,nx3⟩:=nx
 generalize hL:x :: l=L at *
 have hL1:1≤L.length:=by rw[← hL];exact Nat.succ_le_succ (Jr _)
 have ed:∀ i,i<L.length+1→(i8 h0 L).getD i h0∈g5 ls∧(i8 h0 L).getD (i+1) h0∈g5 ls∧0<veZ ((i8 h0 L).getD i h0) ((i8 h0 L).getD (i+1) h0):=fun i hi=>hE _ (oP hi)
 have f0:(i8 h0 L).getD 0 h0=h0:=rfl
 have f1:(i8 h0 L).getD 1 h0=L.headD h0:=by rw[← hL];rfl
 have edk:veZ ((i8 h0 L).getD (L.length+1) h0) ((i8 h0 L).getD (L.length+2) h0)=veZ ((i8 h0 L).getD 0 h0) ((i8 h0 L).getD 1 h0):=by
  rw[R9,bh,f0,f1];unfold veZ j5;grind
 have mk1:(i8 h0 L).getD (L.length+2) h0∈g5 ls:=by
  rw[bh,← f1];exact sy _ (ed 0 (by omega)).2.1
 have mem:∀ i,i≤L.length+2→(i8 h0 L).getD i h0∈g5 ls:=fun i hi=>by
  by_cases c:i<L.length+1
  ·exact(ed i c).1
  ·by_cases c2:i=L.length+1
   ·rw[c2];exact(ed L.length (by omega)).2.1
   ·rw[show i=L.length+2 by omega];exact mk1
 have vei:∀ i,i≤L.length+1→0<veZ ((i8 h0 L).getD i h0) ((i8 h0 L).getD (i+1) h0):=fun i hi=>by
  by_cases c:i<L.length+1
  ·exact(ed i c).2.2
  ·rw[show i=L.length+1 by omega,edk];exact(ed 0 (by omega)).2.2
 have sup0:∀ i,i<L.length+1→Sup ((g5 ls).map tri) (ry (fA h0 L i) (fA h0 L (i+1))):=fun i hi=>by
  have hm:=oP (h0:=h0) (l:=L) hi
  have em:(fA h0 L i,fA h0 L (i+1))∈(tri h0 :: L.map tri).zip (L.map tri++[ng (tri h0)]):=by
   have:(tri h0 :: L.map tri).zip (L.map tri++[ng (tri h0)])=((h0 :: L).zip (L++[j5 h0])).map fun ab=>(tri ab.1,tri ab.2):=by
    rw[← F0,Jj,Jn,Jj,Ki,B2]
   rw[this]
   exact IJ.mpr ⟨_,hm,rfl⟩
  exact(R.all _ em).2.2.2
 have lk:fA h0 L (L.length+1)=ng (fA h0 L 0):=by unfold fA;rw[R9,f0,B2]
 have lk1:fA h0 L (L.length+2)=ng (fA h0 L 1):=by unfold fA;rw[bh,f1,B2]
 refine⟨⟨by omega,R.sy,R.pos,fun i hi=>IJ.mpr ⟨_,mem i hi,rfl⟩,fun i hi=>?_,fun i hi=>?_,fun i hi=>?_,fun i h1 h2=>?_,lk,lk1⟩,?_⟩
 ·show 0<ve (tri _) (tri _);rw[u6];exact v7.mpr (vei i hi)
 ·by_cases c:i<L.length+1
  ·exact sup0 i c
  ·rw[show i=L.length+1 by omega,lk,lk1,jz]
   exact bR R.sy (sup0 0 (by omega))
 ·show 0<tn (tri _) (tri _) (tri _)
  rw[fj]
  refine v7.mpr ?_
  by_cases c:i<L.length
  ·exact Ba hp (mem i (by omega)) (mem (i+2) (by omega)) (nx1 _ (AI c)) (vei (i+1) (by omega))
  ·obtain rfl:i=L.length:=by omega
   have q1:=vei L.length (by omega)
   have q2:=vei (L.length+1) (by omega)
   have p1:=hp _ (mem L.length (by omega))
   have p2:=hp _ (mem (L.length+1) (by omega))
   have p3:=hp _ (mem (L.length+2) (by omega))
   by_cases h:veZ ((i8 h0 L).getD L.length h0) ((i8 h0 L).getD (L.length+2) h0)≤0
   ·exact nD p1 p2 p3 q1 q2 h
   ·have ge:0≤tnZ ((i8 h0 L).getD L.length h0) ((i8 h0 L).getD (L.length+1) h0) ((i8 h0 L).getD (L.length+2) h0):=by
     have s:=sup0 L.length (by omega) (fA h0 L (L.length+2)) (IJ.mpr ⟨_,mk1,rfl⟩)
     have V:(0:Rat)<ve (fA h0 L L.length) (fA h0 L (L.length+1)):=by show 0<ve (tri _) (tri _);rw[u6];exact v7.mpr q1
     have t:=jy (A6 V) (fA h0 L (L.length+2))
     have:0≤tn (fA h0 L L.length) (fA h0 L (L.length+1)) (fA h0 L (L.length+2)):=by
      rw[← t];exact IH (E1 V) (by grind)
     have:0≤tn (tri ((i8 h0 L).getD L.length h0)) (tri ((i8 h0 L).getD (L.length+1) h0)) (tri ((i8 h0 L).getD (L.length+2) h0)):=this
     rw[fj]at this
     exact AB.mp this
    have ne:=EB (a:=j5 ((i8 h0 L).getD L.length h0)) (h:=h0) (l:=L.headD h0) p1 (hp h0 m0) (hp _ (by rw[← f1];exact(ed 0 (by omega)).2.1)) (nx3 _ (sy _ (mem L.length (by omega)))) (nx3 _ (by rw[← f1];exact(ed 0 (by omega)).2.1)) (by
     rw[R9]at q1
     have:veZ (j5 ((i8 h0 L).getD L.length h0)) h0=veZ ((i8 h0 L).getD L.length h0) (j5 h0):=by unfold veZ j5;grind
     rw[this];exact q1) (by have:=(ed 0 (by omega)).2.2;rw[f0,f1]at this;exact this)
    have eq:tnZ (j5 ((i8 h0 L).getD L.length h0)) h0 (L.headD h0)=tnZ ((i8 h0 L).getD L.length h0) ((i8 h0 L).getD (L.length+1) h0) ((i8 h0 L).getD (L.length+2) h0):=by
     rw[R9,bh];unfold tnZ veZ j5;grind
    rw[eq]at ne
    omega
 ·show 0<ve (tri ((i8 h0 L).getD 0 h0)) (tri _)
  rw[u6,f0,E4 (show i<L.length+1 by omega)]
  obtain⟨j,rfl⟩:∃ j,i=j+1:=⟨i - 1,by omega⟩
  rw[JX]
  exact v7.mpr (nx2 _ (Kw _))
 ·have er:y4 h0 L=(JK (L.length+1)).map (rA (fA h0 L)):=by
   unfold y4
   refine Kk (by rw[ID,ID,JR,JB,IA,IX];show min _ (L.length+1)=_;omega) fun i h1 h2=>?_
   rw[ID,JR]at h2
   rw[MV,MV,List.getElem_range,Kx]
   have g1:=E4 (h0:=h0) (l:=L) h2
   have hB:i<(h0 :: L).length:=by rw[IA];exact h2
   have hA:i<(L++[j5 h0]).length:=by rw[IX];exact h2
   show ry (tri ((h0 :: L)[i]'hB)) (tri ((L++[j5 h0])[i]'hA))=ry (tri _) (tri _)
   rw[g1]
   congr 2
   by_cases c:i<L.length
   ·rw[E4 (show i+1<L.length+1 by omega),JX,KD c]
   ·obtain rfl:i=L.length:=by omega
    rw[R9,Ks (IL _)]
    simp
  unfold C6
  rw[er,Js]
  rfl
theorem Cc{a b c:Zr}(h:¬ E2 a b=true)(g:¬ E2 b c=true):¬ E2 a c=true:=by
 unfold E2 at *
 split at h<;>split at g<;>split<;>simp only[decide_eq_true_eq]at *<;>grind
theorem Cg{a b:Zr}(h:¬ E2 a b=true)(g:¬ E2 b a=true):a=b:=by
 unfold E2 at *
 by_cases e:a.1=b.1
 ·rw[if_pos e,decide_eq_true_eq]at h
  rw[if_pos e.symm,decide_eq_true_eq]at g
  exact Prod.ext e (by grind)
 ·rw[if_neg e,decide_eq_true_eq]at h
  rw[if_neg (fun z=>e z.symm),decide_eq_true_eq]at g
  exact absurd (by grind) e
theorem Ce(a:Zr):¬ E2 a a=true:=by
 unfold E2
 rw[if_pos rfl,decide_eq_true_eq];grind
theorem Cd{a b:Zr}(h:E2 a b=true):¬ E2 b a=true:=by
 unfold E2 at *
 split at h<;>split<;>simp only[decide_eq_true_eq]at *<;>grind
theorem nR{rs:List Zr}:∀(i:Nat),∀ j,j<i→¬ E2 (rs.getD j (0,0)) (rs.getD (D3 rs i) (0,0))=true
 | 0,j,h=>absurd h (Mc j)
 | i+1,j,h=>by
  have ih:=nR (rs:=rs) i
  show ¬ E2 _ (rs.getD (if E2 (rs.getD i (0,0)) (rs.getD (D3 rs i) (0,0))=true then i else D3 rs i) (0,0))=true
  split
  ·rename_i c
   by_cases e:j=i
   ·rw[e];exact Ce _
   ·exact Cc (ih j (by omega)) (Cd c)
  ·rename_i c
   by_cases e:j=i
   ·rw[e];exact c
   ·exact ih j (by omega)
theorem xA{rs:List Zr}(h:rs≠[]):∀ x∈Y6 rs,¬ E2 x (nth (Y6 rs) 0)=true:=fun x hx=>by
 have hx:=V3.mp hx
 have hp:=cq h rs.length (IL _)
 unfold Y6
 rw[B0 rs hp,Mg,Z1 hp]
 obtain⟨j,hj,rfl⟩:=Ml.mp hx
 have:=nR (rs:=rs) rs.length j hj
 rw[IQ,IQ,IS hj,IS hp]at this
 exact this
structure ay(ls:List T3)(cs:List Zr):Prop where
 ne:cs≠[]
 chn:Chn cs
 low:∀ x∈cs,¬ E2 x (nth cs 0)=true
 mem:∀ z,z∈cs↔Cn2 ((g5 ls).map tri) z
theorem gZ{ls:List T3}(hok:∀ l∈ls,LineOk l):(F6 ls=none∧F8 ls) ∨ ∃ cs,F6 ls=some cs∧¬ F8 ls∧ay ls cs:=by
 rcases vq hok with h|⟨cs,e,na,g0,m,R,hm⟩
 ·exact .inl h
 right
 refine⟨cs,e,na,?_⟩
 unfold F6 at e
 cases eh:L5 (g5 ls)with
 | nil=>rw[eh]at e;cases e
 | cons h0 t =>
  cases t with
  | nil=>rw[eh]at e;cases e
  | cons x l =>
   rw[eh]at e
   obtain⟨RC,er⟩:=zY hok eh
   have e:some (Y6 (y4 h0 (x :: l)++(y4 h0 (x :: l)).map ngZ))=some cs:=e
   rw[er]at e
   cases e
   have hl:(C6 (fA h0 (x :: l)) ((x :: l).length+1)).length=2*((x :: l).length+1):=V4
   have nn:C6 (fA h0 (x :: l)) ((x :: l).length+1)≠[]:=fun z=>by rw[z]at hl;simp at hl
   have hp:=cq nn _ (IL _)
   refine⟨fun z=>?_,RC.chn.rot hp,xA nn,fun z=>?_⟩
   ·have:nth (C6 (fA h0 (x :: l)) ((x :: l).length+1)) 0∈Y6 (C6 (fA h0 (x :: l)) ((x :: l).length+1)):=V3.mpr (o7 nn 0)
    rw[z]at this;cases this
   ·constructor
    ·intro hz;exact nO RC (V3.mp hz)
    ·intro⟨sz,s,t,ms,mt,hv,es,et⟩
     rw[hm]
     rcases tot 0 (ve s t)with q|q
     ·exact R.corner sz ms mt (by grind) es et
     ·exact R.corner sz mt ms (by rw[show ve t s = -ve s t by unfold ve;grind];grind) et es
theorem ay.one{ls ms:List T3}{cs ds:List Zr}(h:ay ls cs)(g:ay ms ds)(e:∀ z,z∈cs↔z∈ds):cs=ds :=
 Fv h.chn g.chn h.ne g.ne e (Cg (g.low _ ((e _).mp (o7 h.ne 0))) (h.low _ ((e _).mpr (o7 g.ne 0))))
theorem eps:∀(xs:List (Rat × Rat)),(∀ x∈xs,0≤x.1∧(x.1=0→x.2=0))→∃ e:Rat,0<e∧∀ x∈xs,e*x.2≤x.1∧-(e*x.2)≤x.1
 | [],_=>⟨1,by decide,fun _ h=>nomatch h⟩
 | x :: xs,h=>by
  obtain⟨e,he,hx⟩:=eps xs fun y hy=>h y (IC _ hy)
  obtain⟨h1,h2⟩:=h x IG
  by_cases c:x.2=0
  ·refine⟨e,he,fun y hy=>?_⟩
   rcases IE.mp hy with rfl|hy
   ·rw[c];grind
   ·exact hx y hy
  ·have hp:0<x.1:=by
    by_cases z:x.1=0
    ·exact absurd (h2 z) c
    ·grind
   let m:Rat:=if 0<x.2 then x.2 else -x.2
   have hm:0<m:=by show 0<(if 0<x.2 then x.2 else -x.2);split<;>grind
   have hd:0<x.1 / m:=by
    have e1:x.1 / m*m=x.1:=Jo (A6 hm)
    exact P5 hm (by rw[Lr,e1];exact hp)
   have e1:x.1 / m*m=x.1:=Jo (A6 hm)
   have mle:x.2≤m∧-x.2≤m:=by
    show x.2≤(if 0<x.2 then x.2 else -x.2)∧-x.2≤(if 0<x.2 then x.2 else -x.2)
    split<;>constructor<;>grind
   generalize m=w at *
   have small:∀ f:Rat,0<f→f≤x.1 / w→f*x.2≤x.1∧-(f*x.2)≤x.1:=fun f f0 f1=>by
    have a1:0≤f*(w - x.2):=IH (E1 f0) (by grind)
    have a2:0≤f*(w+x.2):=IH (E1 f0) (by grind)
    have a3:0≤(x.1 / w - f)*w:=IH (by grind) (E1 hm)
    constructor<;>grind
   have scale:∀ f:Rat,0<f→f≤e→∀ y∈xs,f*y.2≤y.1∧-(f*y.2)≤y.1:=fun f f0 f1 y hy=>by
    obtain⟨b1,b2⟩:=hx y hy
    have y0:=(h y (IC _ hy)).1
    rcases tot 0 y.2 with c|c
    ·have a1:0≤(e - f)*y.2:=IH (by grind) c
     have a2:0≤f*y.2:=IH (E1 f0) c
     constructor<;>grind
    ·have a1:0≤(e - f) * -y.2:=IH (by grind) (by grind)
     have a2:0≤f * -y.2:=IH (E1 f0) (by grind)
     constructor<;>grind
   rcases tot e (x.1 / w)with c2|c2
   ·refine⟨e,he,fun y hy=>?_⟩
    rcases IE.mp hy with rfl|hy
    ·exact small e he c2
    ·exact hx y hy
   ·refine⟨x.1 / w,hd,fun y hy=>?_⟩
    rcases IE.mp hy with rfl|hy
    ·exact small _ hd JV
    ·exact scale _ hd c2 y hy
noncomputable def iu(z d:Zr)(e:Rat):Zr:=(z.1+e*d.1,z.2+e*d.2)
theorem lY(s:T3)(z d:Zr)(e:Rat):dt s (iu z d e)=dt s z+e*dt s d:=by unfold dt iu;grind
theorem Ez{ss:List T3}(nz:∀ s∈ss,¬ (s.1=0∧s.2.1=0)){z:Zr}(hz:Sup ss z)(hn:¬ ∃ s t,s∈ss∧t∈ss∧ve s t≠0∧dt s z=s.2.2∧dt t z=t.2.2) :
  ∃ d:Zr,¬ (d.1=0∧d.2=0)∧Sup ss (iu z d 1)∧Sup ss (iu z d (-1)):=by
 obtain⟨d,hd,ht⟩:∃ d:Zr,¬ (d.1=0∧d.2=0)∧∀ s∈ss,dt s z=s.2.2→dt s d=0:=by
  by_cases c:∃ s∈ss,dt s z=s.2.2
  ·obtain⟨s,hs,es⟩:=c
   refine⟨(-s.2.1,s.1),fun⟨h1,h2⟩=>nz s hs ⟨h2,by have h1:-s.2.1=0:=h1;grind⟩,fun t ht et=>?_⟩
   by_cases v:ve s t=0
   ·have:dt t (-s.2.1,s.1)=ve s t:=by unfold dt ve;grind
    rw[this,v]
   ·exact absurd ⟨s,t,hs,ht,v,es,et⟩ hn
  ·exact⟨(1,0),fun⟨h,_⟩=>absurd h (by decide),fun s hs es=>absurd ⟨s,hs,es⟩ c⟩
 obtain⟨e,he,hx⟩:=eps (ss.map fun s=>(s.2.2 - dt s z,dt s d)) fun x hx=>by
  obtain⟨s,hs,rfl⟩:=IJ.mp hx
  have:=hz s hs
  exact⟨by show 0≤s.2.2 - dt s z;grind,fun h0=>ht s hs (by have h0:s.2.2 - dt s z=0:=h0;grind)⟩
 have cmul:∀ s:T3,dt s (e*d.1,e*d.2)=e*dt s d:=fun s=>by unfold dt;grind
 refine⟨(e*d.1,e*d.2),fun⟨h1,h2⟩=>hd ⟨?_,?_⟩,fun s hs=>?_,fun s hs=>?_⟩
 ·have h1:e*d.1=0:=h1;grind
 ·have h2:e*d.2=0:=h2;grind
 ·obtain⟨b1,b2⟩:=hx _ (IJ.mpr ⟨s,hs,rfl⟩)
  rw[lY,cmul]
  have b1:e*dt s d≤s.2.2 - dt s z:=b1
  grind
 ·obtain⟨b1,b2⟩:=hx _ (IJ.mpr ⟨s,hs,rfl⟩)
  rw[lY,cmul]
  have b2:-(e*dt s d)≤s.2.2 - dt s z:=b2
  grind
theorem bT{ls:List T3}(hok:∀ l∈ls,LineOk l):∀ s∈(g5 ls).map tri,¬ (s.1=0∧s.2.1=0):=fun s hs ⟨z1,z2⟩=>by
 obtain⟨t,ht,rfl⟩:=IJ.mp hs
 obtain⟨c,hc,k,ec⟩:=E3 ht
 have cp:=E7 c
 have:(tri (i4 c k)).1=0∧(tri (i4 c k)).2.1=0:=by
  rcases ec with rfl|rfl
  ·exact⟨z1,z2⟩
  ·rw[B2]at z1 z2
   unfold ng at z1 z2
   exact⟨by grind,by grind⟩
 rw[B8]at this
 have t1:c.1*(cbL c:Rat)=0:=this.1
 have t2:c.2.1*(cbL c:Rat)=0:=this.2
 exact(hok c hc).ne ⟨by grind,by grind⟩
theorem Rim.arnd{ss:List T3}{h0:T3}{l:List T3}(R:Rim ss h0 l)(w:T3)(hw:¬ (w.1=0∧w.2.1=0)) :
  ∃ ab∈gP h0 l,(0≤ve ab.1 w∧0<ve w ab.2)∨(0≤ve (ng ab.1) w∧0<ve w (ng ab.2)):=by
 have e0:ve w (ng h0)=ve h0 w:=by unfold ve ng;grind
 have e1:ve (ng h0) w = -ve h0 w:=by unfold ve ng;grind
 by_cases c1:0<ve h0 w
 ·obtain⟨ab,hm,k1,k2⟩:=kJ h0 l (ng h0) (E1 c1) (by rw[e0];exact c1)
  exact⟨ab,hm,.inl ⟨k1,k2⟩⟩
 by_cases c2:ve h0 w<0
 ·have e2:ve w h0 = -ve h0 w:=by unfold ve;grind
  obtain⟨ab,hm,k1,k2⟩:=kJ (w:=w) (ng h0) (l.map ng) h0 (by rw[e1];grind) (by rw[e2];grind)
  have em:ab∈((h0 :: l).map ng).zip ((l++[ng h0]).map ng):=by
   rw[Jn,Jj,Jj,Ki,um];exact hm
  rw[F0]at em
  obtain⟨cd,hcd,rfl⟩:=IJ.mp em
  exact⟨cd,hcd,.inr ⟨k1,k2⟩⟩
 ·have c0:ve h0 w=0:=by grind
  cases l with
  | nil=>exact absurd rfl R.ne
  | cons x l =>
   have hm:(h0,x)∈gP h0 (x :: l):=IG
   obtain⟨q1,q2,q3,q4⟩:=R.all _ hm
   have q3:0<ve h0 x:=q3
   by_cases k:0<ve w x
   ·exact⟨_,hm,.inl ⟨by show 0≤ve h0 w;rw[c0];exact JV,k⟩⟩
   ·refine⟨_,hm,.inr ⟨by show 0≤ve (ng h0) w;rw[e1,c0];exact JV,?_⟩⟩
    show 0<ve w (ng x)
    have ex:ve w (ng x) = -ve w x:=by unfold ve ng;grind
    rw[ex]
    have hne:ve w x≠0:=fun z=>hw (by
     unfold ve at c0 z q3
     have i1:w.1*(h0.1*x.2.1 - h0.2.1*x.1)=0:=by
      have:w.1*(h0.1*x.2.1 - h0.2.1*x.1)=h0.1*(w.1*x.2.1 - w.2.1*x.1)+x.1*(h0.1*w.2.1 - h0.2.1*w.1):=by grind
      rw[this,z,c0];grind
     have i2:w.2.1*(h0.1*x.2.1 - h0.2.1*x.1)=0:=by
      have:w.2.1*(h0.1*x.2.1 - h0.2.1*x.1)=h0.2.1*(w.1*x.2.1 - w.2.1*x.1)+x.2.1*(h0.1*w.2.1 - h0.2.1*w.1):=by grind
      rw[this,z,c0];grind
     have hv:h0.1*x.2.1 - h0.2.1*x.1≠0:=by grind
     exact⟨by grind,by grind⟩)
    grind
noncomputable def L6(v w z:Zr):Rat:=(w.1 - v.1)*(z.2 - v.2) - (w.2 - v.2)*(z.1 - v.1)
theorem Cr{b:T3}{v w z:Zr}(h1:dt b v=b.2.2)(h2:dt b w=b.2.2):b.2.2*L6 v w z=cr v w*(b.2.2 - dt b z):=by
 unfold L6 cr
 unfold dt at *
 have e:b.1*(w.1 - v.1)+b.2.1*(w.2 - v.2)=0:=by grind
 rw[← h1]
 grind
theorem oJ{b:T3}(rb:0<b.2.2){v w z:Zr}(h1:dt b v=b.2.2)(h2:dt b w=b.2.2)(hc:0<cr v w):0≤L6 v w z↔dt b z≤b.2.2:=by
 have e:=Cr (z:=z) h1 h2
 constructor
 ·intro h
  have:0≤cr v w*(b.2.2 - dt b z):=by rw[← e];exact IH (E1 rb) h
  have:=u0 hc this
  grind
 ·intro h
  have:0≤b.2.2*L6 v w z:=by rw[e];exact IH (E1 hc) (by grind)
  exact u0 rb this
theorem F7.all{ss:List T3}{A:Nat→T3}{k:Nat}(R:F7 ss A k)(around:∀ w:T3,¬ (w.1=0∧w.2.1=0)→∃ i,i<k∧((0≤GM.ve (A i) w∧0<GM.ve w (A (i+1)))∨(0≤GM.ve (ng (A i)) w∧0<GM.ve w (ng (A (i+1))))))(nz:∀ s∈ss,¬ (s.1=0∧s.2.1=0)){z:Zr}(h:∀ i,1≤i→i≤k→dt (A i) z≤(A i).2.2∧dt (ng (A i)) z≤(A i).2.2):Sup ss z:=fun s hs=>by
 have h':∀ i,i≤k→dt (A i) z≤(A i).2.2∧dt (ng (A i)) z≤(A i).2.2:=fun i hi=>by
  by_cases c:i=0
  ·have:=h k (by have:=R.two;omega) (IL _)
   rw[R.lst,um]at this
   have e:(ng (A 0)).2.2=(A 0).2.2:=rfl
   rw[e]at this
   rw[c];exact⟨this.2,this.1⟩
  ·exact h i (by omega) hi
 obtain⟨i,hi,c⟩:=around s (nz s hs)
 have key:∀{a b:T3},0<GM.ve a b→Sup ss (ry a b)→0≤GM.ve a s→0<GM.ve s b→dt a z≤a.2.2→dt b z≤b.2.2→dt s z≤s.2.2:=fun{a b} hv su k1 k2 d1 d2=>by
  have e1:=G9 (w:=s) hv z
  have e2:=G9 (w:=s) hv (ry a b)
  rw[jA (A6 hv),gh (A6 hv)]at e2
  have q1:0≤GM.ve s b*(a.2.2 - dt a z):=IH (E1 k2) (by grind)
  have q2:0≤GM.ve a s*(b.2.2 - dt b z):=IH k1 (by grind)
  have q3:0≤GM.ve a b*(dt s (ry a b) - dt s z):=by grind
  have:=u0 hv q3
  have:=su s hs
  grind
 have v:=R.ve i (by omega)
 have su:=R.sup i (by omega)
 obtain⟨a1,a2⟩:=h' i (by omega)
 obtain⟨b1,b2⟩:=h' (i+1) (by omega)
 rcases c with⟨k1,k2⟩|⟨k1,k2⟩
 ·exact key v su k1 k2 a1 b1
 ·refine key (a:=ng (A i)) (b:=ng (A (i+1))) ?_ ?_ k1 k2 a2 b2
  ·have:GM.ve (ng (A i)) (ng (A (i+1)))=GM.ve (A i) (A (i+1)):=by unfold GM.ve ng;grind
   rw[this];exact v
  ·rw[jz];exact bR R.sy su
theorem xB{ss:List T3}{A:Nat→T3}{k:Nat}(R:F7 ss A k)(around:∀ w:T3,¬ (w.1=0∧w.2.1=0)→∃ i,i<k∧((0≤GM.ve (A i) w∧0<GM.ve w (A (i+1)))∨(0≤GM.ve (ng (A i)) w∧0<GM.ve w (ng (A (i+1))))))(nz:∀ s∈ss,¬ (s.1=0∧s.2.1=0))(z:Zr):(∀ i,0≤L6 (nth (C6 A k) i) (nth (C6 A k) (i+1)) z)↔Sup ss z:=by
 have h2:=R.two
 have st:∀ i,nth (C6 A k) (i+1)=if i % (2*k)<k then rA A (i % (2*k)+1)else ngZ (rA A (i % (2*k)+1 - k)):=fun i=>by
  rw[B9 (by omega),jS (by omega),R.v1 (Kf _ (by omega))]
 have on1:∀ j,j<k→dt (A (j+1)) (rA A j)=(A (j+1)).2.2∧dt (A (j+1)) (rA A (j+1))=(A (j+1)).2.2:=fun j hj=>⟨gh (A6 (R.ve j (by omega))),jA (A6 (R.ve (j+1) (by omega)))⟩
 have rp:∀ j,j≤k→0<(A j).2.2:=fun j hj=>R.pos _ (R.mem j (by omega))
 have dn:∀(b:T3) (y:Zr),dt (ng b) (ngZ y)=dt b y:=fun b y=>by unfold dt ng ngZ;grind
 have eq1:∀ j,j<k→(0≤L6 (rA A j) (rA A (j+1)) z↔dt (A (j+1)) z≤(A (j+1)).2.2):=fun j hj=>oJ (rp (j+1) (by omega)) (on1 j hj).1 (on1 j hj).2 (R.cr hj)
 have eq2:∀ j,j<k→(0≤L6 (ngZ (rA A j)) (ngZ (rA A (j+1))) z↔dt (ng (A (j+1))) z≤(A (j+1)).2.2):=fun j hj=>by
  have:=oJ (b:=ng (A (j+1))) (z:=z) (rp (j+1) (by omega)) (v:=ngZ (rA A j)) (w:=ngZ (rA A (j+1))) (by rw[dn];exact(on1 j hj).1) (by rw[dn];exact(on1 j hj).2) (by rw[Aw];exact R.cr hj)
  exact this
 constructor
 ·intro h
  refine R.all around nz fun i h1 hi=>?_
  obtain⟨j,rfl⟩:∃ j,i=j+1:=⟨i - 1,by omega⟩
  have a:=h j
  have b:=h (j+k)
  rw[B9 (by omega),st,Jt (show j<2*k by omega),if_pos (show j<k by omega)]at a
  rw[B9 (by omega),st,Jt (show j+k<2*k by omega),if_neg (show ¬ j+k<k by omega),show j+k+1 - k=j+1 by omega]at b
  unfold vA at a b
  rw[if_pos (show j<k by omega)]at a
  rw[if_neg (show ¬ j+k<k by omega),show j+k - k=j by omega]at b
  exact⟨(eq1 j (by omega)).mp a,(eq2 j (by omega)).mp b⟩
 ·intro h i
  rw[B9 (by omega),st]
  have hi:i % (2*k)<2*k:=Kf _ (by omega)
  generalize i % (2*k)=j at *
  unfold vA
  by_cases c:j<k
  ·rw[if_pos c,if_pos c]
   exact(eq1 j c).mpr (h _ (R.mem _ (by omega)))
  ·rw[if_neg c,if_neg c,show j+1 - k=j - k+1 by omega]
   exact(eq2 (j - k) (by omega)).mpr (h _ (R.sy _ (R.mem _ (by omega))))
theorem CL{ls:List T3}(hok:∀ l∈ls,LineOk l){cs:List Zr}(e:F6 ls=some cs)(y u:Rat):(∀ i,0≤L6 (nth cs i) (nth cs (i+1)) (y,u))↔B6 ls y u=true:=by
 rw[← S8 ls (y,u)]
 unfold F6 at e
 cases eh:L5 (g5 ls)with
 | nil=>rw[eh]at e;cases e
 | cons h0 t =>
  cases t with
  | nil=>rw[eh]at e;cases e
  | cons x l =>
   rw[eh]at e
   obtain⟨RC,er⟩:=zY hok eh
   have e:some (Y6 (y4 h0 (x :: l)++(y4 h0 (x :: l)).map ngZ))=some cs:=e
   rw[er]at e
   cases e
   have hl:(C6 (fA h0 (x :: l)) ((x :: l).length+1)).length=2*((x :: l).length+1):=V4
   have nn:C6 (fA h0 (x :: l)) ((x :: l).length+1)≠[]:=fun z=>by rw[z]at hl;simp at hl
   have hp:=cq nn _ (IL _)
   have hne:ls≠[]:=fun z=>by rw[z]at eh;cases eh
   have R:Rim ((g5 ls).map tri) (tri h0) ((x :: l).map tri):=by
    obtain⟨g0,m,e',m0,h⟩:=J9 hok hne
    rw[eh]at e'
    cases e'
    rcases h with⟨z,_⟩|⟨_,R,_⟩
    ·cases z
    ·exact R
   have around:∀ w:T3,¬ (w.1=0∧w.2.1=0)→∃ i,i<(x :: l).length+1∧((0≤ve (fA h0 (x :: l) i) w∧0<ve w (fA h0 (x :: l) (i+1)))∨(0≤ve (ng (fA h0 (x :: l) i)) w∧0<ve w (ng (fA h0 (x :: l) (i+1))))):=fun w hw=>by
    obtain⟨ab,hm,hc⟩:=R.arnd w hw
    unfold gP at hm
    have e2:∀ L:List Sd,(tri h0 :: L.map tri).zip (L.map tri++[ng (tri h0)])=((h0 :: L).zip (L++[j5 h0])).map fun ab=>(tri ab.1,tri ab.2):=fun L=>by
     rw[← F0,Jj,Jn,Jj,Ki,B2]
    rw[e2 (x :: l)]at hm
    obtain⟨cd,hcd,rfl⟩:=IJ.mp hm
    obtain⟨i,hi,ei⟩:=Ml.mp hcd
    have hi2:i<(x :: l).length+1:=by
     rw[JB,IA,IX]at hi
     exact IF hi (Nat.min_le_left _ _)
    refine⟨i,hi2,?_⟩
    have g1:=E4 (h0:=h0) (l:=x :: l) hi2
    rw[Kx]at ei
    have f1:fA h0 (x :: l) i=tri cd.1:=by unfold fA;rw[g1,← ei]
    have f2:fA h0 (x :: l) (i+1)=tri cd.2:=by
     unfold fA
     rw[← ei]
     congr 1
     by_cases c:i<(x :: l).length
     ·rw[E4 (show i+1<(x :: l).length+1 by omega),JX,KD c]
     ·obtain rfl:i=(x :: l).length:=by omega
      rw[R9,Ks (IL _)]
      simp
    rw[f1,f2];exact hc
   rw[← xB RC around (bT hok)]
   unfold Y6
   constructor
   ·intro h i
    have:=h (i+(C6 (fA h0 (x :: l)) ((x :: l).length+1)).length - D3 (C6 (fA h0 (x :: l)) ((x :: l).length+1)) (C6 (fA h0 (x :: l)) ((x :: l).length+1)).length)
    rw[B0 _ hp,B0 _ hp]at this
    generalize C6 (fA h0 (x :: l)) ((x :: l).length+1)=L at *
    have per:∀ j,nth L (j+L.length)=nth L j:=fun j=>by unfold nth;rw[ME]
    rw[show i+L.length - D3 L L.length+D3 L L.length=i+L.length by omega,show i+L.length - D3 L L.length+1+D3 L L.length=i+1+L.length by omega,per,per]at this
    exact this
   ·intro h i
    rw[B0 _ hp,B0 _ hp,show i+1+D3 (C6 (fA h0 (x :: l)) ((x :: l).length+1)) (C6 (fA h0 (x :: l)) ((x :: l).length+1)).length=i+D3 (C6 (fA h0 (x :: l)) ((x :: l).length+1)) (C6 (fA h0 (x :: l)) ((x :: l).length+1)).length+1 by omega]
    exact h _
structure Ext(P:Zr→Prop)(z:Zr):Prop where
 on:P z
 no:∀ d:Zr,P (iu z d 1)→P (iu z d (-1))→d.1=0∧d.2=0
theorem vy{ss:List T3}(nz:∀ s∈ss,¬ (s.1=0∧s.2.1=0)){z:Zr}:Cn2 ss z↔Ext (Sup ss) z:=by
 constructor
 ·intro hz
  refine⟨hz.sup,fun d s1 s2=>?_⟩
  obtain⟨s,t,ms,mt,hv,es,et⟩:=hz.two
  have key:∀ s∈ss,dt s z=s.2.2→dt s d=0:=fun s ms es=>by
   have a1:=s1 s ms
   have a2:=s2 s ms
   rw[lY]at a1 a2
   grind
  have k1:=key s ms es
  have k2:=key t mt et
  unfold dt at k1 k2
  unfold ve at hv
  refine⟨?_,?_⟩
  ·have:(s.1*t.2.1 - s.2.1*t.1)*d.1=0:=by
    have:(s.1*t.2.1 - s.2.1*t.1)*d.1=t.2.1*(s.1*d.1+s.2.1*d.2) - s.2.1*(t.1*d.1+t.2.1*d.2):=by grind
    rw[this,k1,k2];grind
   generalize s.1*t.2.1 - s.2.1*t.1=u at *
   grind
  ·have:(s.1*t.2.1 - s.2.1*t.1)*d.2=0:=by
    have:(s.1*t.2.1 - s.2.1*t.1)*d.2=s.1*(t.1*d.1+t.2.1*d.2) - t.1*(s.1*d.1+s.2.1*d.2):=by grind
    rw[this,k1,k2];grind
   generalize s.1*t.2.1 - s.2.1*t.1=u at *
   grind
 ·intro⟨on,no⟩
  refine⟨on,?_⟩
  by_cases c:∃ s t,s∈ss∧t∈ss∧ve s t≠0∧dt s z=s.2.2∧dt t z=t.2.2
  ·exact c
  obtain⟨d,hd,s1,s2⟩:=Ez nz on c
  exact absurd (no d s1 s2) hd
noncomputable def lmZ(a b c d:Rat)(z:Zr):Zr:=(a*z.1+b*z.2,c*z.1+d*z.2)
theorem uy(a b c d:Rat)(z x:Zr)(e:Rat):lmZ a b c d (iu z x e)=iu (lmZ a b c d z) (lmZ a b c d x) e:=by
 unfold lmZ iu
 refine Prod.ext ?_ ?_
 ·show a*(z.1+e*x.1)+b*(z.2+e*x.2)=a*z.1+b*z.2+e*(a*x.1+b*x.2);grind
 ·show c*(z.1+e*x.1)+d*(z.2+e*x.2)=c*z.1+d*z.2+e*(c*x.1+d*x.2);grind
theorem ym{a b c d:Rat}(h:a*d - b*c≠0){x:Zr}(h1:(lmZ a b c d x).1=0)(h2:(lmZ a b c d x).2=0):x.1=0∧x.2=0:=by
 have h1:a*x.1+b*x.2=0:=h1
 have h2:c*x.1+d*x.2=0:=h2
 have e1:(a*d - b*c)*x.1=d*(a*x.1+b*x.2) - b*(c*x.1+d*x.2):=by grind
 have e2:(a*d - b*c)*x.2=a*(c*x.1+d*x.2) - c*(a*x.1+b*x.2):=by grind
 rw[h1,h2]at e1 e2
 generalize a*d - b*c=D at *
 exact⟨by grind,by grind⟩
noncomputable def lmB(a b c d:Rat)(z:Zr):Zr:=lmZ (d / (a*d - b*c)) (-b / (a*d - b*c)) (-c / (a*d - b*c)) (a / (a*d - b*c)) z
theorem yn{a b c d:Rat}(h:a*d - b*c≠0)(z:Zr):lmZ a b c d (lmB a b c d z)=z:=by
 have e:∀ x:Rat,x / (a*d - b*c)*(a*d - b*c)=x:=fun x=>Jo h
 have e1:=e d
 have e2:=e (-b)
 have e3:=e (-c)
 have e4:=e a
 unfold lmB lmZ
 generalize hD:a*d - b*c=D at *
 refine Prod.ext ?_ ?_
 ·show a*(d / D*z.1 + -b / D*z.2)+b*(-c / D*z.1+a / D*z.2)=z.1
  have:D*(a*(d / D*z.1 + -b / D*z.2)+b*(-c / D*z.1+a / D*z.2))=D*z.1:=by
   generalize d / D=x1 at *;generalize -b / D=x2 at *;generalize -c / D=x3 at *;generalize a / D=x4 at *
   grind
  exact D4 h this
 ·show c*(d / D*z.1 + -b / D*z.2)+d*(-c / D*z.1+a / D*z.2)=z.2
  have:D*(c*(d / D*z.1 + -b / D*z.2)+d*(-c / D*z.1+a / D*z.2))=D*z.2:=by
   generalize d / D=x1 at *;generalize -b / D=x2 at *;generalize -c / D=x3 at *;generalize a / D=x4 at *
   grind
  exact D4 h this
theorem Cv{P Q:Zr→Prop}{a b c d:Rat}(h:a*d - b*c≠0)(pq:∀ z,Q z↔P (lmZ a b c d z)){z:Zr}:Ext Q z↔Ext P (lmZ a b c d z):=by
 constructor
 ·intro⟨on,no⟩
  refine⟨(pq z).mp on,fun e e1 e2=>?_⟩
  have b0:=yn h e
  rw[← b0,← uy,← pq]at e1 e2
  obtain⟨h1,h2⟩:=no _ e1 e2
  rw[← b0]
  unfold lmZ
  rw[h1,h2]
  exact⟨by show a*0+b*0=0;grind,by show c*0+d*0=0;grind⟩
 ·intro⟨on,no⟩
  refine⟨(pq z).mpr on,fun e e1 e2=>?_⟩
  rw[pq,uy]at e1 e2
  obtain⟨h1,h2⟩:=no _ e1 e2
  exact ym h h1 h2
theorem Fo(a b c d:Rat)(x y:Zr):cr (lmZ a b c d x) (lmZ a b c d y)=(a*d - b*c)*cr x y:=by unfold cr lmZ;grind
noncomputable def z9(f:Nat→Rat):Nat→Rat
 | 0=>0
 | n+1=>z9 f n+f n
noncomputable def a2(L:List Zr):Rat:=z9 (fun i=>cr (nth L i) (nth L (i+1))) L.length
theorem K1{f g:Nat→Rat}:∀{n:Nat},(∀ i,i<n→f i=g i)→z9 f n=z9 g n:=fun{n}=>by
 induction n with
 | zero=>intro _;rfl
 | succ n ih=>intro h;show z9 f n+f n=z9 g n+g n;rw[ih fun i hi=>h i (by omega),h n (by omega)]
theorem jf(f:Nat→Rat)(m:Nat):∀ n:Nat,z9 f (m+n)=z9 f m+z9 (fun i=>f (m+i)) n:=fun n=>by
 induction n with
 | zero=>show z9 f m=z9 f m+0;grind
 | succ n ih=>show z9 f (m+n)+f (m+n)=z9 f m+(z9 (fun i=>f (m+i)) n+f (m+n));rw[ih];grind
theorem sI(k:Rat)(f:Nat→Rat):∀ n:Nat,z9 (fun i=>k*f i) n=k*z9 f n:=fun n=>by
 induction n with
 | zero=>show(0:Rat)=k*0;grind
 | succ n ih=>show z9 (fun i=>k*f i) n+k*f n=k*(z9 f n+f n);rw[ih];grind
theorem yj(L:List Zr)(i:Nat):nth L (i+L.length)=nth L i:=by unfold nth;rw[ME]
theorem nZ{f:Zr→Zr}{L:List Zr}(h:L≠[])(i:Nat):nth (L.map f) i=f (nth L i):=by
 have hl:0<L.length:=Kj.mpr h
 have hi:i % L.length<L.length:=Kf _ hl
 unfold nth
 rw[ID,IQ,IQ,Jb,IS hi];rfl
theorem Fx(a b c d:Rat){L:List Zr}(h:L≠[]):a2 (L.map (lmZ a b c d))=(a*d - b*c)*a2 L:=by
 unfold a2
 rw[ID,← sI]
 exact K1 fun i _=>by rw[nZ h,nZ h,Fo]
theorem vt{ls ms:List T3}(hl:∀ l∈ls,LineOk l)(hm:∀ l∈ms,LineOk l){a b c d:Rat}(h:a*d - b*c≠0)(pq:∀ z:Zr,B6 ms z.1 z.2=B6 ls (lmZ a b c d z).1 (lmZ a b c d z).2)
  {cs ds:List Zr} (C:ay ls cs) (D:ay ms ds) (z:Zr):z∈ds↔lmZ a b c d z∈cs:=by
 rw[C.mem,D.mem,vy (bT hl),vy (bT hm)]
 exact Cv h fun z=>by rw[S8,S8,pq]
structure J5(cs:List Zr)(P:Zr→Prop):Prop where
 ne:cs≠[]
 chn:Chn cs
 low:∀ x∈cs,¬ E2 x (nth cs 0)=true
 on:∀ x∈cs,P x
 ins:∀ z,P z ↔ ∀ i,0≤L6 (nth cs i) (nth cs (i+1)) z
 zero:P (0,0)
 sym:∀ x∈cs,ngZ x∈cs
theorem lS{x c:Zr}(h:¬ E2 x c=true):c.1<x.1∨(c.1=x.1∧c.2≤x.2):=by
 unfold E2 at h
 by_cases e:x.1=c.1
 ·simp[e]at h;right;exact⟨e.symm,by grind⟩
 ·simp[e]at h;left;grind
noncomputable def cum(f:Rat→Rat):List Rat→Rat→Rat
 | a :: b :: r,x=>(if b≤x then(b - a)*(f a+f b)else 0)+cum f (b :: r) x
 | _,_=>0
theorem cT(f:Rat→Rat):∀(G:List Rat) (a x:Rat),Ris (a :: G)→x≤a→cum f (a :: G) x=0:=fun G=>by
 induction G with
 | nil=>intro a x _ _;rfl
 | cons b r ih =>
  intro a x h hx
  obtain⟨h1,h2⟩:=JL.mp h
  have ab:=h1 b (.head _)
  show(if b≤x then(b - a)*(f a+f b)else 0)+cum f (b :: r) x=0
  rw[if_neg (by grind),ih b x h2 (by grind)];grind
theorem km{f:Rat→Rat}{c s:Rat}:∀(G:List Rat) (a b:Rat),Ris G→a∈G→b∈G→a≤b→(∀ x∈G,a≤x→x≤b→f x=c+s*x)→cum f G b - cum f G a=(b - a)*(f a+f b):=fun G=>by
 induction G with
 | nil=>intro a b _ h;cases h
 | cons g r ih =>
  intro a b hG ha hb ab ev
  obtain⟨h1,h2⟩:=JL.mp hG
  by_cases eg:a=g
  ·subst eg
   rw[cT f r a a hG (by grind)]
   by_cases eb:b=a
   ·subst eb;rw[cT f r b b hG (by grind)];grind
   have hb:b∈r:=by rcases IE.mp hb with e|e;exact absurd e eb;exact e
   cases r with
   | nil=>cases hb
   | cons g' r =>
    have gb:g'≤b:=by
     rcases IE.mp hb with e|e
     ·grind
     ·have:=(JL.mp h2).1 b e;grind
    have ag:=h1 g' (.head _)
    have:=ih g' b h2 (.head _) hb gb fun x hx x1 x2=>ev x (.tail _ hx) (by grind) x2
    rw[cT f r g' g' h2 (by grind)]at this
    show(if g'≤b then(g' - a)*(f a+f g')else 0)+cum f (g' :: r) b - 0=_
    rw[if_pos gb]
    have e1:=ev a (.head _) (by grind) ab
    have e2:=ev g' (.tail _ (.head _)) (by grind) gb
    have e3:=ev b (.tail _ hb) ab (by grind)
    rw[e1,e2,e3]at *
    generalize cum f (g' :: r) b=C at *
    grind
  ·have ha:a∈r:=by rcases IE.mp ha with e|e;exact absurd e eg;exact e
   have ga:=h1 a ha
   have hb:b∈r:=by rcases IE.mp hb with e|e;(exfalso;grind);exact e
   have gb:=h1 b hb
   cases r with
   | nil=>cases ha
   | cons g' r =>
    have g1:g'≤a:=by
     rcases IE.mp ha with e|e
     ·grind
     ·have:=(JL.mp h2).1 a e;grind
    have:=ih a b h2 ha hb ab fun x hx=>ev x (.tail _ hx)
    show(if g'≤b then(g' - g)*(f g+f g')else 0)+cum f (g' :: r) b - ((if g'≤a then(g' - g)*(f g+f g')else 0)+cum f (g' :: r) a)=_
    rw[if_pos (by grind),if_pos g1]
    generalize cum f (g' :: r) b=C at *
    generalize cum f (g' :: r) a=C' at *
    grind
section
variable {cs:List Zr} {P:Zr→Prop}
theorem J5.rise0(Q:J5 cs P):(nth cs 0).1<(nth cs 1).1:=by
 rcases lS (Q.low _ (o7 Q.ne 1))with h|⟨h1,h2⟩
 ·exact h
 exfalso
 have c:=Q.chn.cr 0
 have s:=lS (Q.low _ (Q.sym _ (o7 Q.ne 0)))
 unfold cr at c
 have s:(nth cs 0).1 < -(nth cs 0).1∨((nth cs 0).1 = -(nth cs 0).1∧(nth cs 0).2 ≤ -(nth cs 0).2):=s
 rw[show 0+1=1 from rfl]at c
 rw[← h1]at c
 generalize (nth cs 0).1=a at *
 generalize (nth cs 0).2=b at *
 generalize (nth cs 1).2=d at *
 have:a≤0:=by grind
 have:a*d - b*a=a*(d - b):=by grind
 rw[this]at c
 have:a*(d - b)≤0:=by
  have:=IH (show 0 ≤ -a by grind) (show 0≤d - b by grind)
  grind
 grind
theorem J5.turn(Q:J5 cs P){i:Nat}(h1:(nth cs (i+1)).1≤(nth cs i).1)(h2:(nth cs (i+1)).1<(nth cs (i+2)).1):nth cs (i+1)=nth cs 0:=by
 have c:=Q.chn.cr i
 have k:∀ z,P z→0≤L6 (nth cs i) (nth cs (i+1)) z∧0≤L6 (nth cs (i+1)) (nth cs (i+2)) z:=fun z hz=>⟨(Q.ins z).mp hz i,(Q.ins z).mp hz (i+1)⟩
 have k0:=k _ Q.zero
 have k2:=(k _ (Q.on _ (o7 Q.ne (i+2)))).1
 obtain⟨k3,k4⟩:=k _ (Q.on _ (o7 Q.ne 0))
 have lw:=lS (Q.low _ (o7 Q.ne (i+1)))
 generalize nth cs i=v at *
 generalize nth cs (i+1)=w at *
 generalize nth cs (i+2)=x at *
 generalize nth cs 0=o at *
 obtain⟨v1,v2⟩:=v
 obtain⟨w1,w2⟩:=w
 obtain⟨x1,x2⟩:=x
 obtain⟨o1,o2⟩:=o
 unfold L6 at *
 unfold cr at c
 simp only at *
 have idn:∀ z1 z2:Rat,((w1 - v1)*(x2 - v2) - (w2 - v2)*(x1 - v1))*(z1 - w1)=((w1 - v1)*(z2 - v2) - (w2 - v2)*(z1 - v1))*(x1 - w1) - ((x1 - w1)*(z2 - w2) - (x2 - w2)*(z1 - w1))*(w1 - v1):=fun z1 z2=>by grind
 have i0:=idn 0 0
 have io:=idn o1 o2
 have e0:(w1 - v1)*(0 - v2) - (w2 - v2)*(0 - v1)=v1*w2 - v2*w1:=by grind
 have p0:0<((w1 - v1)*(0 - v2) - (w2 - v2)*(0 - v1))*(x1 - w1):=by rw[e0];exact JU c (by grind)
 have p1:0 ≤ -(((x1 - w1)*(0 - w2) - (x2 - w2)*(0 - w1))*(w1 - v1)):=by
  have:=IH k0.2 (show 0≤v1 - w1 by grind);grind
 have D0:(w1 - v1)*(x2 - v2) - (w2 - v2)*(x1 - v1)≠0:=fun z=>by rw[z]at i0;grind
 have q0:0≤((w1 - v1)*(o2 - v2) - (w2 - v2)*(o1 - v1))*(x1 - w1):=IH k3 (by grind)
 have q1:0 ≤ -(((x1 - w1)*(o2 - w2) - (x2 - w2)*(o1 - w1))*(w1 - v1)):=by
  have:=IH k4 (show 0≤v1 - w1 by grind);grind
 have D1:0<(w1 - v1)*(x2 - v2) - (w2 - v2)*(x1 - v1):=by grind
 have ow:0≤o1 - w1:=by
  refine u0 D1 ?_
  rw[io]
  generalize ((w1 - v1)*(o2 - v2) - (w2 - v2)*(o1 - v1))*(x1 - w1)=A at *
  generalize ((x1 - w1)*(o2 - w2) - (x2 - w2)*(o1 - w1))*(w1 - v1)=B at *
  grind
 have e1:o1=w1:=by grind
 subst e1
 have e2:0≤(x1 - o1)*(o2 - w2):=by grind
 have e3:=u0 (show 0<x1 - o1 by grind) e2
 have:w2=o2:=by grind
 rw[this]
theorem J5.conv(Q:J5 cs P){x y:Zr}(hx:P x)(hy:P y){t:Rat}(t0:0≤t)(t1:t≤1):P (x.1+(y.1 - x.1)*t,x.2+(y.2 - x.2)*t):=by
 rw[Q.ins]
 intro i
 have a:=(Q.ins x).mp hx i
 have b:=(Q.ins y).mp hy i
 have:L6 (nth cs i) (nth cs (i+1)) (x.1+(y.1 - x.1)*t,x.2+(y.2 - x.2)*t)=(1 - t)*L6 (nth cs i) (nth cs (i+1)) x+t*L6 (nth cs i) (nth cs (i+1)) y:=by unfold L6;grind
 rw[this]
 have h1:=IH (show 0≤1 - t by grind) a
 have h2:=IH t0 b
 grind
structure ff(P:Zr→Prop)(lo hi:Rat→Rat):Prop where
 at':∀ g u,P (g,u)→∀ v,P (g,v)↔lo g≤v∧v≤hi g
variable {lo hi:Rat→Rat}
theorem nX{a b x y g:Rat}(hab:a≠b):x+(y - x)*((g - a) / (b - a))=(x - (y - x) / (b - a)*a)+(y - x) / (b - a)*g:=by
 have h:b - a≠0:=by grind
 rw[Ng,Ng]
 grind
theorem nB{a b g:Rat}(hab:a≠b):a+(b - a)*((g - a) / (b - a))=g:=by
 have h:b - a≠0:=by grind
 have:=Jo (a:=g - a) h
 grind
theorem uU{a b g:Rat}(h:(a≤g∧g≤b∧a<b)∨(b≤g∧g≤a∧b<a)):0≤(g - a) / (b - a)∧(g - a) / (b - a)≤1:=by
 have hn:b - a≠0:=by grind
 have e:=Jo (a:=g - a) hn
 generalize (g - a) / (b - a)=t at *
 rcases h with⟨h1,h2,h3⟩|⟨h1,h2,h3⟩
 ·refine⟨u0 (show 0<b - a by grind) (by grind),?_⟩
  have:=u0 (v:=b - a) (x:=1 - t) (by grind) (by grind)
  grind
 ·refine⟨u0 (show 0<a - b by grind) (by grind),?_⟩
  have:=u0 (v:=a - b) (x:=1 - t) (by grind) (by grind)
  grind
theorem J5.lo_on(Q:J5 cs P)(C:ff P lo hi){i:Nat}(h:(nth cs i).1<(nth cs (i+1)).1){g:Rat}(h1:(nth cs i).1≤g)(h2:g≤(nth cs (i+1)).1) :
  lo g=(nth cs i).2+((nth cs (i+1)).2 - (nth cs i).2)*((g - (nth cs i).1) / ((nth cs (i+1)).1 - (nth cs i).1)):=by
 obtain⟨t0,t1⟩:=uU (.inl ⟨h1,h2,h⟩)
 have te:=nB (a:=(nth cs i).1) (b:=(nth cs (i+1)).1) (g:=g) (by grind)
 have pe:=Q.conv (Q.on _ (o7 Q.ne i)) (Q.on _ (o7 Q.ne (i+1))) t0 t1
 rw[te]at pe
 obtain⟨a1,a2⟩:=(C.at' _ _ pe _).mp pe
 have pl:=(C.at' _ _ pe (lo g)).mpr ⟨by grind,by grind⟩
 have iq:=(Q.ins _).mp pl i
 unfold L6 at iq
 generalize (g - (nth cs i).1) / ((nth cs (i+1)).1 - (nth cs i).1)=t at *
 generalize (nth cs i).1=a at *
 generalize (nth cs i).2=x at *
 generalize (nth cs (i+1)).1=b at *
 generalize (nth cs (i+1)).2=y at *
 simp only at iq
 have:0≤(b - a)*(lo g - (x+(y - x)*t)):=by
  have:(b - a)*(lo g - (x+(y - x)*t))=(b - a)*(lo g - x) - (y - x)*((b - a)*t):=by grind
  rw[this,show(b - a)*t=g - a by grind]
  exact iq
 have:=u0 (show 0<b - a by grind) this
 grind
theorem J5.hi_on(Q:J5 cs P)(C:ff P lo hi){i:Nat}(h:(nth cs (i+1)).1<(nth cs i).1){g:Rat}(h1:(nth cs (i+1)).1≤g)(h2:g≤(nth cs i).1) :
  hi g=(nth cs i).2+((nth cs (i+1)).2 - (nth cs i).2)*((g - (nth cs i).1) / ((nth cs (i+1)).1 - (nth cs i).1)):=by
 obtain⟨t0,t1⟩:=uU (.inr ⟨h1,h2,h⟩)
 have te:=nB (a:=(nth cs i).1) (b:=(nth cs (i+1)).1) (g:=g) (by grind)
 have pe:=Q.conv (Q.on _ (o7 Q.ne i)) (Q.on _ (o7 Q.ne (i+1))) t0 t1
 rw[te]at pe
 obtain⟨a1,a2⟩:=(C.at' _ _ pe _).mp pe
 have pl:=(C.at' _ _ pe (hi g)).mpr ⟨by grind,by grind⟩
 have iq:=(Q.ins _).mp pl i
 unfold L6 at iq
 generalize (g - (nth cs i).1) / ((nth cs (i+1)).1 - (nth cs i).1)=t at *
 generalize (nth cs i).1=a at *
 generalize (nth cs i).2=x at *
 generalize (nth cs (i+1)).1=b at *
 generalize (nth cs (i+1)).2=y at *
 simp only at iq
 have:0≤(a - b)*((x+(y - x)*t) - hi g):=by
  have:(a - b)*((x+(y - x)*t) - hi g)=(b - a)*(hi g - x) - (y - x)*((b - a)*t):=by grind
  rw[this,show(b - a)*t=g - a by grind]
  exact iq
 have:=u0 (show 0<a - b by grind) this
 grind
theorem uT{a b:Rat}:(a - a) / (b - a)=0:=by rw[Ng];grind
theorem uS{a b:Rat}(h:a≠b):(b - a) / (b - a)=1:=by
 have hn:b - a≠0:=by grind
 have:=Jo (a:=b - a) hn
 exact D4 hn (by grind)
theorem J5.edge_lo(Q:J5 cs P)(C:ff P lo hi){G:List Rat}(hG:Ris G)(hh:∀ z∈cs,z.1∈G){i:Nat}(h:(nth cs i).1<(nth cs (i+1)).1) :
  ((nth cs i).1 - (nth cs (i+1)).1)*((nth cs i).2+(nth cs (i+1)).2) = -(cum lo G (nth cs (i+1)).1 - cum lo G (nth cs i).1):=by
 have e1:=Q.lo_on C h (JV) (by grind)
 have e2:=Q.lo_on C h (by grind) (JV)
 rw[uT]at e1
 rw[uS (by grind)]at e2
 have:=km (f:=lo) (c:=(nth cs i).2 - ((nth cs (i+1)).2 - (nth cs i).2) / ((nth cs (i+1)).1 - (nth cs i).1)*(nth cs i).1) (s:=((nth cs (i+1)).2 - (nth cs i).2) / ((nth cs (i+1)).1 - (nth cs i).1)) G _ _ hG (hh _ (o7 Q.ne i)) (hh _ (o7 Q.ne (i+1))) (by grind) fun x _ x1 x2=>by
  rw[Q.lo_on C h x1 x2,nX (by grind)]
 rw[this,e1,e2]
 generalize (nth cs i).1=a at *
 generalize (nth cs i).2=x at *
 generalize (nth cs (i+1)).1=b at *
 generalize (nth cs (i+1)).2=y at *
 grind
theorem J5.edge_hi(Q:J5 cs P)(C:ff P lo hi){G:List Rat}(hG:Ris G)(hh:∀ z∈cs,z.1∈G){i:Nat}(h:(nth cs (i+1)).1≤(nth cs i).1) :
  ((nth cs i).1 - (nth cs (i+1)).1)*((nth cs i).2+(nth cs (i+1)).2)=cum hi G (nth cs i).1 - cum hi G (nth cs (i+1)).1:=by
 by_cases e:(nth cs (i+1)).1=(nth cs i).1
 ·rw[e];grind
 have h:(nth cs (i+1)).1<(nth cs i).1:=by grind
 have e1:=Q.hi_on C h (by grind) (JV)
 have e2:=Q.hi_on C h (JV) (by grind)
 rw[uT]at e1
 rw[uS (by grind)]at e2
 have:=km (f:=hi) (c:=(nth cs i).2 - ((nth cs (i+1)).2 - (nth cs i).2) / ((nth cs (i+1)).1 - (nth cs i).1)*(nth cs i).1) (s:=((nth cs (i+1)).2 - (nth cs i).2) / ((nth cs (i+1)).1 - (nth cs i).1)) G _ _ hG (hh _ (o7 Q.ne (i+1))) (hh _ (o7 Q.ne i)) (by grind) fun x _ x1 x2=>by
  rw[Q.hi_on C h x1 x2,nX (by grind)]
 rw[this,e1,e2]
 generalize (nth cs i).1=a at *
 generalize (nth cs i).2=x at *
 generalize (nth cs (i+1)).1=b at *
 generalize (nth cs (i+1)).2=y at *
 grind
end
section
variable {cs:List Zr} {P:Zr→Prop} {lo hi:Rat→Rat}
theorem tel(L:List Zr):∀ n:Nat,z9 (fun i=>cr (nth L i) (nth L (i+1))) n=z9 (fun i=>((nth L i).1 - (nth L (i+1)).1)*((nth L i).2+(nth L (i+1)).2)) n+((nth L n).1*(nth L n).2 - (nth L 0).1*(nth L 0).2):=fun n=>by
 induction n with
 | zero=>show(0:Rat)=0+_;grind
 | succ n ih =>
  show z9 _ n+cr (nth L n) (nth L (n+1))=z9 _ n+((nth L n).1 - (nth L (n+1)).1)*((nth L n).2+(nth L (n+1)).2)+_
  rw[ih];unfold cr;grind
theorem J5.len(Q:J5 cs P):0<cs.length:=Kj.mpr Q.ne
theorem J5.upto(Q:J5 cs P)(C:ff P lo hi){G:List Rat}(hG:Ris G)(hh:∀ z∈cs,z.1∈G):∀ k,k+1≤cs.length →
  (((nth cs k).1<(nth cs (k+1)).1∧(∀ j,j≤k+1→(nth cs j).1≤(nth cs (k+1)).1) ∧
   z9 (fun i=>((nth cs i).1 - (nth cs (i+1)).1)*((nth cs i).2+(nth cs (i+1)).2)) (k+1) = -(cum lo G (nth cs (k+1)).1 - cum lo G (nth cs 0).1)) ∨
  ((nth cs (k+1)).1≤(nth cs k).1∧∃ m,(∀ j,j≤k+1→(nth cs j).1≤(nth cs m).1) ∧
   z9 (fun i=>((nth cs i).1 - (nth cs (i+1)).1)*((nth cs i).2+(nth cs (i+1)).2)) (k+1) = -(cum lo G (nth cs m).1 - cum lo G (nth cs 0).1)+(cum hi G (nth cs m).1 - cum hi G (nth cs (k+1)).1))):=fun k=>by
 induction k with
 | zero =>
  intro _
  left
  refine⟨Q.rise0,fun j hj=>?_,?_⟩
  ·have r:=Q.rise0
   rcases Nat.le_one_iff_eq_zero_or_eq_one.mp hj with rfl|rfl
   ·grind
   ·exact JV
  ·have e:=Q.edge_lo C hG hh Q.rise0
   show(0:Rat)+((nth cs 0).1 - (nth cs (0+1)).1)*((nth cs 0).2+(nth cs (0+1)).2)=_
   rw[e];grind
 | succ k ih =>
  intro hk
  rcases ih (by omega)with⟨r,mx,s⟩|⟨r,m,mx,s⟩
  ·by_cases r2:(nth cs (k+1)).1<(nth cs (k+1+1)).1
   ·left
    refine⟨r2,fun j hj=>?_,?_⟩
    ·by_cases e:j=k+1+1
     ·rw[e];exact JV
     ·have:=mx j (by omega);grind
    ·have e:=Q.edge_lo C hG hh r2
     show z9 _ (k+1)+((nth cs (k+1)).1 - (nth cs (k+1+1)).1)*((nth cs (k+1)).2+(nth cs (k+1+1)).2)=_
     rw[s,e];grind
   ·right
    refine⟨by grind,k+1,fun j hj=>?_,?_⟩
    ·by_cases e:j=k+1+1
     ·rw[e];grind
     ·exact mx j (by omega)
    ·have e:=Q.edge_hi C hG hh (i:=k+1) (by grind)
     show z9 _ (k+1)+((nth cs (k+1)).1 - (nth cs (k+1+1)).1)*((nth cs (k+1)).2+(nth cs (k+1+1)).2)=_
     rw[s,e]
  ·have r2:¬ (nth cs (k+1)).1<(nth cs (k+1+1)).1:=fun r2=>by
    have e:=Q.turn r r2
    exact Q.chn.nd 0 (k+1) (by omega) (by omega) e.symm
   right
   refine⟨by grind,m,fun j hj=>?_,?_⟩
   ·by_cases e:j=k+1+1
    ·have:=mx (k+1) (by omega);rw[e];grind
    ·exact mx j (by omega)
   ·have e:=Q.edge_hi C hG hh (i:=k+1) (by grind)
    show z9 _ (k+1)+((nth cs (k+1)).1 - (nth cs (k+1+1)).1)*((nth cs (k+1)).2+(nth cs (k+1+1)).2)=_
    rw[s,e];grind
theorem J5.area(Q:J5 cs P)(C:ff P lo hi){G:List Rat}(hG:Ris G)(hh:∀ z∈cs,z.1∈G) :
  ∃ b,(∃ z∈cs,z.1=b)∧(∀ z∈cs,z.1≤b)∧a2 cs=(cum hi G b - cum hi G (nth cs 0).1) - (cum lo G b - cum lo G (nth cs 0).1):=by
 have hl:=Q.len
 have h:=Q.upto C hG hh (cs.length - 1) (by omega)
 rw[show cs.length - 1+1=cs.length by omega]at h
 have e0:nth cs cs.length=nth cs 0:=by have:=yj cs 0;rwa [Mg]at this
 have al:∀ z∈cs,∃ j,j≤cs.length∧nth cs j=z:=fun z hz=>by
  obtain⟨j,hj,e⟩:=List.getElem_of_mem hz
  exact⟨j,by omega,by rw[Z1 hj,e]⟩
 have ta:=tel cs cs.length
 have ta:a2 cs=_:=ta
 rw[e0]at ta h
 rcases h with⟨r,mx,s⟩|⟨r,m,mx,s⟩
 ·exfalso
  have:=mx 1 (by
   have:=Q.rise0
   by_cases e:cs.length=0
   ·omega
   ·omega)
  have:=Q.rise0
  grind
 ·refine⟨(nth cs m).1,⟨_,o7 Q.ne m,rfl⟩,fun z hz=>?_,?_⟩
  ·obtain⟨j,hj,rfl⟩:=al z hz
   exact mx j hj
  ·rw[ta,s];grind
end
theorem qe{ls:List T3}(hok:∀ l∈ls,LineOk l):B6 ls 0 0=true:=by
 unfold B6
 rw[Kl]
 intro l hl
 have:=(hok l hl).pos
 rw[D5]
 exact⟨by grind,by grind⟩
theorem kB{a b:Bool}(h:a=true↔b=true):a=b:=by cases a<;>cases b<;>simp_all
theorem cJ(ls:List T3)(y u:Rat):B6 ls y u=true ↔ ∀ l∈ls,l.1*y+l.2.1*u≤l.2.2∧-(l.1*y+l.2.1*u)≤l.2.2:=by
 unfold B6
 rw[Kl]
 exact⟨fun h l hl=>(D5 l y u).mp (h l hl),fun h l hl=>(D5 l y u).mpr (h l hl)⟩
theorem yo(ls:List T3)(z:Zr):B6 ls z.1 z.2=B6 ls (lmZ (-1) 0 0 (-1) z).1 (lmZ (-1) 0 0 (-1) z).2:=by
 refine kB ?_
 rw[cJ,cJ]
 unfold lmZ
 constructor
 ·intro h l hl;have:=h l hl;exact⟨by show l.1*(-1*z.1+0*z.2)+l.2.1*(0*z.1 + -1*z.2)≤_;grind,by show -(l.1*(-1*z.1+0*z.2)+l.2.1*(0*z.1 + -1*z.2))≤_;grind⟩
 ·intro h l hl
  obtain⟨h1,h2⟩:=h l hl
  have h1:l.1*(-1*z.1+0*z.2)+l.2.1*(0*z.1 + -1*z.2)≤l.2.2:=h1
  have h2:-(l.1*(-1*z.1+0*z.2)+l.2.1*(0*z.1 + -1*z.2))≤l.2.2:=h2
  exact⟨by grind,by grind⟩
theorem vw{ls:List T3}(hok:∀ l∈ls,LineOk l){cs:List Zr}(e:F6 ls=some cs):ay ls cs∧¬ F8 ls:=by
 rcases gZ hok with⟨e',_⟩|⟨ds,e',na,C⟩
 ·rw[e]at e';cases e'
 ·rw[e]at e';cases e';exact⟨C,na⟩
theorem CK{ls:List T3}(hok:∀ l∈ls,LineOk l){cs:List Zr}(C:ay ls cs){z:Zr}(h:z∈cs):ngZ z∈cs:=by
 have:=(vt hok hok (a:=-1) (b:=0) (c:=0) (d:=-1) (by grind) (yo ls) C C z).mp h
 have e:lmZ (-1) 0 0 (-1) z=ngZ z:=by unfold lmZ ngZ;exact Prod.ext (by show -1*z.1+0*z.2 = -z.1;grind) (by show 0*z.1 + -1*z.2 = -z.2;grind)
 rwa [e]at this
theorem xM{ls:List T3}(hok:∀ l∈ls,LineOk l){cs:List Zr}(e:F6 ls=some cs):J5 cs (fun z=>B6 ls z.1 z.2=true):=by
 obtain⟨C,_⟩:=vw hok e
 exact⟨C.ne,C.chn,C.low,fun x hx=>(S8 ls x).mp ((C.mem x).mp hx).sup,fun z=>(CL hok e z.1 z.2).symm,qe hok,fun x hx=>CK hok C hx⟩
end GM
namespace DL
open PySem PySem.Spec L2
open PyProof.Rows hiding St
section
variable {X:Cx} {x:Expr} {t:DTE}
end
end DL
namespace GM
open PySem PySem.Spec L2 DL
open RM (sz)
local macro_rules|`(tactic| walk_at "inj")=>`(tactic| (rename_i e h;simp only[List.cons.injEq,GM.E8,GM.K7,GM.G2,and_true,true_and,GM.g8,GM.h8,GM.g6,GM.h9,GM.g7,D.tup.injEq,D.ref.injEq,D.int.injEq,D.str.injEq,D.bl.injEq,D.vl.injEq,IZ,and_assoc]at e;(repeat(obtain⟨e1,e⟩:=e;subst e1));subst e;exact h))
local macro_rules|`(tactic| walk_at "injs")=>`(tactic| (rename_i e o h;rcases o with o|o<;>(subst o;first|(exfalso;simp only[D.tup.injEq,List.cons.injEq,reduceCtorEq,false_and,and_false]at e;done)|(simp only[List.cons.injEq,GM.E8,GM.K7,GM.G2,and_true,true_and,GM.g8,GM.h8,GM.g6,GM.h9,GM.g7,D.tup.injEq,D.ref.injEq,D.int.injEq,D.str.injEq,D.bl.injEq,D.vl.injEq,IZ,and_assoc]at e;(repeat(obtain⟨e1,e⟩:=e;subst e1));subst e;exact h))))
abbrev aW(a b:Int)(M:Mem)(R:DK)(Y:DXK):Prop:=b≠0∧R (f7 (Jv a b)) M
def N8:DSp:=fun ds M R Y=>∃(a b:Int),ds=[.int a,.int b]∧aW a b M R Y
theorem mE{a b:Int}{M:Mem}{R:DK}{Y:DXK}:N8 [.int a,.int b] M R Y=(aW a b M R Y):=propext ⟨fun z=>by obtain⟨_,_,_,_⟩:=z;walk_at "inj",fun h=>⟨a,b,rfl,h⟩⟩
abbrev T9(q r:Rat)(M:Mem)(R:DK)(Y:DXK):Prop:=sz q+sz r≤9000000∧R (f7 (q+r)) M
def fT:DSp:=fun ds M R Y=>∃(q r:Rat),ds=[f7 q,f7 r]∧T9 q r M R Y
theorem iL{q r:Rat}{M:Mem}{R:DK}{Y:DXK}:fT [f7 q,f7 r] M R Y=(T9 q r M R Y):=propext ⟨fun z=>by obtain⟨_,_,_,_⟩:=z;walk_at "inj",fun h=>⟨q,r,rfl,h⟩⟩
abbrev P0(q r:Rat)(M:Mem)(R:DK)(Y:DXK):Prop:=sz q+sz r≤9000000∧R (f7 (q - r)) M
def U4:DSp:=fun ds M R Y=>∃(q r:Rat),ds=[f7 q,f7 r]∧P0 q r M R Y
theorem dE{q r:Rat}{M:Mem}{R:DK}{Y:DXK}:U4 [f7 q,f7 r] M R Y=(P0 q r M R Y):=propext ⟨fun z=>by obtain⟨_,_,_,_⟩:=z;walk_at "inj",fun h=>⟨q,r,rfl,h⟩⟩
abbrev O8(q r:Rat)(M:Mem)(R:DK)(Y:DXK):Prop:=sz q+sz r≤9000000∧R (f7 (q*r)) M
def G1:DSp:=fun ds M R Y=>∃(q r:Rat),ds=[f7 q,f7 r]∧O8 q r M R Y
theorem dB{q r:Rat}{M:Mem}{R:DK}{Y:DXK}:G1 [f7 q,f7 r] M R Y=(O8 q r M R Y):=propext ⟨fun z=>by obtain⟨_,_,_,_⟩:=z;walk_at "inj",fun h=>⟨q,r,rfl,h⟩⟩
theorem ur{a b:Int}(m n:Nat)(ha:a.natAbs<2 ^ m)(hb:b.natAbs<2 ^ n)(h:m+n≤100000000):IntMulOk a b:=by
 have hx:∀(x:Int) (k:Nat),x.natAbs<2 ^ k→Builtin.Int.intBits x≤k:=fun x k hx=>by
  unfold Builtin.Int.intBits
  split
  ·exact Jr _
  ·rename_i h0
   have:x.natAbs≠0:=by
    intro z;apply h0
    first|exact(by simpa using Mx.mp z)|(simp;omega)
   have:=(Mn this).mpr hx
   omega
 exact PySem.IntMulOk.of_le (hx a m ha) (hx b n hb) (by omega)
theorem bNN{q r:Rat}(h:sz q+sz r≤9000000):IntMulOk q.num r.num:=ur _ _ (r9 q) (r9 r) (by omega)
theorem bND{q r:Rat}(h:sz q+sz r≤9000000):IntMulOk q.num (r.den:Int):=ur _ _ (r9 q) (j9 r) (by omega)
theorem bDD{q r:Rat}(h:sz q+sz r≤9000000):IntMulOk (q.den:Int) (r.den:Int):=ur _ _ (j9 q) (j9 r) (by omega)
noncomputable def lcL(qs:List Rat):Nat:=qs.foldl (fun c q=>A7 c q.den) 1
abbrev gf(qs:List Rat)(M:Mem)(R:DK)(Y:DXK):Prop:=(qs.length≤60∧∀ q∈qs,sz q≤5000)∧R (.int ((lcL qs:Nat):Int)) M
def Bo:DSp:=fun ds M R Y=>∃(qs:List Rat),ds=[.vl (qs.map f7)]∧gf qs M R Y
theorem qI{qs:List Rat}{M:Mem}{R:DK}{Y:DXK}:Bo [.vl (qs.map f7)] M R Y=(gf qs M R Y):=propext ⟨fun z=>by obtain⟨_,_,_⟩:=z;walk_at "inj",fun h=>⟨qs,rfl,h⟩⟩
abbrev aU(qs:List Rat)(c:Int)(M:Mem)(R:DK)(Y:DXK):Prop:=((qs.length≤60∧∀ q∈qs,sz q≤5000)∧c=((lcL qs:Nat):Int))∧R (.vl ((qs.map fun q=>q.num*((lcL qs / q.den:Nat):Int)).map D.int)) M
def sV:DSp:=fun ds M R Y=>∃(qs:List Rat) (c:Int),ds=[.vl (qs.map f7),.int c]∧aU qs c M R Y
theorem mC{qs:List Rat}{c:Int}{M:Mem}{R:DK}{Y:DXK}:sV [.vl (qs.map f7),.int c] M R Y=(aU qs c M R Y):=propext ⟨fun z=>by obtain⟨_,_,_,_⟩:=z;walk_at "inj",fun h=>⟨qs,c,rfl,h⟩⟩
noncomputable def fk(qs:List Rat):Rat:=qs.foldr (· + ·) 0
abbrev T5(qs:List Rat)(M:Mem)(R:DK)(Y:DXK):Prop:=(qs.length≤60∧∀ q∈qs,sz q≤5000)∧R (f7 (fk qs)) M
def lz:DSp:=fun ds M R Y=>∃(qs:List Rat),ds=[.vl (qs.map f7)]∧T5 qs M R Y
theorem iF{qs:List Rat}{M:Mem}{R:DK}{Y:DXK}:lz [.vl (qs.map f7)] M R Y=(T5 qs M R Y):=propext ⟨fun z=>by obtain⟨_,_,_⟩:=z;walk_at "inj",fun h=>⟨qs,rfl,h⟩⟩
abbrev P4(y u z w:Rat)(M:Mem)(R:DK)(Y:DXK):Prop:=(sz y≤1200∧sz u≤1200∧sz z≤1200∧sz w≤1200)∧R (f7 (y*w - z*u)) M
def gc:DSp:=fun ds M R Y=>∃(y u z w:Rat),ds=[D9 y u,D9 z w]∧P4 y u z w M R Y
theorem dJ{y u z w:Rat}{M:Mem}{R:DK}{Y:DXK}:gc [D9 y u,D9 z w] M R Y=(P4 y u z w M R Y):=propext ⟨fun z=>by obtain⟨_,_,_,_,_,_⟩:=z;walk_at "inj",fun h=>⟨y,u,z,w,rfl,h⟩⟩
abbrev aZ(cs:List Zr)(M:Mem)(R:DK)(Y:DXK):Prop:=(cs.length≤60∧2≤cs.length∧∀ z∈cs,sz z.1≤1200∧sz z.2≤1200)∧R (f7 (a2 cs*(1 / 2))) M
def sZ:DSp:=fun ds M R Y=>∃(cs:List Zr),ds=[.vl (cs.map rD)]∧aZ cs M R Y
theorem mK{cs:List Zr}{M:Mem}{R:DK}{Y:DXK}:sZ [.vl (cs.map rD)] M R Y=(aZ cs M R Y):=propext ⟨fun z=>by obtain⟨_,_,_⟩:=z;walk_at "inj",fun h=>⟨cs,rfl,h⟩⟩
abbrev jw(cs:List Zr)(M:Mem)(R:DK)(Y:DXK):Prop:=(cs.length≤60∧2≤cs.length∧∀ z∈cs,sz z.1≤1200∧sz z.2≤1200)∧R (f7 (a2 cs*(1 / 2))) M
theorem oq(qs:List Rat):0<lcL qs:=by
 have:∀(xs:List Rat) (c:Nat),0<c→0<xs.foldl (fun c q=>A7 c q.den) c:=fun xs=>by
  induction xs with
  | nil=>exact fun c h=>h
  | cons x xs ih=>exact fun c h=>ih _ (by show 0<A7 c x.den;rw[G6];exact Mt h x.den_pos)
 exact this _ _ (by decide)
theorem yq{qs:List Rat}{q:Rat}(h:q∈qs):q.den ∣ lcL qs:=by
 have up:∀(xs:List Rat) (c:Nat),c ∣ xs.foldl (fun c q=>A7 c q.den) c:=fun xs=>by
  induction xs with
  | nil=>exact fun c=>Nat.dvd_refl c
  | cons x xs ih=>exact fun c=>LG (by show c ∣ A7 c x.den;rw[G6];exact Lc _ _) (ih _)
 have:∀(xs:List Rat) (c:Nat),q∈xs→q.den ∣ xs.foldl (fun c q=>A7 c q.den) c:=fun xs=>by
  induction xs with
  | nil=>exact fun c h=>nomatch h
  | cons x xs ih =>
   intro c h
   rcases IE.mp h with rfl|h
   ·exact LG (by rw[G6];exact LB _ _) (up xs (A7 c q.den))
   ·exact ih _ h
 exact this _ _ h
theorem uB:∀(qs:List Rat) (c n:Nat),(∀ q∈qs,sz q≤5000)→c<2 ^ n→qs.foldl (fun c q=>A7 c q.den) c<2 ^ (n+5000*qs.length):=fun qs=>by
 induction qs with
 | nil=>exact fun c n _ h=>h
 | cons q qs ih =>
  intro c n hq hc
  have hd:q.den<2 ^ 5000:=B1 q (hq q (.head _))
  have h1:A7 c q.den<2 ^ (n+5000):=by
   rw[G6,Mp]
   refine Jl (IT (Kd _ _) (IL _)) ?_
   exact LJ hc hd
  have:=ih _ _ (fun x hx=>hq x (.tail _ hx)) h1
  show qs.foldl (fun c q=>A7 c q.den) (A7 c q.den)<_
  rw[IA]
  exact IF this (Jh (by decide) (by omega))
theorem sF:∀(qs:List Rat) (N:Nat),0<N→(∀ q∈qs,q.den ∣ N)→Jv ((qs.map fun q=>q.num*((N / q.den:Nat):Int)).sum) N=fk qs:=fun qs=>by
 induction qs with
 | nil =>
  intro N hN _
  show Jv 0 N=0
  rw[Rat.zero_divInt]
 | cons q qs ih =>
  intro N hN hd
  rw[Jj,List.sum_cons]
  have e:=ih N hN fun x hx=>hd x (.tail _ hx)
  have n0:(N:Int)≠0:=by omega
  have e1:Jv (q.num*((N / q.den:Nat):Int)) N=q:=by
   obtain⟨k,rfl⟩:=hd q (.head _)
   rw[LH _ q.den_pos]
   have k0:(k:Int)≠0:=fun z=>by rw[Lm,z]at n0;exact n0 (ML _)
   rw[Lm,Mm k0,Jx]
  show _=q+fk qs
  rw[← e]
  conv=>rhs;rw[← e1]
  rw[LZ _ _ n0 n0,← Int.add_mul,Mm n0]
theorem Z5{ds:List D}{n:Nat}:K0 ds (some (n:Int)) none=ds.drop n:=by
 unfold K0
 rw[HT.xx,HT.sY]
 by_cases h:n≤ds.length
 ·rw[Nd h,JD (by rw[Jq];omega)]
 ·rw[MT (by omega),LP (by omega),LP (by omega),List.take_nil]
theorem oX{cs:List Zr}:K0 (cs.map rD) (some 1) none++K0 (cs.map rD) none (some 1)=(cs.drop 1++cs.take 1).map rD:=by
 rw[show(some (1:Int))=some ((1:Nat):Int)from rfl,Z5,cS,← MA,← MB,← Jn]
theorem bt:∀(xs ys:List Zr),Q4 (xs.map rD) (ys.map rD)=(xs.zip ys).map fun p=>D.tup [rD p.1,rD p.2]
 | [],_=>by cases ‹List Zr›<;>rfl
 | _ :: _,[]=>rfl
 | x :: xs,y :: ys=>by
  show D.tup [rD x,rD y] :: Q4 (xs.map rD) (ys.map rD)=_
  rw[bt xs ys];rfl
noncomputable def gX(cs:List Zr):List Rat:=(cs.zip (cs.drop 1++cs.take 1)).map fun p=>p.1.1*p.2.2 - p.2.1*p.1.2
theorem cg{cs:List Zr}(h:0<cs.length):(cs.drop 1++cs.take 1).length=cs.length:=by rw[IX,Jq,Jg];omega
theorem CH{cs:List Zr}(h:1<cs.length){i:Nat}(hi:i<cs.length):(gX cs)[i]? = some (cr (nth cs i) (nth cs (i+1))):=by
 unfold gX
 have hr:=cg (show 0<cs.length by omega)
 rw[Jb,IS (by rw[JB,hr];omega),Kx]
 have e1:cs[i]=nth cs i:=(Z1 hi).symm
 have e2:(cs.drop 1++cs.take 1)[i]'(by omega)=nth cs (i+1):=by rw[← B0 cs h,Z1 (by omega)]
 show some (_*_ - _*_)=_
 rw[e1,e2]
 unfold cr
 congr 1
 grind
theorem sG:∀(qs:List Rat) (f:Nat→Rat),(∀ i,i<qs.length→qs[i]? = some (f i))→fk qs=z9 f qs.length:=fun qs=>by
 induction qs with
 | nil=>intro f _;rfl
 | cons q qs ih =>
  intro f h
  have h0:=h 0 (by simp)
  have h0:q=f 0:=by simpa using h0
  have:=ih (fun i=>f (i+1)) fun i hi=>by
   have:=h (i+1) (by simpa using hi)
   simpa using this
  show q+fk qs=_
  rw[this,IA,Ls qs.length 1,jf]
  rw[show z9 f 1=f 0 by show(0:Rat)+f 0=f 0;grind,h0]
  congr 1
  exact K1 fun i _=>by rw[Ls]
theorem gW{cs:List Zr}(h:0<cs.length):(gX cs).length=cs.length:=by unfold gX;rw[ID,JB,cg h];omega
theorem CI{cs:List Zr}(h:1<cs.length):fk (gX cs)=a2 cs:=by
 rw[sG (gX cs) (fun i=>cr (nth cs i) (nth cs (i+1))) fun i hi=>CH h (by rw[gW (by omega)]at hi;exact hi),gW (by omega)];rfl
theorem CG{cs:List Zr}(hz:∀ z∈cs,sz z.1≤1200∧sz z.2≤1200):∀ q∈gX cs,sz q≤5000:=fun q hq=>by
 obtain⟨p,hp,rfl⟩:=IJ.mp hq
 have m1:=Ko hp
 have m2:p.2∈cs:=by
  rcases Jc.mp m1.2 with h|h
  ·exact Kq h
  ·exact Jm h
 have a:=hz _ m1.1
 have b:=hz _ m2
 have c1:=RM.D8 p.1.1 p.2.2
 have c2:=RM.D8 p.2.1 p.1.2
 have c3:=RM.Q5 (p.1.1*p.2.2) (p.2.1*p.1.2)
 show sz (p.1.1*p.2.2 - p.2.1*p.1.2)≤5000
 omega
theorem Bh:∀(qs:List Rat),(∀ q∈qs,sz q≤5000)→sz (fk qs)≤5001*qs.length+1:=fun qs=>by
 induction qs with
 | nil=>intro _;show sz 0≤_;rw[RM.aN];omega
 | cons q qs ih =>
  intro h
  have h1:=ih fun x hx=>h x (.tail _ hx)
  have h2:=h q (.head _)
  have h3:=RM.X8 q (fk qs)
  show sz (q+fk qs)≤_
  rw[IA];omega
end GM
namespace GM
open PySem PySem.Spec L2 DL
open RM (sz)
structure cX(x:Str × Rat):Prop where
 ok:w6 x
 s:sz x.2≤40
local macro_rules|`(tactic| walk_at "inj")=>`(tactic| (rename_i e h;simp only[List.cons.injEq,GM.E8,GM.K7,GM.G2,and_true,true_and,GM.g8,GM.h8,GM.g6,GM.h9,GM.g7,D.tup.injEq,D.ref.injEq,D.int.injEq,D.str.injEq,D.bl.injEq,D.vl.injEq,IZ,and_assoc]at e;(repeat(obtain⟨e1,e⟩:=e;subst e1));subst e;exact h))
local macro_rules|`(tactic| walk_at "injs")=>`(tactic| (rename_i e o h;rcases o with o|o<;>(subst o;first|(exfalso;simp only[D.tup.injEq,List.cons.injEq,reduceCtorEq,false_and,and_false]at e;done)|(simp only[List.cons.injEq,GM.E8,GM.K7,GM.G2,and_true,true_and,GM.g8,GM.h8,GM.g6,GM.h9,GM.g7,D.tup.injEq,D.ref.injEq,D.int.injEq,D.str.injEq,D.bl.injEq,D.vl.injEq,IZ,and_assoc]at e;(repeat(obtain⟨e1,e⟩:=e;subst e1));subst e;exact h))))
abbrev U0(p:Addr)(M:Mem)(R:DK)(Y:DXK):Prop:=C3 M p∧∀(q:Rat) M',sz q≤40→A8 p M M'→R (f7 q) M'
def lD:DSp:=fun ds M R Y=>∃(p:Addr),ds=[.ref p]∧U0 p M R Y
theorem iM{p:Addr}{M:Mem}{R:DK}{Y:DXK}:lD [.ref p] M R Y=(U0 p M R Y):=propext ⟨fun z=>by obtain⟨_,_,_⟩:=z;walk_at "inj",fun h=>⟨p,rfl,h⟩⟩
end GM
namespace GM
open PySem PySem.Spec L2 DL
open RM (sz)
theorem oh{bs:List (Str × Rat)}{l:T3}:∀{i:Nat},l∈v6 bs i ↔ ∃ j x,j<i∧bs[j]? = some x∧x.1 = "stop" ∧ l=((f6 (bs.take j) (1,0)).1,(f6 (bs.take j) (0,1)).1,x.2):=fun{i}=>by
 induction i with
 | zero =>
  constructor
  ·intro h;cases h
  ·rintro⟨j,_,h,_⟩;exact absurd h (Mc j)
 | succ i ih =>
  show l∈v6 bs i++_↔_
  rw[Jc,ih]
  constructor
  ·rintro(⟨j,x,h1,h2⟩|h)
   ·exact⟨j,x,by omega,h2⟩
   ·cases e:bs[i]? with
    | none=>rw[e]at h;cases h
    | some x =>
     rw[e]at h
     by_cases c:x.1 = "stop"
     ·have h:l∈(if x.1 = "stop" then[_]else[]):=h
      rw[if_pos c]at h
      exact⟨i,x,by omega,e,c,Ja.mp h⟩
     ·have h:l∈(if x.1 = "stop" then[_]else[]):=h
      rw[if_neg c]at h;cases h
  ·rintro⟨j,x,h1,h2,h3,h4⟩
   by_cases c:j<i
   ·exact .inl ⟨j,x,c,h2,h3,h4⟩
   ·obtain rfl:j=i:=by omega
    right
    rw[h2]
    show l∈(if x.1 = "stop" then[_]else[])
    rw[if_pos h3,h4]
    exact Ja.mpr rfl
theorem sL{x:Str × Rat}(h:x.1 = "stop")(y u:Rat):y7 x y u=(y,u):=by
 unfold y7
 rw[if_neg (by rw[h];decide),if_neg (by rw[h];decide)]
theorem tY{as cs:List (Str × Rat)}{x:Str × Rat}(h:x.1 = "stop")(r:Rat × Rat):f6 (as++x :: cs) r=f6 (as++cs) r:=by
 unfold f6
 rw[Jw,Jw,Nc,sL h]
theorem Ef(bs:List (Str × Rat)):T0 bs 0=v6 bs bs.length:=by
 unfold T0
 conv=>rhs;rw[← List.map_id (v6 bs bs.length)]
 refine KA fun l _=>?_
 show(l.1,l.1*0+l.2.1,l.2.2)=l
 rw[show l.1*0+l.2.1=l.2.1 by grind]
theorem yH{cs:List Zr}(hn:cs≠[])(h:Chn cs):2≤cs.length:=by
 match cs,hn with
 | [],hn=>exact absurd rfl hn
 | [a],_ =>
  have:=h.cr 0
  have e1:nth [a] 0=a:=rfl
  have e2:nth [a] (0+1)=a:=by simp[nth]
  rw[e1,e2]at this
  unfold cr at this
  grind
 | _ :: _ :: _,_=>exact Nat.le_add_left 2 _
structure BnL(ls:List T3):Prop where
 ok:∀ l∈ls,LineOk l
 lsk:qv ls
 bd:∀ cs,F6 ls=some cs→cs.length≤50∧2≤cs.length∧∀ z∈cs,sz z.1≤1177∧sz z.2≤1177
theorem xp{bs:List (Str × Rat)}{x:Rat}(hl:bs.length≤12)(hok:∀ x∈bs,w6 x)(hx:sz x≤41):BnL (T0 bs x):=by
 have hso:=jh hl hok hx
 have hlo:∀ l∈T0 bs x,LineOk l:=fun l h=>(hso l h).1.toLineOk
 refine⟨hlo,xo hl hok hx,fun cs ec=>?_⟩
 obtain⟨hcl,hcz⟩:=CJ hlo (fun l h=>(hso l h).2.2) ec
 have h12:(T0 bs x).length≤12:=IT (eD bs x) hl
 have C:=(vw hlo ec).1
 exact⟨by omega,yH C.ne C.chn,hcz⟩
theorem uw{bs:List (Str × Rat)}(hl:bs.length≤12)(hok:∀ x∈bs,w6 x):BnL (v6 bs bs.length):=by
 have:=xp (x:=0) hl hok (by rw[RM.aN];decide)
 rwa [Ef]at this
abbrev O9(p:Addr)(M:Mem)(R:DK)(Y:DXK):Prop:=C3 M p∧∀ x M',cX x→A8 p M M'→R (p7 x) M'
def fU:DSp:=fun ds M R Y=>∃(p:Addr),ds=[.ref p,.vl [.str "gap",.str "glass",.str "stop",.str "gap",.str "glass",.str "stop"]]∧O9 p M R Y
theorem dD{p:Addr}{M:Mem}{R:DK}{Y:DXK}:fU [.ref p,.vl [.str "gap",.str "glass",.str "stop",.str "gap",.str "glass",.str "stop"]] M R Y=(O9 p M R Y):=propext ⟨fun z=>by obtain⟨_,_,_⟩:=z;walk_at "inj",fun h=>⟨p,rfl,h⟩⟩
abbrev cc(p:Addr)(M:Mem)(R:DK)(Y:DXK):Prop:=C3 M p∧∀ x M',(cX x∧x.1 = "stop")→A8 p M M'→R (p7 x) M'
abbrev K5(p:Addr)(n:Int)(M:Mem)(R:DK)(Y:DXK):Prop:=C3 M p∧(0≤n∧n≤10)∧∀(bs:List (Str × Rat)) M',bs.length≤10→(∀ x∈bs,cX x)→A8 p M M'→R (.vl (bs.map p7)) M'
def cf:DSp:=fun ds M R Y=>∃(p:Addr) (n:Int),ds=[.ref p,.int n,.vl [.str "gap",.str "glass",.str "stop",.str "gap",.str "glass",.str "stop"]]∧K5 p n M R Y
theorem bz{p:Addr}{n:Int}{M:Mem}{R:DK}{Y:DXK}:cf [.ref p,.int n,.vl [.str "gap",.str "glass",.str "stop",.str "gap",.str "glass",.str "stop"]] M R Y=(K5 p n M R Y):=propext ⟨fun z=>by obtain⟨_,_,_,_⟩:=z;walk_at "inj",fun h=>⟨p,n,rfl,h⟩⟩
noncomputable def zk(z:Rat × Rat):aJ:=([z.1.num,(z.1.den:Int)],[z.2.num,(z.2.den:Int)])
theorem tI{q r:Rat}(h1:q.num=r.num)(h2:(q.den:Int)=(r.den:Int)):q=r:=Rat.ext h1 (by omega)
theorem qw{z w:Rat × Rat}(h:zk z=zk w):z=w:=by
 unfold zk at h
 injection h with h1 h2
 injection h1 with a h1
 injection h1 with b _
 injection h2 with c h2
 injection h2 with d _
 exact Prod.ext (tI a b) (tI c d)
def CW(ws:List (Rat × Rat)):Prop:=ws.Pairwise fun a b=>lt2 (zk a) (zk b)=true
theorem tm{xs ys:List (Rat × Rat)}(hx:CW xs)(hy:CW ys)(h:∀ z,z∈xs↔z∈ys):xs=ys:=by
 have e:=jB (xs.map zk) (ys.map zk) (Ke.mpr hx) (Ke.mpr hy) fun k=>by
  rw[IJ,IJ]
  exact⟨fun⟨z,a,b⟩=>⟨z,(h z).mp a,b⟩,fun⟨z,a,b⟩=>⟨z,(h z).mpr a,b⟩⟩
 exact(Ju fun _ _=>qw).mp e
theorem jV{K:Iy}{H:Hp}:∀{vs:List V} {zs:List (Rat × Rat)},HasL K H vs (zs.map rD)→Q3 K H vs (zs.map zk)
 | _,[],h=>by cases h;exact .nil
 | _,z :: zs,h=>by
  cases h with
  | cons h t =>
  have r:=jV (zs:=zs) t
  cases h with
  | tup s1 l1 =>
  cases l1 with
  | cons g1 l1 =>
  cases l1 with
  | cons g2 l1 =>
  cases l1
  cases g1 with
  | tup s2 l2 =>
  cases l2 with
  | cons i1 l2 =>
  cases l2 with
  | cons i2 l2 =>
  cases l2
  cases i1
  cases i2
  cases g2 with
  | tup s3 l3 =>
  cases l3 with
  | cons j1 l3 =>
  cases l3 with
  | cons j2 l3 =>
  cases l3
  cases j1
  cases j2
  exact .cons s1 s2 s3 r
def Gn:DRC:=fun ds M R=>∃(x:D) (zs:List (Rat × Rat)),ds=[x]∧J4 M x=some (zs.map rD)∧2≤zs.length∧zs.length<64∧zs.Nodup ∧
 ∀ ws:List (Rat × Rat),ws.Perm zs→CW ws→∀ p,M p=none→R (.ref p) (B7 M p (.lst (ws.map rD)))
theorem oK{K:Iy}{H:Hp}:∀{vs:List V} {ds:List D},HasL K H vs ds→∀ i,i<vs.length→Has K H (vs.getD i .non) (ds.getD i .non)
 | _,_,.nil,i,hi=>absurd hi (by simp)
 | _,_,.cons a _,0,_=>a
 | _,_,.cons _ b,i+1,hi=>oK b i (by simpa using hi)
theorem qk{K:Iy}{H:Hp}{vs:List V}{ds:List D}(h:HasL K H vs ds):∀{is:List Nat},(∀ i∈is,i<vs.length)→HasL K H (is.map fun i=>vs.getD i .non) (is.map fun i=>ds.getD i .non):=fun{is} hi=>by
 induction is with
 | nil=>exact .nil
 | cons i is ih=>exact .cons (oK h i (hi i (.head _))) (ih fun j hj=>hi j (.tail _ hj))
theorem eV{X:Cx}(hu:X.A.units+64<cLine):ax X (.builtin "sorted") Gn:=v9.imp (ma hu) fun xs H Q ⟨ds,M,R,hl,am,⟨x,zs,z,hi,l2,l64,nd,h⟩,f⟩=>by
 subst z
 obtain⟨v,rfl,hv⟩:=hl.one
 obtain⟨a,us,rfl,sq,lx⟩:=y9 am hv hi
 have len:us.length=zs.length:=by rw[lx.length,ID]
 refine⟨a,us,zs.map zk,rfl,sq,jV lx,by omega,by omega,?_,fun is hp hr p hn=>?_⟩
 ·exact Ke.mpr (nd.imp fun h e=>h (qw e))
 have hlt:∀ i∈is,i<zs.length:=fun i hi=>by rw[← len];simpa using hp.mem_iff.mp hi
 have e1:(is.map fun i=>(zs.map rD).getD i .non)=(is.map fun i=>zs.getD i (0,0)).map rD:=by
  rw[Js]
  refine KA fun i hi=>?_
  have:=hlt i hi
  simp[this]
 have e2:(is.map fun i=>(zs.map zk).getD i ([],[]))=(is.map fun i=>zs.getD i (0,0)).map zk:=by
  rw[Js]
  refine KA fun i hi=>?_
  have:=hlt i hi
  simp[this]
 have e3:((JK zs.length).map fun i=>zs.getD i (0,0))=zs:=by
  refine Kk (by simp) fun i h1 h2=>?_
  simp[h2]
 rw[e2]at hr
 refine f _ _ (h (is.map fun i=>zs.getD i (0,0)) ?_ (Ke.mp hr) p (am.fresh hn)) _ _ (KT.alloc hn) (am.new hn ?_) (.ref p)
 ·rw[len]at hp
  have:=hp.map fun i=>zs.getD i (0,0)
  rwa [e3]at this
 ·rw[← e1]
  exact qk lx fun i hi=>by rw[len];exact hlt i hi
end GM
namespace GM
open PySem PySem.Spec L2 DL
abbrev O7(xs:List D)(M:Mem)(R:DK)(Y:DXK):Prop:=R (.vl xs.reverse) M
def fP:DSp:=fun ds M R Y=>∃(xs:List D),ds=[.vl xs]∧O7 xs M R Y
theorem dA{xs:List D}{M:Mem}{R:DK}{Y:DXK}:fP [.vl xs] M R Y=(O7 xs M R Y):=propext ⟨fun z=>by obtain⟨_,_,_⟩:=z;walk_at "inj",fun h=>⟨xs,rfl,h⟩⟩
end GM
namespace GM
open PySem PySem.Spec L2 DL
open RM (sz)
noncomputable def fl(z:Zr):Zr:=(z.1,-z.2)
noncomputable def tnL(bs:List (Str × Rat))(z:Zr):Zr:=fl (f6 bs z)
theorem EU(z:Zr):fl (fl z)=z:=Prod.ext rfl (by show - -z.2=z.2;grind)
theorem uA(x:Str × Rat)(z:Zr):y7 x (fl (y7 x z.1 z.2)).1 (fl (y7 x z.1 z.2)).2=fl z:=by
 unfold y7 fl
 by_cases h1:x.1 = "gap"
 ·rw[if_pos h1,if_pos h1]
  exact Prod.ext (by show z.1+x.2*z.2+x.2 * -z.2=z.1;grind) rfl
 ·rw[if_neg h1,if_neg h1]
  by_cases h2:x.1 = "glass"
  ·rw[if_pos h2,if_pos h2]
   exact Prod.ext rfl (by show -(z.2 - x.2*z.1) - x.2*z.1 = -z.2;grind)
  ·rw[if_neg h2,if_neg h2]
theorem nV(xs ys:List (Str × Rat))(z:Zr):f6 (xs++ys) z=f6 ys (f6 xs z):=by unfold f6;rw[Jw]
theorem cj:∀(xs:List (Str × Rat)) (z:Zr),f6 xs.reverse (fl (f6 xs z))=fl z
 | [],z=>rfl
 | x :: xs,z=>by
  rw[Kp,nV]
  have e:f6 (x :: xs) z=f6 xs (y7 x z.1 z.2):=rfl
  rw[e,cj xs]
  exact uA x z
theorem aM(bs:List (Str × Rat))(z:Zr):tnL bs.reverse (tnL bs z)=z:=by
 unfold tnL
 rw[cj,EU]
theorem Bb{bs:List (Str × Rat)}{z w:Zr}(h:tnL bs z=tnL bs w):z=w:=by rw[← aM bs z,h,aM]
theorem sr(bs:List (Str × Rat))(z:Zr):tnL bs z=lmZ (f6 bs (1,0)).1 (f6 bs (0,1)).1 (-(f6 bs (1,0)).2) (-(f6 bs (0,1)).2) z:=by
 have:=V5 bs z.1 z.2
 unfold tnL fl lmZ
 refine Prod.ext this.1 ?_
 show -(f6 bs z).2=_
 have h2:(f6 bs z).2=(f6 bs (1,0)).2*z.1+(f6 bs (0,1)).2*z.2:=this.2
 rw[h2];grind
theorem BP(bs:List (Str × Rat))(z:Zr):f6 bs z=lmZ (f6 bs (1,0)).1 (f6 bs (0,1)).1 (f6 bs (1,0)).2 (f6 bs (0,1)).2 z:=by
 have:=V5 bs z.1 z.2
 exact Prod.ext this.1 this.2
theorem gC{bs:List (Str × Rat)}{l':T3}(h:l'∈v6 bs.reverse bs.reverse.length):∃ l∈v6 bs bs.length,l.2.2=l'.2.2∧∀ z:Zr,l'.1*(tnL bs z).1+l'.2.1*(tnL bs z).2=l.1*z.1+l.2.1*z.2:=by
 obtain⟨j,x,hj,hx,hs,rfl⟩:=oh.mp h
 rw[Ky]at hj
 rw[List.getElem?_reverse hj]at hx
 have hk:bs.length - 1 - j<bs.length:=by omega
 refine⟨_,oh.mpr ⟨bs.length - 1 - j,x,hk,hx,hs,rfl⟩,rfl,fun z=>?_⟩
 have e1:=(V5 (bs.reverse.take j) (tnL bs z).1 (tnL bs z).2).1
 have e2:=(V5 (bs.take (bs.length - 1 - j)) z.1 z.2).1
 show(f6 (bs.reverse.take j) (1,0)).1*_+(f6 (bs.reverse.take j) (0,1)).1*_=(f6 (bs.take (bs.length - 1 - j)) (1,0)).1*_+(f6 (bs.take (bs.length - 1 - j)) (0,1)).1*_
 rw[← e1,← e2]
 have e3:bs.reverse.take j=(bs.drop (bs.length - j)).reverse:=by rw[List.take_reverse]
 rw[e3]
 show(f6 (bs.drop (bs.length - j)).reverse (tnL bs z)).1=(f6 (bs.take (bs.length - 1 - j)) z).1
 unfold tnL
 have e4:f6 bs z=f6 (bs.drop (bs.length - j)) (f6 (bs.take (bs.length - j)) z):=by rw[← nV,Lb]
 rw[e4,cj]
 show(f6 (bs.take (bs.length - j)) z).1=_
 have e5:bs.take (bs.length - j)=bs.take (bs.length - 1 - j)++x :: []:=by
  rw[show bs.length - j=bs.length - 1 - j+1 by omega,Kg,hx];rfl
 rw[e5,tY hs,Kc]
theorem om{bs:List (Str × Rat)}{z:Zr}(h:B6 (v6 bs bs.length) z.1 z.2=true):B6 (v6 bs.reverse bs.reverse.length) (tnL bs z).1 (tnL bs z).2=true:=by
 rw[cJ]at h ⊢
 intro l' hl'
 obtain⟨l,hl,er,ez⟩:=gC hl'
 have:=h l hl
 rw[ez z,← er];exact this
theorem uz(bs:List (Str × Rat))(z:Zr):B6 (v6 bs bs.length) z.1 z.2=B6 (v6 bs.reverse bs.reverse.length) (tnL bs z).1 (tnL bs z).2:=by
 refine kB ⟨om,fun h=>?_⟩
 have:=om h
 rwa [aM,Lf]at this
theorem fe{bs:List (Str × Rat)}(h:F8 (v6 bs bs.length)):F8 (v6 bs.reverse bs.reverse.length):=fun a' ha' b' hb'=>by
 obtain⟨a,ha,_,ea⟩:=gC ha'
 obtain⟨b,hb,_,eb⟩:=gC hb'
 have hh:=h a ha b hb
 have dt:=V6 bs
 have a1:=ea (1,0)
 have a2:=ea (0,1)
 have b1:=eb (1,0)
 have b2:=eb (0,1)
 unfold tnL fl at a1 a2 b1 b2
 dsimp only at a1 a2 b1 b2
 generalize (f6 bs (1,0)).1=A at *
 generalize (f6 bs (1,0)).2=C at *
 generalize (f6 bs (0,1)).1=B at *
 generalize (f6 bs (0,1)).2=E at *
 have x1:a.1=a'.1*A+a'.2.1 * -C:=by grind
 have x2:a.2.1=a'.1*B+a'.2.1 * -E:=by grind
 have y1:b.1=b'.1*A+b'.2.1 * -C:=by grind
 have y2:b.2.1=b'.1*B+b'.2.1 * -E:=by grind
 rw[x1,x2,y1,y2]at hh
 have k:(A*E - B*C)*(a'.1*b'.2.1 - b'.1*a'.2.1)=0:=by grind
 rw[dt]at k
 grind
theorem eT{cs:List Zr}(h:Chn cs):cs.Nodup:=by
 refine Lv.mpr fun i j hi hj hij=>?_
 have:=h.nd i j hij hj
 rwa [Z1 hi,Z1 hj]at this
theorem xE{bs:List (Str × Rat)}(h1:∀ l∈v6 bs bs.length,LineOk l)(h2:∀ l∈v6 bs.reverse bs.reverse.length,LineOk l):(F6 (v6 bs bs.length)=none∧F6 (v6 bs.reverse bs.reverse.length)=none) ∨
  ∃ cs ds,F6 (v6 bs bs.length)=some cs∧F6 (v6 bs.reverse bs.reverse.length)=some ds∧cs.Nodup∧ds.Nodup∧∀ w,w∈cs.map (tnL bs)↔w∈ds:=by
 rcases gZ h1 with⟨e1,al⟩|⟨cs,e1,n1,c1⟩
 ·rcases gZ h2 with⟨e2,_⟩|⟨ds,e2,n2,c2⟩
  ·exact .inl ⟨e1,e2⟩
  ·exact absurd (fe al) n2
 ·rcases gZ h2 with⟨e2,al⟩|⟨ds,e2,n2,c2⟩
  ·have:=fe al
   rw[Lf]at this
   exact absurd this n1
  ·refine .inr ⟨cs,ds,e1,e2,eT c1.chn,eT c2.chn,fun w=>?_⟩
   have dt:=V6 bs
   have key:=vt h2 h1 (a:=(f6 bs (1,0)).1) (b:=(f6 bs (0,1)).1) (c:=-(f6 bs (1,0)).2) (d:=-(f6 bs (0,1)).2) (by grind) (fun z=>by rw[← sr];exact uz bs z) c2 c1
   rw[IJ]
   constructor
   ·rintro⟨z,hz,rfl⟩
    have:=(key z).mp hz
    rwa [← sr]at this
   ·intro hw
    have ew:tnL bs (tnL bs.reverse w)=w:=by
     have:=aM bs.reverse w
     rwa [Lf]at this
    refine⟨tnL bs.reverse w,(key _).mpr ?_,ew⟩
    rw[← sr,ew];exact hw
noncomputable def trA(o:Zr)(p:Zr × Zr):Rat:=(p.1.1 - o.1)*(p.2.2 - o.2) - (p.1.2 - o.2)*(p.2.1 - o.1)
noncomputable def trS(o:Zr):List Zr→Rat
 | a :: b :: r=>trA o (a,b)*(1 / 2)+trS o (b :: r)
 | _=>0
theorem sH(f:Nat→Rat)(n:Nat):z9 f (n+1)=f 0+z9 (fun i=>f (i+1)) n:=by
 rw[Ls,jf]
 rw[show z9 f 1=f 0 by show(0:Rat)+f 0=f 0;grind]
 congr 1
 exact K1 fun i _=>by rw[Ls]
noncomputable def eN(a:Zr):List Zr→Zr
 | []=>a
 | b :: r=>eN b r
noncomputable def crT:List Zr→Rat
 | a :: b :: r=>cr a b+crT (b :: r)
 | _=>0
theorem sm(o:Zr):∀(a:Zr) (r:List Zr),trS o (a :: r)*2=crT (a :: r)+cr o a+cr (eN a r) o
 | a,[]=>by
  show(0:Rat)*2=0+cr o a+cr a o
  unfold cr;grind
 | a,b :: r=>by
  have ih:=sm o b r
  show(trA o (a,b)*(1 / 2)+trS o (b :: r))*2=cr a b+crT (b :: r)+cr o a+cr (eN b r) o
  unfold trA cr at *
  grind
theorem oZ:∀(a:Zr) (r:List Zr),crT (a :: r)=z9 (fun i=>cr ((a :: r).getD i (0,0)) ((a :: r).getD (i+1) (0,0))) r.length
 | a,[]=>rfl
 | a,b :: r=>by
  rw[IA,sH]
  show cr a b+crT (b :: r)=cr a b+_
  rw[oZ b r]
  rfl
theorem ou:∀(a:Zr) (r:List Zr),(a :: r).getD r.length (0,0)=eN a r
 | _,[]=>rfl
 | _,b :: r=>ou b r
theorem CU(a:Zr)(r:List Zr):a2 (a :: r)=crT (a :: r)+cr (eN a r) a:=by
 unfold a2
 rw[IA]
 show z9 _ r.length+_=_
 rw[oZ]
 have nd:∀ i,i<r.length+1→nth (a :: r) i=(a :: r).getD i (0,0):=fun i hi=>by
  unfold nth
  rw[IA,Jt hi]
 congr 1
 ·exact K1 fun i hi=>by rw[nd i (by omega),nd (i+1) (by omega)]
 ·show cr (nth (a :: r) r.length) (nth (a :: r) (r.length+1))=_
  rw[nd r.length (by omega)]
  have e1:nth (a :: r) (r.length+1)=a:=by
   unfold nth
   rw[IA,MN];rfl
  rw[e1,ou]
theorem DS(a:Zr)(r:List Zr):trS a r=a2 (a :: r)*(1 / 2):=by
 rw[CU]
 cases r with
 | nil =>
  show(0:Rat)=(0+cr a a)*(1 / 2)
  unfold cr;grind
 | cons b r =>
  have:=sm a b r
  show trS a (b :: r)=(cr a b+crT (b :: r)+cr (eN b r) a)*(1 / 2)
  grind
noncomputable def trP(o:Zr)(ps:List (Zr × Zr)):Rat:=ps.foldl (fun c p=>c+trA o p*(1 / 2)) 0
theorem so(o:Zr)(ps:List (Zr × Zr))(c:Rat):ps.foldl (fun c p=>c+trA o p*(1 / 2)) c=c+trP o ps:=by
 unfold trP
 induction ps generalizing c with
 | nil=>show c=c+0;grind
 | cons p ps ih =>
  show ps.foldl _ (c+trA o p*(1 / 2))=c+ps.foldl _ (0+trA o p*(1 / 2))
  rw[ih,ih (0+trA o p*(1 / 2))];grind
theorem zU(o:Zr):∀(rs:List Zr),trP o (rs.zip (rs.drop 1))=trS o rs
 | []=>rfl
 | [_]=>rfl
 | a :: b :: r=>by
  have ih:=zU o (b :: r)
  show(((a,b) :: (b :: r).zip r):List (Zr × Zr)).foldl (fun c p=>c+trA o p*(1 / 2)) 0=_
  show((b :: r).zip r).foldl (fun c p=>c+trA o p*(1 / 2)) (0+trA o (a,b)*(1 / 2))=_
  rw[so]
  have ih:trP o ((b :: r).zip r)=trS o (b :: r):=ih
  rw[ih]
  show 0+trA o (a,b)*(1 / 2)+trS o (b :: r)=trA o (a,b)*(1 / 2)+trS o (b :: r)
  grind
theorem tX{bs:List (Str × Rat)}{z:Zr}(hl:bs.length≤12)(hok:∀ x∈bs,w6 x)(h1:sz z.1≤1200)(h2:sz z.2≤1200):sz (f6 bs z).1≤3500∧sz (f6 bs z).2≤3500:=by
 have t:=(nU hok).mono (show 1+42*bs.length≤505 by omega)
 have t4:=t.t4
 obtain⟨a1,a2,a3,a4⟩:=t4
 have l:=V5 bs z.1 z.2
 have e1:(f6 bs z).1=_:=l.1
 have e2:(f6 bs z).2=_:=l.2
 rw[e1,e2]
 have m1:=RM.D8 (f6 bs (1,0)).1 z.1
 have m2:=RM.D8 (f6 bs (0,1)).1 z.2
 have m3:=RM.X8 ((f6 bs (1,0)).1*z.1) ((f6 bs (0,1)).1*z.2)
 have m4:=RM.D8 (f6 bs (1,0)).2 z.1
 have m5:=RM.D8 (f6 bs (0,1)).2 z.2
 have m6:=RM.X8 ((f6 bs (1,0)).2*z.1) ((f6 bs (0,1)).2*z.2)
 exact⟨by omega,by omega⟩
theorem AY{o:Zr}{p:Zr × Zr}(ho:sz o.1≤3500∧sz o.2≤3500)(h1:sz p.1.1≤3500∧sz p.1.2≤3500)(h2:sz p.2.1≤3500∧sz p.2.2≤3500) :
  sz (p.1.1 - o.1)≤7001∧sz (p.1.2 - o.2)≤7001∧sz (p.2.1 - o.1)≤7001∧sz (p.2.2 - o.2)≤7001∧sz ((p.1.1 - o.1)*(p.2.2 - o.2))≤14002∧sz ((p.1.2 - o.2)*(p.2.1 - o.1))≤14002∧sz (trA o p)≤28005∧sz (trA o p*(1 / 2))≤28008:=by
 have a1:=RM.Q5 p.1.1 o.1
 have a2:=RM.Q5 p.1.2 o.2
 have a3:=RM.Q5 p.2.1 o.1
 have a4:=RM.Q5 p.2.2 o.2
 have a5:=RM.D8 (p.1.1 - o.1) (p.2.2 - o.2)
 have a6:=RM.D8 (p.1.2 - o.2) (p.2.1 - o.1)
 have a7:=RM.Q5 ((p.1.1 - o.1)*(p.2.2 - o.2)) ((p.1.2 - o.2)*(p.2.1 - o.1))
 have a8:=RM.D8 (trA o p) (1 / 2)
 have a9:=gM
 unfold trA at *
 exact⟨by omega,by omega,by omega,by omega,by omega,by omega,by omega,by omega⟩
theorem zo{z:Rat × Rat}{M:Mem}{R:DK}:gIx (rD z) (.int 0) M R=R (f7 z.1) M:=L9
theorem zm{z:Rat × Rat}{M:Mem}{R:DK}:gIx (rD z) (.int 1) M R=R (f7 z.2) M:=L8
local macro_rules|`(tactic| walk_at "inj")=>`(tactic| (rename_i e h;simp only[List.cons.injEq,GM.K7,GM.G2,and_true,true_and,GM.g8,GM.h8,GM.g6,GM.h9,GM.g7,D.tup.injEq,D.ref.injEq,D.int.injEq,D.str.injEq,D.bl.injEq,D.vl.injEq,IZ,and_assoc]at e;(repeat(obtain⟨e1,e⟩:=e;subst e1));subst e;exact h))
local macro_rules|`(tactic| walk_at "injs")=>`(tactic| (rename_i e o h;rcases o with o|o<;>(subst o;first|(exfalso;simp only[D.tup.injEq,List.cons.injEq,reduceCtorEq,false_and,and_false]at e;done)|(simp only[List.cons.injEq,GM.K7,GM.G2,and_true,true_and,GM.g8,GM.h8,GM.g6,GM.h9,GM.g7,D.tup.injEq,D.ref.injEq,D.int.injEq,D.str.injEq,D.bl.injEq,D.vl.injEq,IZ,and_assoc]at e;(repeat(obtain⟨e1,e⟩:=e;subst e1));subst e;exact h))))
abbrev T7(bs:List (Str × Rat))(y u:Rat)(M:Mem)(R:DK)(Y:DXK):Prop:=((bs.length≤12∧∀ x∈bs,w6 x)∧sz y≤1200∧sz u≤1200)∧R (D9 (f6 bs (y,u)).1 (f6 bs (y,u)).2) M
def lB:DSp:=fun ds M R Y=>∃(bs:List (Str × Rat)) (y u:Rat),ds=[.vl (bs.map p7),D9 y u]∧T7 bs y u M R Y
theorem iH{bs:List (Str × Rat)}{y u:Rat}{M:Mem}{R:DK}{Y:DXK}:lB [.vl (bs.map p7),D9 y u] M R Y=(T7 bs y u M R Y):=propext ⟨fun z=>by obtain⟨_,_,_,_,_⟩:=z;walk_at "inj",fun h=>⟨bs,y,u,rfl,h⟩⟩
abbrev fQ(rs:List Zr)(M:Mem)(R:DK)(Y:DXK):Prop:=(rs.length≤60∧1≤rs.length∧∀ z∈rs,sz z.1≤3500∧sz z.2≤3500)∧R (f7 (a2 rs*(1 / 2))) M
def Bk:DSp:=fun ds M R Y=>∃(rs:List Zr),ds=[.vl (rs.map rD)]∧fQ rs M R Y
theorem qz{rs:List Zr}{M:Mem}{R:DK}{Y:DXK}:Bk [.vl (rs.map rD)] M R Y=(fQ rs M R Y):=propext ⟨fun z=>by obtain⟨_,_,_⟩:=z;walk_at "inj",fun h=>⟨rs,rfl,h⟩⟩
abbrev P2(bs:List (Str × Rat))(k:Nat)(M:Mem)(R:DK)(Y:DXK):Prop:=(bs.length≤10∧(∀ x∈bs,cX x)∧k≤bs.length)∧R (.bl true) M
def fY:DSp:=fun ds M R Y=>∃(bs:List (Str × Rat)) (k:Nat),ds=[.vl (bs.map p7),.int (k:Int)]∧P2 bs k M R Y
theorem dI{bs:List (Str × Rat)}{k:Nat}{M:Mem}{R:DK}{Y:DXK}:fY [.vl (bs.map p7),.int (k:Int)] M R Y=(P2 bs k M R Y):=propext ⟨fun z=>by obtain⟨_,_,_,_⟩:=z;walk_at "inj",fun h=>⟨bs,k,rfl,h⟩⟩
end GM
namespace K66
open PySem PySem.Spec L2 DL GM
open RM (sz)
open PyProof.Rows hiding St
local macro_rules|`(tactic| walk_at "sim")=>do
 let f:=fun(b:Bool) (p:String) (s:String)=>((s.splitOn " ").mapM (fun s=>(let i:=Lean.mkIdent (p++s).toName;if b then `(Lean.Parser.Tactic.simpLemma| ↓$i:ident)else `(Lean.Parser.Tactic.simpLemma| $i:ident))):Lean.MacroM _)
 let a := "z_C DO DM DI DJ DH DG DF rz zP zR DN zx rT rK DQ zI zy rQ zr zG rS DR rL zu rP zv nq mV rq mW bO iR zQ zw rJ zS zF zH zK zJ rM rR zt iW rH nk nr iT eA iU mU rG iS rj mT zL zN nA zq mY rE rC iV ny nv mX nj nc ni nh mZ rF zM zO rN rO DP rV rB aa bC dR bD dQ Z9 bA dP bB dO ah bI dZ bJ dY af bG dX bH dW ae bE dU bF dS aj bM ey bN eu ai bK ej bL ee Du Dt Ds Dr Dq Dp Dn Dm Dk Dj yU DE DD DC DB DA Dz Dy Dx Dw Dv zp L9 L8 fh rf qZ qY qX qW qV qU qT qS qR qQ qP qO zl zj zi zh ze yZ yY yX yW yV"
 let b := "iQ dN mL qN qM qL qK mO mN mM mP mS mR mQ mK bz qJ qI mJ dM dJ qH iP dI mI dH mH mG mF dG dF bx S4 mE iN qG dE iM qF mD dD iL qE qD zo zm qC qB qA iK bu iJ iH dB mC iG iF qz mB dA mz Z8 iE dz iD my iC iB jw aZ K5 gg gf V0 P4 fZ U9 P2 U8 aY aX P1 ju U7 F5 aW U5 fW P0 U0 fV aV O9 cc T9 N7 T8 T7 O8 aU T6 T5 fQ aT O7 aS"
 let xs:=((← f true "DL." a)++(← f true "GM." b)++(← f false "GM." b)++(← f false "DL." a)++(← f false "" "DL.wZ DL.wR DL.wG DL.wz DL.xa DL.wU DL.wH DL.wA DL.xb DL.wV DL.wI DL.wB DL.xc DL.wW DL.wJ DL.wC DL.xf DL.wX DL.wK DL.wD DL.xg DL.wY DL.wL DL.wF DL.wc DL.wo DL.wd DL.wq DL.we DL.wt DL.wg DL.wu DL.wj DL.wx DL.wm DL.wy GM.wM GM.wN GM.wO GM.wQ DL.AV DL.AU DL.AS DL.AR DL.AQ DL.AO DL.AN DL.AM DL.AL DL.wb DL.wa DL.vZ Nat.reduceAdd Nat.reduceLT Nat.reduceLeDiff Mg Int.reduceLT Int.reduceLE Int.reduceEq eq_self decide_true decide_false D.int.injEq D.str.injEq beq_self_eq_true and_self true_and and_true not_true_eq_false not_false_eq_true false_implies true_implies forall_const S0 Jj Ki MU Na Kc IA Li Km kz List.getElem?_cons_zero List.getElem?_cons_succ Option.getD_some decide_eq_true_eq decide_eq_false_iff_not Bool.not_eq_true' Bool.not_eq_false' Bool.and_self Mw Bool.and_true Bool.xor_false Bool.false_xor Bool.true_xor Bool.not_true Bool.not_false Kn Bool.true_eq_false reduceIte GM.r0 GM.r1 GM.r2 GM.r4 GM.rm1 GM.rm2 GM.g8 GM.Bt GM.Aa GM.zZ GM.Bs")).toArray
 `(tactic| try simp only[$xs,*])
local macro_rules|`(tactic| walk_at "fn")=>do
 let i:=fun(s:String)=>Lean.mkIdent s.toName
 let x:=(("f cdv A outer s H E ds M R Y hr h".splitOn " ").map i).toArray
 `(tactic| (refine $(i "i7") $(i "d") $(i "sc") (by walk_at "len") (fun $x*=>?_);have $(i "hu"):ident:=$(i "hr.units")))
local macro_rules|`(tactic| walk_at "len")=>`(tactic| (intro ds M R Y h;repeat(first|exact congrArg LC h.1|(obtain⟨_,h⟩:=h))))
local macro_rules|`(tactic| walk_at "size")=>`(tactic| first|omega|grind only[RM.D8,RM.X8,RM.Q5,RM.I0,RM.kP,RM.aN,GM.bQ])
local macro_rules|`(tactic| walk_at "sc")=>`(tactic| exact⟨rfl,rfl,rfl,by decide +kernel,rfl,by decide +kernel,by decide +kernel⟩)
noncomputable def top(i:Nat):Stmt:=PySem.Challenge.pw_roundglass_k66_whole_what_comes_out.main.body.getD i (.Pass ⟨0,0,0,0⟩)
noncomputable abbrev bX:Stmt:=top 38
noncomputable abbrev Y2:Stmt:=top 39
noncomputable abbrev lj:Stmt:=top 40
noncomputable abbrev K3:Stmt:=top 47
noncomputable abbrev M9:Stmt:=top 49
noncomputable abbrev Y5:Stmt:=top 50
noncomputable abbrev R4:Stmt:=top 48
noncomputable abbrev R3:Stmt:=top 54
noncomputable abbrev F4:Stmt:=top 55
noncomputable abbrev N6:Stmt:=top 56
noncomputable abbrev Y3:Stmt:=top 5
noncomputable abbrev Q9:Stmt:=top 4
noncomputable abbrev fM:Stmt:=top 6
noncomputable abbrev fL:Stmt:=top 10
noncomputable abbrev G0:Stmt:=top 12
noncomputable abbrev A9:Stmt:=top 11
noncomputable abbrev fK:Stmt:=top 13
noncomputable abbrev lh:Stmt:=top 8
noncomputable abbrev Q7:Stmt:=top 7
noncomputable abbrev fN:Stmt:=top 9
noncomputable abbrev fO:Stmt:=top 32
noncomputable abbrev lu:Stmt:=top 43
noncomputable abbrev lr:Stmt:=top 14
noncomputable abbrev R0:Stmt:=top 26
noncomputable abbrev J2:Stmt:=top 27
noncomputable abbrev bZ:Stmt:=top 16
noncomputable abbrev kZ:Stmt:=top 18
noncomputable abbrev bY:Stmt:=top 24
noncomputable abbrev lb:Stmt:=top 19
noncomputable abbrev M7:Stmt:=top 22
noncomputable abbrev M8:Stmt:=top 20
noncomputable abbrev M6:Stmt:=top 21
noncomputable abbrev Q6:Stmt:=top 17
noncomputable abbrev R1:Stmt:=top 23
noncomputable abbrev Y4:Stmt:=top 28
noncomputable abbrev J1:Stmt:=top 34
noncomputable abbrev Q8:Stmt:=top 37
noncomputable abbrev F3:Stmt:=top 35
noncomputable abbrev N5:Stmt:=top 57
noncomputable abbrev N4:Stmt:=top 46
noncomputable abbrev J3:Stmt:=top 51
noncomputable abbrev N3:Stmt:=top 52
noncomputable abbrev K4:Stmt:=top 53
noncomputable abbrev N0:Stmt:=top 45
noncomputable abbrev sT:Stmt:=top 58
theorem pJ:f8 ["p","q","ray","y","u","top"] ["p","q","ray"] (d9 bX):=by walk_at "sc"
theorem kU:f8 ["line","ray","p","q","r","top","bottom"] ["line","ray"] (d9 Y2):=by walk_at "sc"
theorem xu:f8 ["lines","ray"] ["lines","ray"] (d9 lj):=by walk_at "sc"
theorem dg:f8 ["top","bottom","one","other"] ["top","bottom"] (d9 K3):=by walk_at "sc"
theorem fD:f8 ["one","other"] ["one","other"] (d9 M9):=by walk_at "sc"
theorem kY:f8 ["one","other"] ["one","other"] (d9 Y5):=by walk_at "sc"
theorem jt:f8 ["one","other"] ["one","other"] (d9 R4):=by walk_at "sc"
theorem js:f8 ["part","ray","y","u"] ["part","ray"] (d9 R3):=by walk_at "sc"
theorem aB:f8 ["bench","ray","part"] ["bench","ray"] (d9 F4):=by walk_at "sc"
theorem fJ:f8 ["rays","found","one","other","first","second","cross_here"] ["rays"] (d9 N6):=by walk_at "sc"
theorem kW:f8 ["one","other"] ["one","other"] (d9 Y3):=by walk_at "sc"
theorem jo:f8 ["thing"] ["thing"] (d9 Q9):=by walk_at "sc"
theorem sQ:f8 ["top","bottom","share"] ["top","bottom"] (d9 fM):=by walk_at "sc"
theorem sP:f8 ["one","other"] ["one","other"] (d9 fL):=by walk_at "sc"
theorem T1:f8 ["ratios","bottom"] ["ratios","bottom"] (d9 G0):=by walk_at "sc"
theorem J7:f8 ["ratios","bottom","one"] ["ratios"] (d9 A9):=by walk_at "sc"
theorem sO:f8 ["ratios","bottom"] ["ratios"] (d9 fK):=by walk_at "sc"
theorem xt:f8 ["one","other"] ["one","other"] (d9 lh):=by walk_at "sc"
theorem jk:f8 ["one"] ["one"] (d9 Q7):=by walk_at "sc"
theorem sR:f8 ["one","other"] ["one","other"] (d9 fN):=by walk_at "sc"
theorem sS:f8 ["one","other","y","u","z","w"] ["one","other"] (d9 fO):=by walk_at "sc"
theorem xw:f8 ["rays","crosses"] ["rays"] (d9 lu):=by walk_at "sc"
theorem xv:f8 ["one","other"] ["one","other"] (d9 lr):=by walk_at "sc"
theorem jq:f8 ["one","other"] ["one","other"] (d9 R0):=by walk_at "sc"
theorem bV:f8 ["rays","place","number","ray"] ["rays"] (d9 J2):=by walk_at "sc"
theorem pN:f8 ["side","p","q","r","number","scale"] ["side"] (d9 bZ):=by walk_at "sc"
theorem xq:f8 ["one","other"] ["one","other"] (d9 kZ):=by walk_at "sc"
theorem pK:f8 ["one","other","bottom","y","u"] ["one","other"] (d9 bY):=by walk_at "sc"
theorem xr:f8 ["one","other","third"] ["one","other","third"] (d9 lb):=by walk_at "sc"
theorem fw:f8 ["sides","here","found","side","bend"] ["sides","here"] (d9 M7):=by walk_at "sc"
theorem fy:f8 ["one","other","more"] ["one","other"] (d9 M8):=by walk_at "sc"
theorem fu:f8 ["sides","found","side"] ["sides"] (d9 M6):=by walk_at "sc"
theorem jj:f8 ["lines","sides","number","line","scale","p","q","r","side"] ["lines"] (d9 Q6):=by walk_at "sc"
theorem jr:f8 ["lines","sides","half","here"] ["lines"] (d9 R1):=by walk_at "sc"
theorem kX:f8 ["lines","half","rays"] ["lines"] (d9 Y4):=by walk_at "sc"
theorem bU:f8 ["part","ray","word","number","y","u"] ["part","ray"] (d9 J1):=by walk_at "sc"
theorem jl:f8 ["bench","lines","level","axis","part"] ["bench"] (d9 Q8):=by walk_at "sc"
theorem aA:f8 ["bench"] ["bench"] (d9 F3):=by walk_at "sc"
theorem fH:f8 ["bench","at","lines","found","there","out","rays"] ["bench","at"] (d9 N5):=by walk_at "sc"
theorem fG:f8 ["pool","base","digit","near","stir"] ["pool","base"] (d9 N4):=by walk_at "sc"
theorem bW:f8 ["pool","pick","top"] ["pool"] (d9 J3):=by walk_at "sc"
theorem fF:f8 ["pool","words","word","top","bottom"] ["pool","words"] (d9 N3):=by walk_at "sc"
theorem dh:f8 ["pool","count","words"] ["pool","count","words"] (d9 K4):=by walk_at "sc"
theorem fE:f8 ["cell"] ["cell"] (d9 N0):=by walk_at "sc"
theorem Bj:f8 ["script","cell","pool","bench"] ["script"] (d9 sT):=by walk_at "sc"
structure Txt(K:Iy)(mg:Str→Option Value):Prop where
 b_abs:mg "abs" = none
 b_all:mg "all" = none
 b_bool:mg "bool" = none
 b_enumerate:mg "enumerate" = none
 b_int:mg "int" = none
 b_isinstance:mg "isinstance" = none
 b_len:mg "len" = none
 b_list:mg "list" = none
 b_max:mg "max" = none
 b_range:mg "range" = none
 b_reversed:mg "reversed" = none
 b_sorted:mg "sorted" = none
 b_sum:mg "sum" = none
 b_zip:mg "zip" = none
 sub:vL K
 c_AXIS_RAY:GlD K mg "AXIS_RAY" (.tup [(.tup [(.int 0),(.int 1)]),(.tup [(.int 1),(.int 1)])])
 c_HALF:GlD K mg "HALF" (.tup [(.int 1),(.int 2)])
 c_LEVEL_RAY:GlD K mg "LEVEL_RAY" (.tup [(.tup [(.int 1),(.int 1)]),(.tup [(.int 0),(.int 1)])])
section
variable {P:Program} {w:World} {K:Iy} {mg:Str→Option Value} {base:Heap}
theorem pS(T:Txt K mg)(d:Df K mg "sum_by" bX ["p","q","ray"]):Fn P w K mg base "sum_by" 1 ["p","q","ray"] lC:=by
 have sc:=pJ
 walk_at "fn"
 obtain⟨p,q,y,u,rfl,hz,k⟩:=h
 refine⟨_,(d7 (A1 (d4 2) (q9 (n:=2) rfl (e7 (jn 3 sc.nd) (e7 (jn 4 sc.nd) m8)))) (d7 (jst 5 sc.nd (e8 L4 (e8 i6 (e8 i6 (e8 i6 (jx (d4 0) d6) (jx (d4 3) d6)) (jx (d4 1) d6)) (jx (d4 4) d6)) (e8 i6 (e8 i6 (e8 i6 (jx (d4 1) d6) (jx (d4 4) d6)) (jx (d4 0) d6)) (jx (d4 3) d6)))) (d8 (e6 (o8 (d3 (d4 5) (d3 (e8 i6 (e8 i6 (e8 i6 (jx (d4 0) d6) (jx (d4 3) d6)) (jx (d4 1) d6)) (jx (d4 4) d6)) d5))))))),?_⟩
 walk_at "sim"
 exact⟨t6 _ _ (r9 p) (r9 y) (by omega),t6 _ _ (C5 (r9 p) (r9 y)) (j9 q) (by omega),t6 _ _ (C5 (C5 (r9 p) (r9 y)) (j9 q)) (j9 u) (by omega),t6 _ _ (r9 q) (r9 u) (by omega),t6 _ _ (C5 (r9 q) (r9 u)) (j9 p) (by omega),t6 _ _ (C5 (C5 (r9 q) (r9 u)) (j9 p)) (j9 y) (by omega),t6 _ _ (j9 p) (j9 y) (by omega),t6 _ _ (C5 (j9 p) (j9 y)) (j9 q) (by omega),t6 _ _ (C5 (C5 (j9 p) (j9 y)) (j9 q)) (j9 u) (by omega),k⟩
theorem lK(T:Txt K mg)(d:Df K mg "lets_by" Y2 ["line","ray"])(Hr:Fn P w K mg base "sum_by" 1 ["p","q","ray"] lC):Fn P w K mg base "lets_by" 2 ["line","ray"] fX:=by
 have sc:=kU
 walk_at "fn"
 obtain⟨l,y,u,rfl,⟨⟨h1,h2,h3⟩,h4,h5⟩,k⟩:=h
 refine⟨_,(d7 (A1 (d4 0) (q9 (n:=3) rfl (e7 (jn 2 sc.nd) (e7 (jn 3 sc.nd) (e7 (jn 4 sc.nd) m8))))) (d7 (A1 (jc Hr hr (d3 (d4 2) (d3 (d4 3) (d3 (d4 1) d5)))) (q9 (n:=2) rfl (e7 (jn 5 sc.nd) (e7 (jn 6 sc.nd) m8)))) (d8 (e6 (jm Gb (e8 i6 (u7 eW rfl T.b_abs Z6 (d3 (d4 5) d5)) (jx (d4 4) d6)) (e8 i6 (jx (d4 4) d6) (d4 6))))))),?_⟩
 walk_at "sim"
 have e:decide (((jb l.1 l.2.1 y u).natAbs:Int)*(l.2.2.den:Int)≤l.2.2.num*du l.1 l.2.1 y u)=R7 l y u:=by
  rw[KI,decide_eq_true_iff];exact qf
 rw[e]
 exact⟨by omega,t6 _ _ (by rw[IK];exact AZ _ _ _ _) (j9 _) (by omega),t6 _ _ (r9 _) (CO _ _ _ _) (by omega),k⟩
theorem ye(T:Txt K mg)(d:Df K mg "lets" lj ["lines","ray"])(Hn:Fn P w K mg base "lets_by" 2 ["line","ray"] fX):Fn P w K mg base "lets" 3 ["lines","ray"] nJ:=by
 have sc:=xu
 walk_at "fn"
 obtain⟨x0,ls,y,u,rfl,hx0,⟨h1,h2,h3,h4⟩,k⟩:=h
 rcases hx0 with rfl|rfl
 all_goals
  refine⟨_,(d8 (e6 (u7 (AF rfl) rfl T.b_all vH (d3 (D6 [1] ["line"] ["ray"] rfl (by decide +kernel) rfl (by decide +kernel) (by decide +kernel) rfl (dw ⟨rfl,rfl⟩) (dw (Or.inl rfl)) (t8 (d4 0)) (fun _ _ _ _ _ _=>(jn 0 (show(["line","ray"]:List Str).Nodup by decide +kernel))) (fun _ _ _ _ _ _=>p5) (fun _ _ _ _ _ _=>(jc Hn hr (d3 (d4 0) (d3 (d4 1) d5))))) d5)))),?_⟩
  walk_at "sim"
  refine u5 (fun l=>D.bl (R7 l y u)) (by omega) (by simp only[i9,p6]) (fun l hl Q hQ=>?_) ?_
  ·walk_at "sim"
   exact⟨⟨h2 l hl,h3,h4⟩,hQ⟩
  ·rw[show ls.map (fun l=>D.bl (R7 l y u))=(ls.map fun l=>R7 l y u).map D.bl by rw[Js];rfl]
   walk_at "sim"
   rw[show(ls.map fun l=>R7 l y u).all id=B6 ls y u by rw[MH];rfl]
   exact k
theorem di(T:Txt K mg)(d:Df K mg "_law_ratio" K3 ["top","bottom"])(hsee:vN P base):Fn P w K mg base "_law_ratio" 40 ["top","bottom"] N8:=by
 have sc:=dg
 walk_at "fn"
 obtain⟨a,b,rfl,hb,k⟩:=h
 refine⟨_,(eO (o6 (jtm lO (d4 1) d6) (d8 (bg (i:=0) (j:=1) rfl sc.nd rfl rfl (by decide) rfl rfl (d3 (e8 G3 d6 (d4 0)) (d3 (e8 G3 d6 (d4 1)) d5)))) j3) (d7 (bg (i:=2) (j:=3) rfl sc.nd rfl rfl (by decide) rfl rfl (d3 (u7 eW rfl T.b_abs Z6 (d3 (d4 0) d5)) (d3 (d4 1) d5))) (d7 (Z3 PassesOwn.never (jtm pX (d4 2) d6) (d8 (bg (i:=2) (j:=3) rfl sc.nd rfl rfl (by decide) rfl rfl (d3 (e8 ao (d4 3) (d4 2)) (d3 (d4 2) d5))))) (d8 (e6 (o8 (d3 (e8 (bb (ldv hsee hr sc)) (d4 0) (d4 3)) (d3 (e8 (bb (ldv hsee hr sc)) (d4 1) (d4 3)) d5)))))))),?_⟩
 walk_at "sim"
 refine vP (fun e' M'=>M'=M∧∃(t u:Int) (x1 x2:Option D),e'=[some (.int t),some (.int u),x1,x2]∧0<u∧Jv t u=Jv a b) ?_ ?_
 ·walk_at "sim"
  refine⟨fun h1=>⟨_,_,_,_,rfl,by omega,by rw[MP,MP,Rat.neg_divInt_neg]⟩,fun h1=>⟨_,_,_,_,rfl,by omega,rfl⟩⟩
 ·rintro e' M' ⟨rfl,t,u,x1,x2,rfl,hu0,hq⟩
  walk_at "sim"
  refine pA (fun m e M2=>M2=M'∧∃ v:Nat,e=[some (.int t),some (.int u),some (.int (m:Int)),some (.int (v:Int))]∧JP m v=JP t.natAbs u.natAbs) t.natAbs ⟨rfl,u.natAbs,by rw[show((u.natAbs:Nat):Int)=u by omega],rfl⟩ ?_
  rintro m e M2 ⟨rfl,v,rfl,hg⟩
  walk_at "sim"
  refine⟨fun h0=>⟨by omega,v % m,Kf _ (by omega),m,by rw[Int.natCast_emod],by rw[← hg,Lq m v,RM.ka v m (by omega),Lq]⟩,fun h0=>?_⟩
  have hm:m=0:=by omega
  subst hm
  rw[Nat.gcd_zero_left]at hg
  subst hg
  have hn:=uN (a:=t) (b:=u) (by omega)
  rw[← hq]at k
  exact⟨hn,hn,gB (by omega) (by rw[if_neg (by omega)]) k⟩
theorem gr(T:Txt K mg)(d:Df K mg "_law_take" M9 ["one","other"])(Gz:Fn P w K mg base "_law_ratio" 40 ["top","bottom"] N8):Fn P w K mg base "_law_take" 41 ["one","other"] U4:=by
 have sc:=fD
 walk_at "fn"
 obtain⟨q,r,rfl,hz,k⟩:=h
 refine⟨_,(d8 (e6 (jc Gz hr (d3 (e8 G3 (e8 i6 (jx (d4 0) d6) (jx (d4 1) d6)) (e8 i6 (jx (d4 1) d6) (jx (d4 0) d6))) (d3 (e8 i6 (jx (d4 0) d6) (jx (d4 1) d6)) d5))))),?_⟩
 walk_at "sim"
 rw[xj]
 exact⟨bND hz,bND (by omega),bDD hz,JJ (RM.t5 q) (RM.t5 r),k⟩
theorem lN(T:Txt K mg)(d:Df K mg "_law_by" Y5 ["one","other"])(Gz:Fn P w K mg base "_law_ratio" 40 ["top","bottom"] N8):Fn P w K mg base "_law_by" 41 ["one","other"] G1:=by
 have sc:=kY
 walk_at "fn"
 obtain⟨q,r,rfl,hz,k⟩:=h
 refine⟨_,(d8 (e6 (jc Gz hr (d3 (e8 i6 (jx (d4 0) d6) (jx (d4 1) d6)) (d3 (e8 i6 (jx (d4 0) d6) (jx (d4 1) d6)) d5))))),?_⟩
 walk_at "sim"
 rw[← RM.lP]
 exact⟨bNN hz,bDD hz,JJ (RM.t5 q) (RM.t5 r),k⟩
theorem jM(T:Txt K mg)(d:Df K mg "_law_add" R4 ["one","other"])(Gz:Fn P w K mg base "_law_ratio" 40 ["top","bottom"] N8):Fn P w K mg base "_law_add" 41 ["one","other"] fT:=by
 have sc:=jt
 walk_at "fn"
 obtain⟨q,r,rfl,hz,k⟩:=h
 refine⟨_,(d8 (e6 (jc Gz hr (d3 (e8 L4 (e8 i6 (jx (d4 0) d6) (jx (d4 1) d6)) (e8 i6 (jx (d4 1) d6) (jx (d4 0) d6))) (d3 (e8 i6 (jx (d4 0) d6) (jx (d4 1) d6)) d5))))),?_⟩
 walk_at "sim"
 rw[← RM.ir]
 exact⟨bND hz,bND (by omega),bDD hz,JJ (RM.t5 q) (RM.t5 r),k⟩
theorem jL(T:Txt K mg)(d:Df K mg "_law_led" R3 ["part","ray"])(GA:Fn P w K mg base "_law_take" 41 ["one","other"] U4)(GB:Fn P w K mg base "_law_by" 41 ["one","other"] G1)(GK:Fn P w K mg base "_law_add" 41 ["one","other"] fT):Fn P w K mg base "_law_led" 42 ["part","ray"] jv:=by
 have sc:=js
 walk_at "fn"
 obtain⟨x,y,u,rfl,hz,k⟩:=h
 refine⟨_,(d7 (A1 (d4 1) (q9 (n:=2) rfl (e7 (jn 2 sc.nd) (e7 (jn 3 sc.nd) m8)))) (d7 (o6 (jtm cC (jx (d4 0) d6) C9) (d8 (e6 (o8 (d3 (jc GK hr (d3 (d4 2) (d3 (jc GB hr (d3 (jx (d4 0) d6) (d3 (d4 3) d5))) d5))) (d3 (d4 3) d5))))) j3) (d7 (o6 (jtm cC (jx (d4 0) d6) C9) (d8 (e6 (o8 (d3 (d4 2) (d3 (jc GA hr (d3 (d4 3) (d3 (jc GB hr (d3 (jx (d4 0) d6) (d3 (d4 2) d5))) d5))) d5))))) j3) (d8 (e6 (d4 1)))))),?_⟩
 walk_at "sim"
 unfold y7 at k
 refine⟨fun h1=>?_,fun h1=>⟨fun h2=>?_,fun h2=>?_⟩⟩
 ·rw[if_pos h1]at k;exact⟨by omega,by walk_at "size",k⟩
 ·rw[if_neg h1,if_pos h2]at k;exact⟨by omega,by walk_at "size",k⟩
 ·rw[if_neg h1,if_neg h2]at k;exact k
theorem aE(T:Txt K mg)(d:Df K mg "_law_through" F4 ["bench","ray"])(Hj:Fn P w K mg base "_law_led" 42 ["part","ray"] jv):Fn P w K mg base "_law_through" 43 ["bench","ray"] lB:=by
 have sc:=aB
 walk_at "fn"
 obtain⟨bs,y,u,rfl,⟨⟨hl,hok⟩,h1,h2⟩,k⟩:=h
 refine⟨_,(d7 (y8 PassesOwn.never rfl (t8 (d4 0)) (jn 2 sc.nd) (d8 (jst 1 sc.nd (jc Hj hr (d3 (d4 2) (d3 (d4 1) d5)))))) (d8 (e6 (d4 1)))),?_⟩
 walk_at "sim"
 refine X2.by (fun i e M'=>M'=M∧∃ z:Option D,e=[some _,some (D9 (f6 (bs.take i) (y,u)).1 (f6 (bs.take i) (y,u)).2),z]) ⟨rfl,_,rfl⟩ (fun i e M' _ _=>by simp only[i9,p6]) ?_ ?_
 ·rintro i dd e M' hd ⟨rfl,z,rfl⟩
  obtain⟨pt,hpt,rfl⟩:=eI hd
  have hm:=IU hpt
  have t1:=tX (bs:=bs.take i) (z:=(y,u)) (by rw[Jg];omega) (fun x hx=>hok x (Jm hx)) h1 h2
  have a1:=t1.1
  have a2:=t1.2
  have q2:=(hok pt hm).sz
  have o1:=cw hpt (y,u)
  walk_at "sim"
  rw[← o1]
  exact⟨by omega,_,rfl⟩
 ·rw[ID]
  rintro e M' ⟨rfl,z,rfl⟩
  rw[JY]
  walk_at "sim"
  exact k
theorem gy(T:Txt K mg)(d:Df K mg "_law_even" N6 ["rays"])(GK:Fn P w K mg base "_law_add" 41 ["one","other"] fT)(GB:Fn P w K mg base "_law_by" 41 ["one","other"] G1)(GA:Fn P w K mg base "_law_take" 41 ["one","other"] U4):Fn P w K mg base "_law_even" 42 ["rays"] Bk:=by
 have sc:=fJ
 walk_at "fn"
 obtain⟨rs,rfl,⟨hl,h1,hz⟩,k⟩:=h
 refine⟨_,(d7 (jst 1 sc.nd (o8 (d3 d6 (d3 d6 d5)))) (d7 (y8 PassesOwn.never rfl (gG rfl T.b_zip (d3 (A4 (d4 0) (A2 d6) A3) (d3 (A4 (d4 0) (A2 d6) A3) d5))) (q9 (n:=2) rfl (e7 (jn 2 sc.nd) (e7 (jn 3 sc.nd) m8))) (d7 (C2 (i:=4) [0,2] ["k"] ["rays","one"] sc.nd rfl (Or.inl rfl) rfl (by decide +kernel) rfl (by decide +kernel) (by decide +kernel) rfl (kD ⟨rfl,rfl⟩ ⟨rfl,rfl⟩) (kD (Or.inl rfl) (Or.inl rfl)) (gH rfl T.b_range (d3 d6 d5)) (fun _ _ _ _ _ _=>(jn 0 (show(["k","rays","one"]:List Str).Nodup by decide +kernel))) (fun _ _ _ _ _ _=>p5) (fun _ _ _ _ _ _=>(jc GA hr (d3 (jx (d4 2) (d4 0)) (d3 (jx (jx (d4 1) d6) (d4 0)) d5))))) (d7 (C2 (i:=5) [0,3] ["k"] ["rays","other"] sc.nd rfl (Or.inl rfl) rfl (by decide +kernel) rfl (by decide +kernel) (by decide +kernel) rfl (kD ⟨rfl,rfl⟩ ⟨rfl,rfl⟩) (kD (Or.inl rfl) (Or.inl rfl)) (gH rfl T.b_range (d3 d6 d5)) (fun _ _ _ _ _ _=>(jn 0 (show(["k","rays","other"]:List Str).Nodup by decide +kernel))) (fun _ _ _ _ _ _=>p5) (fun _ _ _ _ _ _=>(jc GA hr (d3 (jx (d4 2) (d4 0)) (d3 (jx (jx (d4 1) d6) (d4 0)) d5))))) (d7 (jst 6 sc.nd (jc GA hr (d3 (jc GB hr (d3 (jx (d4 4) d6) (d3 (jx (d4 5) d6) d5))) (d3 (jc GB hr (d3 (jx (d4 4) d6) (d3 (jx (d4 5) d6) d5))) d5)))) (d8 (jst 1 sc.nd (jc GK hr (d3 (d4 1) (d3 (jc GB hr (d3 (d4 6) (d3 (o8 (d3 d6 (d3 d6 d5))) d5))) d5))))))))) (d8 (e6 (d4 1))))),?_⟩
 walk_at "sim"
 obtain⟨o,m9,rfl⟩:∃ o m9,rs=o :: m9:=by
  cases rs with
  | nil=>exact absurd h1 (by decide)
  | cons o m9=>exact⟨o,m9,rfl⟩
 have hzr:∀ z∈m9,sz z.1≤3500∧sz z.2≤3500:=fun z h=>hz z (.tail _ h)
 have hzo:=hz o (.head _)
 have c1:DL.K0 (Mi rD (o :: m9)) (some 1) none=m9.map rD:=by
  rw[show(some (1:Int))=some ((1:Nat):Int)from rfl,Z5];rfl
 have c2:DL.K0 (Mi rD (o :: m9)) (some 2) none=(m9.drop 1).map rD:=by
  rw[show(some (2:Int))=some ((2:Nat):Int)from rfl,Z5,MA];rfl
 rw[c1,c2,bt]
 have hlr:m9.length≤60:=by rw[IA]at hl;omega
 refine X2.by (fun i e M'=>M'=M∧∃ z2 z3 z4 z5 z6:Option D,e=[some (.vl ((o :: m9).map rD)),some (f7 (trP o ((m9.zip (m9.drop 1)).take i))),z2,z3,z4,z5,z6]∧sz (trP o ((m9.zip (m9.drop 1)).take i))≤28010*i+1) ⟨rfl,_,_,_,_,_,rfl,by show sz 0≤_;rw[RM.aN];omega⟩ (fun i e M' _ h=>by rw[h.1];exact⟨by rw[i9],by rw[i9]⟩) ?_ ?_
 ·rintro i dd e M' hd ⟨rfl,z2,z3,z4,z5,z6,rfl,hs⟩
  rw[Jb]at hd
  cases hq:(m9.zip (m9.drop 1))[i]? with
  | none=>rw[hq]at hd;cases hd
  | some p =>
   rw[hq]at hd
   obtain rfl:=Option.some.inj hd
   have hi:=(Jd.mp hq).1
   rw[JB]at hi
   have m1:=Ko (IU hq)
   obtain⟨a1,a2,a3,a4,a5,a6,a7,a8⟩:=AY (p:=p) hzo (hzr _ m1.1) (hzr _ (Kq m1.2))
   have b1:=hzr _ m1.1
   have b2:=hzr _ (Kq m1.2)
   have e1:trP o ((m9.zip (m9.drop 1)).take (i+1))=trP o ((m9.zip (m9.drop 1)).take i)+trA o p*(1 / 2):=by
    rw[Kg,hq]
    show(_++[p]).foldl _ 0=_
    rw[Jw];rfl
   rw[e1]
   generalize trP o ((m9.zip (m9.drop 1)).take i)=c at *
   have h3:=gM
   have hc:=RM.X8 c (trA o p*(1 / 2))
   obtain⟨⟨x1,x2⟩,⟨y1,y2⟩⟩:=p
   walk_at "sim"
   have er:K6 0 (Nk 2)=[(0:Int),1].map D.int:=rfl
   rw[er]
   have two:∀(z:Zr) (Q:DK) (N:Mem),(sz z.1≤3500∧sz z.2≤3500)→Q (.vl [f7 (z.1 - o.1),f7 (z.2 - o.2)]) N→vV [none,some (D.vl (rD o :: Mi rD m9)),some (rD z)] (S1 0) vh (ki U4 [] Y0 (oW (dOp gIx (Q1 2) (Q1 0)) (oW (dOp gIx (dOp gIx (Q1 1) (dC (D.int 0))) (Q1 0)) CC))) ([(0:Int),1].map D.int) (fun x=>True) N Q:=fun z Q N hz hQ=>by
    refine u5 (xs:=[(0:Int),1]) (enc:=D.int) (fun k=>if k=0 then f7 (z.1 - o.1)else f7 (z.2 - o.2)) (by decide) trivial (fun x hx Q hQ=>?_) hQ
    rcases IE.mp hx with rfl|hx
    ·walk_at "sim"
     exact⟨by omega,hQ⟩
    ·obtain rfl:=Ja.mp hx
     walk_at "sim"
     exact⟨by omega,hQ⟩
   refine⟨by decide,two (x1,x2) _ _ b1 ⟨by decide,two (y1,y2) _ _ b2 ?_⟩⟩
   walk_at "sim"
   rw[uK]
   walk_at "sim"
   unfold trA at a7 a8 hc ⊢
   dsimp only at a1 a2 a3 a4 a5 a6 a7 a8 hc ⊢
   refine⟨by omega,by omega,by omega,by omega,by omega,_,_,_,_,_,rfl,by omega⟩
 ·rintro e M' ⟨rfl,z2,z3,z4,z5,z6,rfl,hs⟩
  walk_at "sim"
  rw[ID,JY,zU,DS]
  exact k
theorem lL(T:Txt K mg)(d:Df K mg "divisor" Y3 ["one","other"]):Fn P w K mg base "divisor" 1 ["one","other"] J6:=by
 have sc:=kW
 refine i7 d sc (fun ds M R Y h=>?_) (fun f cdv A outer s H E ds M R Y hr h=>?_)
 ·obtain⟨a,b,rfl,_⟩:=h;rfl
 ·obtain⟨a,b,rfl,k⟩:=h
  refine⟨_,(d7 (Z3 PassesOwn.never (jtm Ex (d4 1) d6) (d8 (bg (i:=0) (j:=1) rfl sc.nd rfl rfl (by decide) rfl rfl (d3 (d4 1) (d3 (e8 ao (d4 0) (d4 1)) d5))))) (d8 (e6 (d4 0)))),?_⟩
  refine⟨fun m e M'=>M'=M∧∃ u:Nat,e=[some (.int (u:Int)),some (.int (m:Int))]∧JP u m=JP a b,⟨b,rfl,a,rfl,rfl⟩,?_⟩
  rintro v e M' ⟨rfl,u,rfl,hg⟩
  refine⟨_,rfl,_,rfl,_,rfl,?_⟩
  refine EF (fun h0=>?_) (fun h0=>?_)
  ·have hv:0<v:=by omega
   refine⟨_,rfl,_,rfl,_,rfl,_,_,rfl,rfl,by omega,_,_,rfl,?_⟩
   exact⟨u % v,Kf _ hv,rfl,v,rfl,by rw[← RM.ka u v (by omega)];exact hg⟩
  ·have hv:v=0:=by omega
   subst hv
   rw[Nat.gcd_zero_right]at hg
   subst hg
   exact⟨_,rfl,k⟩
theorem jI(T:Txt K mg)(d:Df K mg "is_whole" Q9 ["thing"]):Fn P w K mg base "is_whole" 1 ["thing"] nF:=by
 have sc:=jo
 refine i7 d sc (fun ds M R Y h=>?_) (fun f cdv A outer s H E ds M R Y hr h=>?_)
 ·obtain⟨n,rfl,_⟩:=h;rfl
 ·obtain⟨n,rfl,k⟩:=h
  refine⟨_,(d8 (e6 (oz (u7 (AE T.sub) rfl T.b_isinstance Q2 (d3 (d4 0) (d3 (Ae rfl T.b_int CN) d5))) (oy (yw (u7 (AE T.sub) rfl T.b_isinstance Q2 (d3 (d4 0) (d3 (Ae rfl T.b_bool yK) d5)))))))),?_⟩
  refine⟨_,rfl,_,_,_,_,rfl,rfl,rfl,_,rfl,?_⟩
  refine Gg ?_
  exact⟨_,rfl,_,_,_,_,rfl,rfl,rfl,_,rfl,k⟩
theorem uf(T:Txt K mg)(d:Df K mg "ratio" fM ["top","bottom"])(hsee:vN P base)(GC:Fn P w K mg base "divisor" 1 ["one","other"] J6)(GV:Fn P w K mg base "is_whole" 1 ["thing"] nF):Fn P w K mg base "ratio" 40 ["top","bottom"] N8:=by
 have sc:=sQ
 walk_at "fn"
 obtain⟨a,b,rfl,hb,k⟩:=h
 refine⟨_,(d7 (o6 (jX (oA (lV (W3 (jc GV hr (d3 (d4 0) d5)))) (oA (lV (W3 (jc GV hr (d3 (d4 1) d5)))) (lU (jtm nY (d4 1) d6))))) (d8 qh) j3) (d7 (jst 2 sc.nd (jc GC hr (d3 (u7 eW rfl T.b_abs Z6 (d3 (d4 0) d5)) (d3 (u7 eW rfl T.b_abs Z6 (d3 (d4 1) d5)) d5)))) (d7 (o6 (jtm lO (d4 1) d6) (d8 (jst 2 sc.nd (Z4 (d4 2)))) j3) (d8 (e6 (o8 (d3 (e8 (bb (ldv hsee hr sc)) (d4 0) (d4 2)) (d3 (e8 (bb (ldv hsee hr sc)) (d4 1) (d4 2)) d5)))))))),?_⟩
 walk_at "sim"
 have hn:=uN (a:=a) hb
 refine⟨_,rfl,true,rfl,fun z=>absurd z (by decide),fun _=>⟨_,rfl,true,rfl,fun z=>absurd z (by decide),fun _=>⟨fun z=>absurd z hb,fun _=>⟨fun h1=>⟨?_,?_,?_⟩,fun h1=>⟨hn,hn,?_⟩⟩⟩⟩⟩
 ·show -((JP a.natAbs b.natAbs:Nat):Int)≠0;omega
 ·show -((JP a.natAbs b.natAbs:Nat):Int)≠0;omega
 ·exact gB hb (by rw[if_pos h1]) k
 ·exact gB hb (by rw[if_neg h1]) k
theorem ue(T:Txt K mg)(d:Df K mg "times" fL ["one","other"])(GD:Fn P w K mg base "ratio" 40 ["top","bottom"] N8):Fn P w K mg base "times" 41 ["one","other"] G1:=by
 have sc:=sP
 walk_at "fn"
 obtain⟨q,r,rfl,hz,k⟩:=h
 refine⟨_,(d8 (e6 (jc GD hr (d3 (e8 i6 (jx (d4 0) d6) (jx (d4 1) d6)) (d3 (e8 i6 (jx (d4 0) d6) (jx (d4 1) d6)) d5))))),?_⟩
 walk_at "sim"
 rw[RM.lP]at k
 exact⟨bNN hz,bDD hz,JJ (RM.t5 q) (RM.t5 r),k⟩
theorem aD(T:Txt K mg)(d:Df K mg "tops_over" G0 ["ratios","bottom"]):Fn P w K mg base "tops_over" 1 ["ratios","bottom"] sV:=by
 have sc:=T1
 walk_at "fn"
 obtain⟨qs,c,rfl,⟨⟨hl,hz⟩,rfl⟩,k⟩:=h
 refine⟨_,(d8 (e6 (D6 [1] ["one"] ["bottom"] rfl (by decide +kernel) rfl (by decide +kernel) (by decide +kernel) rfl (dw ⟨rfl,rfl⟩) (dw (Or.inl rfl)) (t8 (d4 0)) (fun _ _ _ _ _ _=>(jn 0 (show(["one","bottom"]:List Str).Nodup by decide +kernel))) (fun _ _ _ _ _ _=>p5) (fun _ _ _ _ _ _=>(e8 i6 (jx (d4 0) d6) (e8 Z0 (d4 1) (jx (d4 0) d6))))))),?_⟩
 walk_at "sim"
 rw[Js]at k
 refine u5 (xs:=qs) (enc:=f7) (fun q=>.int (q.num*((lcL qs / q.den:Nat):Int))) (by omega) (by show p8 M (.vl _) _;rw[i9]) (fun q hq Q hQ=>?_) k
 have hqs:=hz q hq
 have d0:=q.den_pos
 have hd:q.den<2 ^ 5000:=B1 q hqs
 have hb:lcL qs<2 ^ 400000:=by
  have:=uB qs 1 1 hz (by decide)
  exact IF this (Jh (by decide) (by omega))
 have ef:((lcL qs:Nat):Int).fdiv (q.den:Int)=((lcL qs / q.den:Nat):Int):=by rw[bj (by omega) (by omega)];rfl
 walk_at "sim"
 rw[ef]
 exact⟨⟨by omega,IF (R6 (by rw[IK];exact hd) (by decide)) (by decide)⟩,ur 5000 400000 (G4 q hqs) (by rw[IK];exact Jl (Kd _ _) hb) (by decide),hQ⟩
theorem Q0(T:Txt K mg)(d:Df K mg "common_bottom" A9 ["ratios"])(GC:Fn P w K mg base "divisor" 1 ["one","other"] J6):Fn P w K mg base "common_bottom" 2 ["ratios"] Bo:=by
 have sc:=J7
 walk_at "fn"
 obtain⟨qs,rfl,⟨hl,hz⟩,k⟩:=h
 refine⟨_,(d7 (jst 1 sc.nd d6) (d7 (y8 PassesOwn.never rfl (t8 (d4 0)) (jn 2 sc.nd) (d8 (jst 1 sc.nd (e8 i6 (e8 Z0 (d4 1) (jc GC hr (d3 (d4 1) (d3 (jx (d4 2) d6) d5)))) (jx (d4 2) d6))))) (d8 (e6 (d4 1))))),?_⟩
 walk_at "sim"
 refine X2.by (fun i e M'=>M'=M∧∃ z:Option D,e=[some (.vl (qs.map f7)),some (.int ((lcL (qs.take i):Nat):Int)),z]) ⟨rfl,_,rfl⟩ (fun i e M' _ h=>by rw[h.1,i9]) ?_ ?_
 ·rintro i dd e M' hd ⟨rfl,z,rfl⟩
  rw[Jb]at hd
  cases hq:qs[i]? with
  | none=>rw[hq]at hd;cases hd
  | some q =>
   rw[hq]at hd
   obtain rfl:=Option.some.inj hd
   have e1:lcL (qs.take (i+1))=A7 (lcL (qs.take i)) q.den:=by
    unfold lcL
    rw[Kg,hq,Jw];rfl
   have hqs:=hz q (IU hq)
   have hc:=oq (qs.take i)
   have hd:q.den<2 ^ 5000:=B1 q hqs
   have hb:lcL (qs.take i)<2 ^ 400000:=by
    have:=uB (qs.take i) 1 1 (fun x hx=>hz x (Jm hx)) (by decide)
    refine IF this (Jh (by decide) ?_)
    have:(qs.take i).length≤60:=by rw[Jg];omega
    omega
   rw[e1]
   generalize lcL (qs.take i)=c at *
   have g0:0<JP c q.den:=KC _ q.den_pos
   have g1:JP c q.den<2 ^ 5000:=Jl (Nat.le_of_dvd q.den_pos (MF _ _)) hd
   have ef:(c:Int).fdiv (JP c q.den:Nat)=((c / JP c q.den:Nat):Int):=by rw[bj (by omega) (by omega)];rfl
   walk_at "sim"
   rw[ef]
   refine⟨⟨by omega,IF (R6 (by rw[IK];exact g1) (by decide)) (by decide)⟩,?_,some (f7 q),?_⟩
   ·exact ur 400000 5000 (by rw[IK];exact Jl (Kd _ _) hb) (by rw[IK];exact hd) (by decide)
   ·unfold A7
    rw[Lm]
 ·rintro e M' ⟨rfl,z,rfl⟩
  walk_at "sim"
  rw[ID,JY]
  exact k
theorem ud(T:Txt K mg)(d:Df K mg "total" fK ["ratios"])(GD:Fn P w K mg base "ratio" 40 ["top","bottom"] N8)(GO:Fn P w K mg base "tops_over" 1 ["ratios","bottom"] sV)(GF:Fn P w K mg base "common_bottom" 2 ["ratios"] Bo):Fn P w K mg base "total" 41 ["ratios"] lz:=by
 have sc:=sO
 walk_at "fn"
 obtain⟨qs,rfl,⟨hl,hz⟩,k⟩:=h
 refine⟨_,(d7 (jst 1 sc.nd (jc GF hr (d3 (d4 0) d5))) (d8 (e6 (jc GD hr (d3 (u7 (Fw rfl) rfl T.b_sum CM (d3 (jc GO hr (d3 (d4 0) (d3 (d4 1) d5))) d5)) (d3 (d4 1) d5)))))),?_⟩
 walk_at "sim"
 have hp:=oq qs
 exact⟨⟨hl,hz⟩,⟨hl,hz⟩,by omega,by rw[sF qs (lcL qs) hp fun q hq=>yq hq];exact k⟩
theorem yd(T:Txt K mg)(d:Df K mg "plus" lh ["one","other"])(GD:Fn P w K mg base "ratio" 40 ["top","bottom"] N8):Fn P w K mg base "plus" 41 ["one","other"] fm:=by
 have sc:=xt
 walk_at "fn"
 obtain⟨q,r,rfl,hz,k⟩:=h
 refine⟨_,(d8 (e6 (jc GD hr (d3 (e8 L4 (e8 i6 (jx (d4 0) d6) (jx (d4 1) d6)) (e8 i6 (jx (d4 1) d6) (jx (d4 0) d6))) (d3 (e8 i6 (jx (d4 0) d6) (jx (d4 1) d6)) d5))))),?_⟩
 walk_at "sim"
 rw[RM.ir]at k
 exact⟨mND hz,mND (by omega),mDD hz,JJ (RM.t5 q) (RM.t5 r),k⟩
theorem jG(T:Txt K mg)(d:Df K mg "opposite" Q7 ["one"]):Fn P w K mg base "opposite" 1 ["one"] nG:=by
 have sc:=jk
 refine i7 d sc (fun ds M R Y h=>?_) (fun f cdv A outer s H E ds M R Y hr h=>?_)
 ·obtain⟨q,rfl,_⟩:=h;rfl
 ·obtain⟨q,rfl,k⟩:=h
  refine⟨_,(d8 (e6 (o8 (d3 (Z4 (jx (d4 0) d6)) (d3 (jx (d4 0) d6) d5))))),?_⟩
  refine⟨_,rfl,_,rfl,_,rfl,_,rfl,_,rfl,sl 2,?_⟩
  have e:f7 (-q) = .tup [.int (-q.num),.int (q.den:Int)]:=by unfold f7;rw[LD,LF]
  rw[e]at k
  exact k
theorem ug(T:Txt K mg)(d:Df K mg "minus" fN ["one","other"])(Ho:Fn P w K mg base "plus" 41 ["one","other"] fm)(GG:Fn P w K mg base "opposite" 1 ["one"] nG):Fn P w K mg base "minus" 42 ["one","other"] aO:=by
 have sc:=sR
 walk_at "fn"
 obtain⟨q,r,rfl,hz,k⟩:=h
 refine⟨_,(d8 (e6 (jc Ho hr (d3 (d4 0) (d3 (jc GG hr (d3 (d4 1) d5)) d5))))),?_⟩
 walk_at "sim"
 exact⟨by rw[RM.I0];exact hz,by rw[← Lp];exact k⟩
theorem uh(T:Txt K mg)(d:Df K mg "cross" fO ["one","other"])(Hh:Fn P w K mg base "minus" 42 ["one","other"] aO)(GI:Fn P w K mg base "times" 41 ["one","other"] G1):Fn P w K mg base "cross" 43 ["one","other"] gc:=by
 have sc:=sS
 walk_at "fn"
 obtain⟨y,u,z,w,rfl,⟨h1,h2,h3,h4⟩,k⟩:=h
 refine⟨_,(d7 (A1 (d4 0) (q9 (n:=2) rfl (e7 (jn 2 sc.nd) (e7 (jn 3 sc.nd) m8)))) (d7 (A1 (d4 1) (q9 (n:=2) rfl (e7 (jn 4 sc.nd) (e7 (jn 5 sc.nd) m8)))) (d8 (e6 (jc Hh hr (d3 (jc GI hr (d3 (d4 2) (d3 (d4 5) d5))) (d3 (jc GI hr (d3 (d4 4) (d3 (d4 3) d5))) d5))))))),?_⟩
 walk_at "sim"
 have c1:=RM.D8 y w
 have c2:=RM.D8 z u
 exact⟨by omega,by omega,by omega,k⟩
theorem yg(T:Txt K mg)(d:Df K mg "area" lu ["rays"])(GI:Fn P w K mg base "times" 41 ["one","other"] G1)(Hy:Fn P w K mg base "total" 41 ["ratios"] lz)(Hz:Fn P w K mg base "cross" 43 ["one","other"] gc):Fn P w K mg base "area" 44 ["rays"] sZ:=by
 have sc:=xw
 walk_at "fn"
 obtain⟨cs,rfl,⟨hl,h2,hz⟩,k⟩:=h
 refine⟨_,(d7 (C2 (i:=1) [] ["one","other"] [] sc.nd rfl (Or.inl rfl) rfl (by decide +kernel) rfl (by decide +kernel) (by decide +kernel) rfl cW cW (gG rfl T.b_zip (d3 (d4 0) (d3 (W5 (A4 (d4 0) (A2 d6) A3) (A4 (d4 0) A3 (A2 d6))) d5))) (fun _ _ _ _ _ _=>(q9 (n:=2) rfl (e7 (jn 0 (show(["one","other"]:List Str).Nodup by decide +kernel)) (e7 (jn 1 (show(["one","other"]:List Str).Nodup by decide +kernel)) m8)))) (fun _ _ _ _ _ _=>p5) (fun _ _ _ _ _ _=>(jc Hz hr (d3 (d4 0) (d3 (d4 1) d5))))) (d8 (e6 (jc GI hr (d3 (jc Hy hr (d3 (d4 1) d5)) (d3 (cL rfl T.c_HALF) d5)))))),?_⟩
 walk_at "sim"
 rw[oX,bt]
 refine⟨?_,?_⟩
 ·have e:=congrArg LC (oX (cs:=cs))
  rw[IX,ID,cg (by omega)]at e
  rw[e]
  exact IT (show cs.length≤1000 by omega) (by decide)
 refine u5 (xs:=cs.zip (cs.drop 1++cs.take 1)) (enc:=fun p=>D.tup [rD p.1,rD p.2]) (fun p=>f7 (p.1.1*p.2.2 - p.2.1*p.1.2)) ?_ (by simp only[i9,p6,and_self]) (fun p hp Q hQ=>?_) ?_
 ·rw[JB];omega
 ·have m1:=Ko hp
  have m2:p.2∈cs:=by
   rcases Jc.mp m1.2 with h|h
   ·exact Kq h
   ·exact Jm h
  have a:=hz _ m1.1
  have b:=hz _ m2
  walk_at "sim"
  exact⟨_,_,_,_,rfl,⟨a.1,a.2,b.1,b.2⟩,hQ⟩
 ·have er:(cs.zip (cs.drop 1++cs.take 1)).map (fun p=>f7 (p.1.1*p.2.2 - p.2.1*p.1.2))=(gX cs).map f7:=by unfold gX;rw[Js];rfl
  rw[er,uK]
  walk_at "sim"
  have hc:=gW (cs:=cs) (by omega)
  have hs:=CG hz
  have ss:=Bh _ hs
  have h3:=gM
  refine⟨⟨by omega,hs⟩,?_⟩
  walk_at "sim"
  rw[CI (by omega)]at ss ⊢
  exact⟨by omega,k⟩
theorem yf(T:Txt K mg)(d:Df K mg "less" lr ["one","other"]):Fn P w K mg base "less" 1 ["one","other"] kR:=by
 have sc:=xv
 refine i7 d sc (fun ds M R Y h=>?_) (fun f cdv A outer s H E ds M R Y hr h=>?_)
 ·obtain⟨q,r,rfl,_⟩:=h;rfl
 ·obtain⟨q,r,rfl,hz,k⟩:=h
  refine⟨_,(d8 (e6 (jm lO (e8 i6 (jx (d4 0) d6) (jx (d4 1) d6)) (e8 i6 (jx (d4 1) d6) (jx (d4 0) d6))))),?_⟩
  refine⟨_,rfl,_,rfl,_,rfl,_,rfl,_,_,rfl,rfl,mND hz,_,rfl,_,rfl,_,rfl,_,rfl,_,_,rfl,rfl,mND (by omega),_,rfl,?_⟩
  rw[← RM.EC]at k
  exact k
theorem jJ(T:Txt K mg)(d:Df K mg "is_lower" R0 ["one","other"])(HA:Fn P w K mg base "less" 1 ["one","other"] kR):Fn P w K mg base "is_lower" 2 ["one","other"] lE:=by
 have sc:=jq
 walk_at "fn"
 obtain⟨a,b,rfl,⟨ha,hb⟩,k⟩:=h
 refine⟨_,(d7 (o6 (jtm (ui hu) (jx (d4 0) d6) (jx (d4 1) d6)) (d8 (e6 (jc HA hr (d3 (jx (d4 0) d6) (d3 (jx (d4 1) d6) d5))))) j3) (d8 (e6 (jc HA hr (d3 (jx (d4 0) d6) (d3 (jx (d4 1) d6) d5)))))),?_⟩
 walk_at "sim"
 unfold E2 at k
 obtain⟨a1,a2⟩:=ha
 obtain⟨b1,b2⟩:=hb
 refine⟨fun z=>⟨by omega,?_⟩,fun z=>⟨by omega,?_⟩⟩
 ·rw[if_neg z]at k;exact k
 ·rw[if_pos z]at k;exact k
theorem cz(T:Txt K mg)(d:Df K mg "from_lowest" J2 ["rays"])(Hk:Fn P w K mg base "is_lower" 2 ["one","other"] lE):Fn P w K mg base "from_lowest" 3 ["rays"] lF:=by
 have sc:=bV
 walk_at "fn"
 obtain⟨rs,rfl,⟨hne,hl,hz⟩,k⟩:=h
 refine⟨_,(d7 (jst 1 sc.nd d6) (d7 (y8 PassesOwn.never rfl (jW rfl T.b_enumerate (d3 (d4 0) d5)) (q9 (n:=2) rfl (e7 (jn 2 sc.nd) (e7 (jn 3 sc.nd) m8))) (d8 (o6 (W3 (jc Hk hr (d3 (d4 3) (d3 (jx (d4 0) (d4 1)) d5)))) (d8 (jst 1 sc.nd (d4 2))) j3))) (d8 (e6 (W5 (A4 (d4 0) (A2 (d4 1)) A3) (A4 (d4 0) A3 (A2 (d4 1)))))))),?_⟩
 walk_at "sim"
 refine X2.by (fun i e M'=>M'=M∧∃ z2 z3:Option D,e=[some (.vl (rs.map rD)),some (.int ((D3 rs i:Nat):Int)),z2,z3]) ⟨rfl,_,_,rfl⟩ (fun i e M' _ _=>by simp only[i9]) ?_ ?_
 ·rintro i dd e M' hd ⟨rfl,z2,z3,rfl⟩
  obtain⟨d,hd2,rfl⟩:=kc hd
  rw[Jb]at hd2
  cases hq:rs[i]? with
  | none=>rw[hq]at hd2;cases hd2
  | some c =>
   rw[hq]at hd2
   obtain rfl:=Option.some.inj hd2
   have hi:=(Jd.mp hq).1
   have hp:=cq hne i (by omega)
   have e1:rs[D3 rs i]? = some (rs.getD (D3 rs i) (0,0)):=by rw[IS hp];simp[hp]
   have e2:rs.getD i (0,0)=c:=by simp[hq]
   have ex:atI (rs.map rD) ((D3 rs i:Nat):Int)=some (rD (rs.getD (D3 rs i) (0,0))):=o9 (by rw[Jb,e1];rfl)
   walk_at "sim"
   refine⟨_,ex,?_⟩
   walk_at "sim"
   have es:D3 rs (i+1)=if E2 c (rs.getD (D3 rs i) (0,0))=true then i else D3 rs i:=by
    show(if E2 (rs.getD i (0,0)) _=true then _ else _)=_
    rw[e2]
   rw[es]
   refine⟨⟨hz c (IU hq),hz _ (IU e1)⟩,fun z=>⟨some (.int (i:Int)),some (rD c),?_⟩,fun z=>⟨some (.int (i:Int)),some (rD c),?_⟩⟩
   ·rw[if_pos z]
   ·rw[if_neg (by rw[z];decide)]
 ·rintro e M' ⟨rfl,z2,z3,rfl⟩
  rw[E5,ID]
  walk_at "sim"
  rw[oY,cS]
  refine⟨?_,?_⟩
  ·have h1:((rs.map rD).drop (D3 rs rs.length)).length≤rs.length:=by rw[Jq,ID];omega
   have h2:((rs.map rD).take (D3 rs rs.length)).length≤rs.length:=by rw[Jg,ID];omega
   exact IT (Nat.add_le_add h1 h2) (IT (by omega:rs.length+rs.length≤1000) (by decide))
  ·rw[← MA,← MB,← Jn]
   exact k
theorem pU(T:Txt K mg)(d:Df K mg "facing" bZ ["side"]):Fn P w K mg base "facing" 1 ["side"] xy:=by
 have sc:=pN
 walk_at "fn"
 obtain⟨a,rfl,k⟩:=h
 unfold sdD
 refine⟨_,(d7 (A1 (d4 0) (q9 (n:=5) rfl (e7 (jn 1 sc.nd) (e7 (jn 2 sc.nd) (e7 (jn 3 sc.nd) (e7 (jn 4 sc.nd) (e7 (jn 5 sc.nd) m8))))))) (d8 (e6 (o8 (d3 (Z4 (d4 1)) (d3 (Z4 (d4 2)) (d3 (d4 3) (d3 (d4 4) (d3 (Z4 (d4 5)) d5))))))))),?_⟩
 walk_at "sim"
 exact k
theorem yb(T:Txt K mg)(d:Df K mg "veer" kZ ["one","other"]):Fn P w K mg base "veer" 1 ["one","other"] eE:=by
 have sc:=xq
 walk_at "fn"
 obtain⟨a,b,rfl,⟨ha,hb⟩,k⟩:=h
 unfold sdD
 refine⟨_,(d8 (e6 (e8 G3 (e8 i6 (jx (d4 0) d6) (jx (d4 1) d6)) (e8 i6 (jx (d4 0) d6) (jx (d4 1) d6))))),?_⟩
 walk_at "sim"
 exact⟨t6 _ _ ha.p hb.q (by decide),t6 _ _ ha.q hb.p (by decide),k⟩
theorem pT(T:Txt K mg)(d:Df K mg "met_at" bY ["one","other"])(GD:Fn P w K mg base "ratio" 40 ["top","bottom"] N8)(GH:Fn P w K mg base "veer" 1 ["one","other"] eE):Fn P w K mg base "met_at" 41 ["one","other"] Bm:=by
 have sc:=pK
 walk_at "fn"
 obtain⟨a,b,rfl,⟨ha,hb,hv⟩,k⟩:=h
 refine⟨_,(d7 (jst 2 sc.nd (jc GH hr (d3 (d4 0) (d3 (d4 1) d5)))) (d7 (jst 3 sc.nd (jc GD hr (d3 (e8 G3 (e8 i6 (jx (d4 0) d6) (jx (d4 1) d6)) (e8 i6 (jx (d4 1) d6) (jx (d4 0) d6))) (d3 (d4 2) d5)))) (d7 (jst 4 sc.nd (jc GD hr (d3 (e8 G3 (e8 i6 (jx (d4 0) d6) (jx (d4 1) d6)) (e8 i6 (jx (d4 1) d6) (jx (d4 0) d6))) (d3 (d4 2) d5)))) (d8 (e6 (o8 (d3 (d4 3) (d3 (d4 4) d5)))))))),?_⟩
 walk_at "sim"
 refine⟨⟨ha,hb⟩,t6 _ _ ha.r hb.q (by decide),t6 _ _ hb.r ha.q (by decide),hv,t6 _ _ ha.p hb.r (by decide),t6 _ _ hb.p ha.r (by decide),hv,?_⟩
 rw[← tj]at k
 exact k
theorem yc(T:Txt K mg)(d:Df K mg "turn" lb ["one","other","third"])(GH:Fn P w K mg base "veer" 1 ["one","other"] eE):Fn P w K mg base "turn" 2 ["one","other","third"] sU:=by
 have sc:=xr
 walk_at "fn"
 obtain⟨a,b,c,rfl,⟨ha,hb,hc⟩,k⟩:=h
 refine⟨_,(d8 (e6 (e8 L4 (e8 G3 (e8 i6 (jx (d4 0) d6) (jc GH hr (d3 (d4 1) (d3 (d4 2) d5)))) (e8 i6 (jx (d4 1) d6) (jc GH hr (d3 (d4 0) (d3 (d4 2) d5))))) (e8 i6 (jx (d4 2) d6) (jc GH hr (d3 (d4 0) (d3 (d4 1) d5))))))),?_⟩
 walk_at "sim"
 have v1:=ha.ve hb
 have v2:=ha.ve hc
 have v3:=hb.ve hc
 exact⟨⟨hb,hc⟩,t6 _ _ ha.r v3 (by decide),⟨ha,hc⟩,t6 _ _ hb.r v2 (by decide),⟨ha,hb⟩,t6 _ _ hc.r v1 (by decide),k⟩
theorem gp(T:Txt K mg)(d:Df K mg "next_side" M7 ["sides","here"])(GH:Fn P w K mg base "veer" 1 ["one","other"] eE)(HM:Fn P w K mg base "turn" 2 ["one","other","third"] sU):Fn P w K mg base "next_side" 3 ["sides","here"] Bl:=by
 have sc:=fw
 walk_at "fn"
 obtain⟨ss,g,rfl,⟨hg,hz⟩,k⟩:=h
 refine⟨_,(d7 (jst 2 sc.nd O1) (d7 (y8 PassesOwn.never rfl (t8 (d4 0)) (jn 3 sc.nd) (d8 (o6 (jtm pX (jc GH hr (d3 (d4 1) (d3 (d4 3) d5))) d6) (d7 (jst 4 sc.nd (uF (jtm pW (d4 2) O1) (Z4 d6) (jc HM hr (d3 (d4 1) (d3 (d4 2) (d3 (d4 3) d5)))))) (d8 (o6 (jX (oA (jtm lO (d4 4) d6) (lU (jX (uH (jtm nY (d4 4) d6) (oG (jtm pX (jc GH hr (d3 (d4 2) (d3 (d4 3) d5))) d6))))))) (d8 (jst 2 sc.nd (d4 3))) j3))) j3))) (d8 (e6 (d4 2))))),?_⟩
 walk_at "sim"
 refine X2.by (fun i e M'=>M'=M∧(∀ f,(ss.take i).foldl (K8 g) none=some f→SzS f)∧∃ z3 z4:Option D,e=[some (.vl (ss.map sdD)),some (sdD g),some (jE ((ss.take i).foldl (K8 g) none)),z3,z4]) ⟨rfl,fun f z=>(by cases z),_,_,rfl⟩ (fun i e M' _ h=>by rw[h.1];simp only[i9]) ?_ ?_
 ·rintro i dd e M' hd ⟨rfl,hf,z3,z4,rfl⟩
  rw[Jb]at hd
  cases hq:ss[i]? with
  | none=>rw[hq]at hd;cases hd
  | some t =>
   rw[hq]at hd
   obtain rfl:=Option.some.inj hd
   have ht:=hz t (IU hq)
   have e1:(ss.take (i+1)).foldl (K8 g) none=K8 g ((ss.take i).foldl (K8 g) none) t:=by
    rw[Kg,hq,Jw];rfl
   rw[e1]
   generalize (ss.take i).foldl (K8 g) none=f at *
   walk_at "sim"
   refine⟨⟨hg,ht⟩,fun z=>?_,fun z=>?_⟩
   ·cases f with
    | none =>
     have en:K8 g none t=some t:=by unfold K8;rw[if_pos z];rfl
     rw[en,show jE none=D.non from rfl,dc (b:=true) rfl]
     walk_at "sim"
     refine⟨fun f' hf'=>by cases hf';exact ht,_,_,rfl⟩
    | some f =>
     have hff:=hf f rfl
     rw[show jE (some f)=sdD f from rfl,dc (b:=false) rfl]
     walk_at "sim"
     refine⟨⟨hg,hff,ht⟩,?_⟩
     have en:∀ b:Bool,yL g (some f) t=b→K8 g (some f) t=if b=true then some t else some f:=fun b hb=>by unfold K8;rw[if_pos z,hb]
     have done:∀ b:Bool,yL g (some f) t=b→(∀ f',K8 g (some f) t=some f'→SzS f')∧jE (K8 g (some f) t)=if b=true then sdD t else sdD f:=fun b hb=>by
      rw[en b hb]
      cases b with
      | true=>exact⟨fun f' h=>by cases h;exact ht,rfl⟩
      | false=>exact⟨fun f' h=>by cases h;exact hff,rfl⟩
     refine⟨fun z1=>?_,fun z1=>⟨fun z2=>⟨⟨hff,ht⟩,fun z3=>?_,fun z3=>?_⟩,fun z2=>?_⟩⟩
     ·obtain⟨q1,q2⟩:=done true (by show(decide _ || _)=true;rw[decide_eq_true z1];rfl)
      exact⟨q1,some (sdD t),some (.int (tnZ g f t)),by rw[q2];rfl⟩
     ·obtain⟨q1,q2⟩:=done true (by show(decide _ || (decide _ && decide _))=true;rw[decide_eq_true z2,decide_eq_true z3,Bool.or_eq_true];exact .inr rfl)
      exact⟨q1,some (sdD t),some (.int (tnZ g f t)),by rw[q2];rfl⟩
     ·obtain⟨q1,q2⟩:=done false (by show(decide _ || (decide _ && decide _))=false;rw[decide_eq_false z1,decide_eq_false z3,Bool.and_false];rfl)
      exact⟨q1,some (sdD t),some (.int (tnZ g f t)),by rw[q2];rfl⟩
     ·obtain⟨q1,q2⟩:=done false (by show(decide _ || (decide _ && decide _))=false;rw[decide_eq_false z1,decide_eq_false z2];rfl)
      exact⟨q1,some (sdD t),some (.int (tnZ g f t)),by rw[q2];rfl⟩
   ·have en:K8 g f t=f:=by unfold K8;rw[if_neg z]
    rw[en]
    exact⟨hf,_,_,rfl⟩
 ·rintro e M' ⟨rfl,hf,z3,z4,rfl⟩
  walk_at "sim"
  rw[ID,JY]
  exact k
theorem gq(T:Txt K mg)(d:Df K mg "juts_more" M8 ["one","other"]):Fn P w K mg base "juts_more" 1 ["one","other"] sX:=by
 have sc:=fy
 walk_at "fn"
 obtain⟨a,b,rfl,⟨ha,hb⟩,k⟩:=h
 refine⟨_,(d7 (jst 2 sc.nd (e8 G3 (e8 i6 (jx (d4 0) d6) (jx (d4 1) d6)) (e8 i6 (jx (d4 1) d6) (jx (d4 0) d6)))) (d7 (o6 (jtm nY (d4 2) d6) (d8 (jst 2 sc.nd (e8 G3 (e8 i6 (jx (d4 0) d6) (jx (d4 1) d6)) (e8 i6 (jx (d4 1) d6) (jx (d4 0) d6))))) j3) (d8 (e6 (jm pX (d4 2) d6))))),?_⟩
 walk_at "sim"
 refine⟨t6 _ _ ha.p hb.r (by decide),t6 _ _ hb.p ha.r (by decide),fun z=>⟨t6 _ _ ha.q hb.r (by decide),t6 _ _ hb.q ha.r (by decide),?_⟩,fun z=>?_⟩
 ·unfold C1 at k
  rw[if_pos z]at k
  exact k
 ·unfold C1 at k
  rw[if_neg z]at k
  exact k
theorem gn(T:Txt K mg)(d:Df K mg "outermost" M6 ["sides"])(GZ:Fn P w K mg base "juts_more" 1 ["one","other"] sX):Fn P w K mg base "outermost" 2 ["sides"] sW:=by
 have sc:=fu
 walk_at "fn"
 obtain⟨ss,rfl,⟨s,r,e⟩,hz,k⟩:=h
 have e0:ss.headD (0,0,0,0,0)=s:=by rw[e];rfl
 rw[e0]at k
 refine⟨_,(d7 (jst 1 sc.nd (jx (d4 0) d6)) (d7 (y8 PassesOwn.never rfl (t8 (d4 0)) (jn 2 sc.nd) (d8 (o6 (W3 (jc GZ hr (d3 (d4 2) (d3 (d4 1) d5)))) (d8 (jst 1 sc.nd (d4 2))) j3))) (d8 (e6 (d4 1))))),?_⟩
 walk_at "sim"
 have ei:atI (ss.map sdD) 0=some (sdD s):=by rw[e];exact o9 (n:=0) rfl
 refine⟨_,ei,?_⟩
 have hs:SzS s:=hz s (by rw[e];exact IG)
 refine X2.by (fun i e M'=>M'=M∧∃ z:Option D,e=[some (.vl (ss.map sdD)),some (sdD (u9 (ss.take i) s)),z]) ⟨rfl,_,rfl⟩ (fun i e M' _ h=>by rw[h.1];simp only[i9]) ?_ ?_
 ·rintro i dd e M' hd ⟨rfl,z,rfl⟩
  rw[Jb]at hd
  cases hq:ss[i]? with
  | none=>rw[hq]at hd;cases hd
  | some t =>
   rw[hq]at hd
   obtain rfl:=Option.some.inj hd
   have ht:=hz t (IU hq)
   have ho:SzS (u9 (ss.take i) s):=by
    rcases V7 (ss.take i) s with h|h
    ·rw[h];exact hs
    ·exact hz _ (Jm h)
   have e1:u9 (ss.take (i+1)) s=if C1 t (u9 (ss.take i) s)=true then t else u9 (ss.take i) s:=by
    unfold u9
    rw[Kg,hq,Jw];rfl
   rw[e1]
   walk_at "sim"
   refine⟨⟨ht,ho⟩,fun z=>⟨some (sdD t),?_⟩,fun z=>⟨some (sdD t),?_⟩⟩
   ·rw[if_pos z]
   ·rw[if_neg (by rw[z];decide)]
 ·rintro e M' ⟨rfl,z,rfl⟩
  walk_at "sim"
  rw[ID,JY]
  exact k
theorem gm(T:Txt K mg)(d:Df K mg "tops_over" G0 ["ratios","bottom"]):Fn P w K mg base "tops_over" 1 ["ratios","bottom"] lA:=by
 have sc:=T1
 walk_at "fn"
 obtain⟨l,c,rfl,⟨hl,rfl⟩,k⟩:=h
 refine⟨_,(d8 (e6 (D6 [1] ["one"] ["bottom"] rfl (by decide +kernel) rfl (by decide +kernel) (by decide +kernel) rfl (dw ⟨rfl,rfl⟩) (dw (Or.inl rfl)) (t8 (d4 0)) (fun _ _ _ _ _ _=>(jn 0 (show(["one","bottom"]:List Str).Nodup by decide +kernel))) (fun _ _ _ _ _ _=>p5) (fun _ _ _ _ _ _=>(e8 i6 (jx (d4 0) d6) (e8 Z0 (d4 1) (jx (d4 0) d6))))))),?_⟩
 walk_at "sim"
 refine pB (ds:=[l.1,l.2.1,l.2.2].map f7) (by show p8 M (.tup _) _;rw[p6];rfl) ?_
 refine u5 (xs:=[l.1,l.2.1,l.2.2]) (enc:=f7) (fun q=>.int (az q (cbL l))) (by show 3≤1000;decide) (by show p8 M (.tup _) _;rw[p6];rfl) (fun q hq Q hQ=>?_) k
 have hqs:sz q≤1300:=by
  simp only[IE,Ji,or_false]at hq
  rcases hq with rfl|rfl|rfl
  ·exact hl.p
  ·exact hl.q
  ·exact hl.r
 have d0:=q.den_pos
 have hd:q.den<2 ^ 1300:=B1 q hqs
 have ef:((cbL l:Nat):Int).fdiv (q.den:Int)=((cbL l / q.den:Nat):Int):=by rw[bj (by omega) (by omega)];rfl
 walk_at "sim"
 rw[ef]
 refine⟨⟨by omega,IF (R6 (by rw[IK];exact hd) (by decide)) (by decide)⟩,t6 1300 3901 (G4 q hqs) (by rw[IK];exact Jl (Kd _ _) hl.cb) (by decide),hQ⟩
theorem Y9(T:Txt K mg)(d:Df K mg "common_bottom" A9 ["ratios"])(GC:Fn P w K mg base "divisor" 1 ["one","other"] J6):Fn P w K mg base "common_bottom" 2 ["ratios"] Bp:=by
 have sc:=J7
 walk_at "fn"
 obtain⟨l,rfl,hl,k⟩:=h
 refine⟨_,(d7 (jst 1 sc.nd d6) (d7 (y8 PassesOwn.never rfl (t8 (d4 0)) (jn 2 sc.nd) (d8 (jst 1 sc.nd (e8 i6 (e8 Z0 (d4 1) (jc GC hr (d3 (d4 1) (d3 (jx (d4 2) d6) d5)))) (jx (d4 2) d6))))) (d8 (e6 (d4 1))))),?_⟩
 walk_at "sim"
 refine pB (ds:=[l.1,l.2.1,l.2.2].map f7) (by show p8 M (.tup _) _;rw[p6];rfl) ?_
 refine X2.by (fun i e M'=>M'=M∧∃ z:Option D,e=[some (j4 l),some (.int ((([l.1,l.2.1,l.2.2].take i).foldl (fun c q=>A7 c q.den) 1:Nat):Int)),z]) ⟨rfl,_,rfl⟩ (fun i e M' _ h=>by rw[h.1];show p8 M (.tup _) _;rw[p6];rfl) ?_ ?_
 ·rintro i dd e M' hd ⟨rfl,z,rfl⟩
  rw[Jb]at hd
  cases hq:[l.1,l.2.1,l.2.2][i]? with
  | none=>rw[hq]at hd;cases hd
  | some q =>
   rw[hq]at hd
   obtain rfl:=Option.some.inj hd
   have e1:([l.1,l.2.1,l.2.2].take (i+1)).foldl (fun c q=>A7 c q.den) 1=A7 (([l.1,l.2.1,l.2.2].take i).foldl (fun c q=>A7 c q.den) 1) q.den:=by
    rw[Kg,hq,Jw];rfl
   have hi:=(Jd.mp hq).1
   have hqs:sz q≤1300:=by
    have:=IU hq
    simp only[IE,Ji,or_false]at this
    rcases this with rfl|rfl|rfl
    ·exact hl.p
    ·exact hl.q
    ·exact hl.r
   have hc:0<([l.1,l.2.1,l.2.2].take i).foldl (fun c q=>A7 c q.den) 1:=by
    have:∀(xs:List Rat) (c:Nat),0<c→0<xs.foldl (fun c q=>A7 c q.den) c:=fun xs=>by
     induction xs with
     | nil=>exact fun c h=>h
     | cons x xs ih=>exact fun c h=>ih _ (by show 0<A7 c x.den;rw[G6];exact Mt h x.den_pos)
    exact this _ _ (by decide)
   have hd:q.den<2 ^ 1300:=B1 q hqs
   rw[e1]
   have hb:([l.1,l.2.1,l.2.2].take i).foldl (fun c q=>A7 c q.den) 1<2 ^ 4000:=by
    have:=hZ ([l.1,l.2.1,l.2.2].take i) 1 1 (fun x hx=>hl.all x (Jm hx)) (by decide)
    refine IF this (Jh (by decide) ?_)
    have:([l.1,l.2.1,l.2.2].take i).length≤3:=by rw[Jg];exact LI _ _
    omega
   generalize ([l.1,l.2.1,l.2.2].take i).foldl (fun c q=>A7 c q.den) 1=c at *
   have g0:0<JP c q.den:=KC _ q.den_pos
   have g1:JP c q.den<2 ^ 1300:=Jl (Nat.le_of_dvd q.den_pos (MF _ _)) hd
   have ef:(c:Int).fdiv (JP c q.den:Nat)=((c / JP c q.den:Nat):Int):=by rw[bj (by omega) (by omega)];rfl
   walk_at "sim"
   rw[ef]
   refine⟨⟨by omega,IF (R6 (by rw[IK];exact g1) (by decide)) (by decide)⟩,?_,some (f7 q),?_⟩
   ·exact t6 4000 1300 (by rw[IK];exact Jl (Kd _ _) hb) (by rw[IK];exact hd) (by decide)
   ·unfold A7
    rw[Lm]
 ·rintro e M' ⟨rfl,z,rfl⟩
  walk_at "sim"
  exact k
theorem jF(T:Txt K mg)(d:Df K mg "sides_of" Q6 ["lines"])(GU:Fn P w K mg base "facing" 1 ["side"] xy)(Ha:Fn P w K mg base "tops_over" 1 ["ratios","bottom"] lA)(GN:Fn P w K mg base "common_bottom" 2 ["ratios"] Bp):Fn P w K mg base "sides_of" 3 ["lines"] fR:=by
 have sc:=jj
 walk_at "fn"
 obtain⟨x0,ls,rfl,hx0,hok,k⟩:=h
 rcases hx0 with rfl|rfl
 all_goals
  refine⟨_,(d7 (jst 1 sc.nd (gJ d5)) (d7 (y8 PassesOwn.never rfl (jW rfl T.b_enumerate (d3 (d4 0) d5)) (q9 (n:=2) rfl (e7 (jn 2 sc.nd) (e7 (jn 3 sc.nd) m8))) (d7 (jst 4 sc.nd (jc GN hr (d3 (d4 3) d5))) (d7 (A1 (jc Ha hr (d3 (d4 3) (d3 (d4 4) d5))) (uD (n:=3) rfl (e7 (jn 5 sc.nd) (e7 (jn 6 sc.nd) (e7 (jn 7 sc.nd) m8))))) (d7 (jst 8 sc.nd (o8 (d3 (d4 5) (d3 (d4 6) (d3 (d4 7) (d3 (d4 2) (d3 (d4 4) d5))))))) (d7 (W2 (oF PySem.F.slot_list_append PySem.F.type_list_append P6 (d4 1) (d3 (d4 8) d5))) (d8 (W2 (oF PySem.F.slot_list_append PySem.F.type_list_append P6 (d4 1) (d3 (jc GU hr (d3 (d4 8) d5)) d5))))))))) (d8 (e6 (gK (cM (d4 1))))))),?_⟩
  walk_at "sim"
  intro p hp
  refine X2.by (fun i e M'=>M'=B7 M p (.lst ((K2 0 (ls.take i)).map sdD))∧∃ z0 z2 z3 z4 z5 z6 z7 z8:Option D,e=[z0,some (.ref p),z2,z3,z4,z5,z6,z7,z8]) ⟨rfl,_,_,_,_,_,_,_,_,rfl⟩ (fun i e M' _ _=>by simp only[i9,p6]) ?_ ?_
  ·rintro i dd e M' hd ⟨rfl,z0,z2,z3,z4,z5,z6,z7,z8,rfl⟩
   obtain⟨d,hd2,rfl⟩:=kc hd
   obtain⟨l,hl,rfl⟩:=qc hd2
   have hm:=hok.2 l (IU hl)
   have h12:=hok.1
   have hi:=(Jd.mp hl).1
   walk_at "sim"
   refine⟨hm,hm,?_⟩
   have es:D.tup [.int (i4 l 0).1,.int (i4 l 0).2.1,.int (i4 l 0).2.2.1,.int (i:Int),.int ((cbL l:Nat):Int)]=sdD (i4 l i):=rfl
   have hln:((K2 0 (ls.take i)).map sdD).length≤24:=by
    rw[ID,aP,Jg];omega
   rw[es]
   refine iy i3 (iA i3 (by omega) ?_)
   rw[S6]
   refine iy i3 ?_
   walk_at "sim"
   refine iA i3 (by rw[IX];show _+1<1000;omega) ⟨?_,_,_,_,_,_,_,_,_,rfl⟩
   rw[S6,jg ls 0 i l hl,Mg,Jn,LA]
   rfl
  ·rintro e M' ⟨rfl,z0,z2,z3,z4,z5,z6,z7,z8,rfl⟩
   walk_at "sim"
   rw[kI i3,W9 hp]
   walk_at "sim"
   rw[E5,ID,JY]
   exact⟨_,fun _ _ h=>h,k⟩
theorem jK(T:Txt K mg)(d:Df K mg "half_rim" R1 ["lines"])(GH:Fn P w K mg base "veer" 1 ["one","other"] eE)(GQ:Fn P w K mg base "next_side" 3 ["sides","here"] Bl)(Hb:Fn P w K mg base "outermost" 2 ["sides"] sW)(Hl:Fn P w K mg base "sides_of" 3 ["lines"] fR):Fn P w K mg base "half_rim" 4 ["lines"] nK:=by
 have sc:=jr
 walk_at "fn"
 obtain⟨x0,ls,rfl,hx0,hok,k⟩:=h
 have hlo:∀ l∈ls,LineOk l:=fun l hl=>(hok.2 l hl).toLineOk
 rcases hx0 with rfl|rfl
 all_goals
  refine⟨_,(d7 (o6 (jtm nY (u7 pf rfl T.b_len ik (d3 (d4 0) d5)) d6) (d8 (e6 (gK (W4 d5)))) j3) (d7 (jst 1 sc.nd (jc Hl hr (d3 (d4 0) d5))) (d7 (jst 2 sc.nd (gJ (d3 (jc Hb hr (d3 (d4 1) d5)) d5))) (d7 (jst 3 sc.nd (jc GQ hr (d3 (d4 1) (d3 (jx (d4 2) d6) d5)))) (d7 (Z3 PassesOwn.never (jX (uH (jtm yi (d4 3) O1) (oG (jtm pX (jc GH hr (d3 (jx (d4 2) d6) (d3 (d4 3) d5))) d6)))) (d7 (W2 (oF PySem.F.slot_list_append PySem.F.type_list_append P6 (d4 2) (d3 (d4 3) d5))) (d8 (jst 3 sc.nd (jc GQ hr (d3 (d4 1) (d3 (d4 3) d5))))))) (d8 (e6 (gK (cM (d4 2)))))))))),?_⟩
  walk_at "sim"
  refine⟨fun h0=>?_,fun h0=>?_⟩
  ·have e:ls=[]:=by
    cases ls with
    | nil=>rfl
    | cons a b=>rw[ID,IA]at h0;omega
   subst e
   exact vS (fun _ _ h=>h) k
  ·have hp:∀ s∈g5 ls,0<s.2.2.1:=fq hlo (i:=0)
   have hz:∀ s∈g5 ls,SzS s:=X6 hok
   have hln:=aP ls 0
   have h12:=hok.1
   obtain⟨s1,r,es⟩:∃ s r,g5 ls=s :: r:=by
    cases ls with
    | nil=>exact absurd rfl h0
    | cons a b=>exact⟨_,_,rfl⟩
   have hln:(g5 ls).length≤24:=by show(K2 0 ls).length≤24;omega
   refine⟨hok,⟨s1,r,es⟩,hz,fun p hpn=>?_⟩
   have eh:(g5 ls).headD (0,0,0,0,0)=s1:=by rw[es];rfl
   rw[eh]
   have ek:L5 (g5 ls)=u9 (g5 ls) s1 :: C7 (u9 (g5 ls) s1) (g5 ls) (g5 ls).length (A0 (u9 (g5 ls) s1) (g5 ls)):=by rw[es];rfl
   have m0:u9 (g5 ls) s1∈g5 ls:=by
    rcases V7 (g5 ls) s1 with h|h
    ·rw[h,es];exact IG
    ·exact h
   rw[ek]at k
   generalize u9 (g5 ls) s1=h0 at *
   generalize g5 ls=ss at *
   refine⟨_,G7 i3 rfl,?_⟩
   walk_at "sim"
   refine⟨⟨hz _ m0,hz⟩,?_⟩
   refine pA (fun m e M'=>∃(pre:List Sd) (o:Option Sd) (z0:Option D),e=[z0,some (.vl (ss.map sdD)),some (.ref p),some (jE o)]∧M'=B7 M p (.lst ((h0 :: pre).map sdD))∧pre++C7 h0 ss m o=C7 h0 ss ss.length (A0 h0 ss)∧pre.length+m≤24∧(∀ f,o=some f→f∈ss)∧∀ f,o=some f→0<veZ h0 f→qp h0 ss f<m) ss.length ⟨[],A0 h0 ss,_,rfl,rfl,rfl,by simpa using hln,fun f hf=>(E9 hp hf).1,fun f hf hv=>IF (X0 hp hf (.inl rfl) hv) (vx h0 ss h0)⟩ ?_
   rintro m e M' ⟨pre,o,z0,rfl,rfl,hr,hlm,ho,hc⟩
   have fin:C7 h0 ss m o=[]→yR (D.ref p) (B7 M p (.lst ((h0 :: pre).map sdD))) (fun x M1=>De x M1 R):=fun hn=>by
    rw[hn,Kc]at hr
    rw[kI i3,W9 hpn,hr]
    exact vS (fun _ _ h=>h) k
   cases o with
   | none =>
    rw[show jE none=D.non from rfl]
    walk_at "sim"
    rw[dc (b:=true) rfl]
    walk_at "sim"
    exact fin (by cases m<;>rfl)
   | some f =>
    have hf:=ho f rfl
    rw[show jE (some f)=sdD f from rfl]
    walk_at "sim"
    rw[dc (b:=false) rfl]
    walk_at "sim"
    refine⟨_,G7 i3 (o9 (n:=0) rfl),?_⟩
    walk_at "sim"
    refine⟨⟨hz _ m0,hz _ hf⟩,fun hv=>?_,fun hv=>?_⟩
    ·have hcm:=hc f rfl hv
     obtain⟨m,rfl⟩:∃ m',m=m'+1:=⟨m - 1,by omega⟩
     have er:C7 h0 ss (m+1) (some f)=f :: C7 h0 ss m (A0 f ss):=if_pos hv
     rw[er]at hr
     refine iy i3 (iA i3 (by rw[IA,ID];omega) ⟨⟨hz _ hf,hz⟩,m,Nat.lt_succ_self _,pre++[f],A0 f ss,_,rfl,?_,by rw[LA];exact hr,by rw[IX];show pre.length+1+m≤24;omega,fun g hg=>(E9 hp hg).1,fun g hg hg2=>?_⟩)
     ·rw[S6]
      congr 2
      rw[Jn];rfl
     ·have:=X0 hp hg (.inr hv) hg2
      omega
    ·refine fin ?_
     cases m with
     | zero=>rfl
     | succ m=>exact if_neg hv
theorem lM(T:Txt K mg)(d:Df K mg "corners" Y4 ["lines"])(GR:Fn P w K mg base "from_lowest" 3 ["rays"] lF)(GG:Fn P w K mg base "opposite" 1 ["one"] nG)(GU:Fn P w K mg base "facing" 1 ["side"] xy)(Hs:Fn P w K mg base "met_at" 41 ["one","other"] Bm)(Hm:Fn P w K mg base "half_rim" 4 ["lines"] nK):Fn P w K mg base "corners" 42 ["lines"] nN:=by
 have sc:=kX
 walk_at "fn"
 obtain⟨x0,ls,rfl,hx0,hok,k⟩:=h
 have hlo:∀ l∈ls,LineOk l:=fun l hl=>(hok.2 l hl).toLineOk
 have hlen:=jZ hlo
 rcases hx0 with rfl|rfl
 all_goals
  refine⟨_,(d7 (jst 1 sc.nd (jc Hm hr (d3 (d4 0) d5))) (d7 (o6 (jtm lO (u7 pf rfl T.b_len ik (d3 (d4 1) d5)) d6) (d8 (e6 O1)) j3) (d7 (C2 (i:=2) [] ["one","other"] [] sc.nd rfl (Or.inl rfl) rfl (by decide +kernel) rfl (by decide +kernel) (by decide +kernel) rfl cW cW (gG rfl T.b_zip (d3 (d4 1) (d3 (W5 (A4 (d4 1) (A2 d6) A3) (W4 (d3 (jc GU hr (d3 (jx (d4 1) d6) d5)) d5))) d5))) (fun _ _ _ _ _ _=>(q9 (n:=2) rfl (e7 (jn 0 (show(["one","other"]:List Str).Nodup by decide +kernel)) (e7 (jn 1 (show(["one","other"]:List Str).Nodup by decide +kernel)) m8)))) (fun _ _ _ _ _ _=>p5) (fun _ _ _ _ _ _=>(jc Hs hr (d3 (d4 0) (d3 (d4 1) d5))))) (d8 (e6 (jc GR hr (d3 (W5 (d4 2) (D6 [] ["y","u"] [] rfl (by decide +kernel) rfl (by decide +kernel) (by decide +kernel) rfl cW cW (t8 (d4 2)) (fun _ _ _ _ _ _=>(q9 (n:=2) rfl (e7 (jn 0 (show(["y","u"]:List Str).Nodup by decide +kernel)) (e7 (jn 1 (show(["y","u"]:List Str).Nodup by decide +kernel)) m8)))) (fun _ _ _ _ _ _=>p5) (fun _ _ _ _ _ _=>(o8 (d3 (jc GG hr (d3 (d4 0) d5)) (d3 (jc GG hr (d3 (d4 1) d5)) d5)))))) d5))))))),?_⟩
  walk_at "sim"
  refine⟨hok,fun hlt=>?_,fun hge=>?_⟩
  ·have e:F6 ls=none:=by
    unfold F6
    cases e:L5 (g5 ls)with
    | nil=>rfl
    | cons a r =>
     cases r with
     | nil=>rfl
     | cons b r=>rw[e,ID,IA,IA]at hlt;omega
   rw[e]at k
   exact k
  ·obtain⟨h0,x,l,e⟩:∃ h0 x l,L5 (g5 ls)=h0 :: x :: l:=by
    cases e:L5 (g5 ls)with
    | nil=>rw[e]at hge;exact absurd (by decide) hge
    | cons a r =>
     cases r with
     | nil=>rw[e]at hge;exact absurd (by show(1:Int)<2;decide) hge
     | cons b r=>exact⟨a,b,r,rfl⟩
   have hne:ls≠[]:=fun z=>by rw[z]at e;cases e
   obtain⟨g0,g,eg,m0,hg⟩:=J9 hlo hne
   rw[e]at eg
   injection eg with q1 q2
   subst q1;subst q2
   have hall:∀ ab∈(h0 :: x :: l).zip (x :: l++[j5 h0]),SzS ab.1∧SzS ab.2∧veZ ab.1 ab.2≠0:=fun ab hab=>by
    rcases hg with⟨z,_⟩|⟨_,_,hg⟩
    ·cases z
    ·obtain⟨a1,a2,a3⟩:=hg ab hab
     exact⟨X6 hok _ a1,X6 hok _ a2,by omega⟩
   have ec:F6 ls=some (Y6 (y4 h0 (x :: l)++(y4 h0 (x :: l)).map ngZ)):=by unfold F6;rw[e]
   rw[ec]at k
   have rl:=jC h0 (x :: l)
   have h12:=hok.1
   have hrs:∀ z∈y4 h0 (x :: l),yP z:=fun z hz=>by
    obtain⟨ab,hab,rfl⟩:=IJ.mp hz
    obtain⟨a1,a2,a3⟩:=hall ab hab
    have:=zX ⟨a1.p,a1.q,a1.r⟩ ⟨a2.p,a2.q,a2.r⟩ a3
    exact⟨by have:=this.1;omega,by have:=this.2;omega⟩
   rw[e]at hlen ⊢
   rw[IA,IA]at hlen
   rw[Jj]
   walk_at "sim"
   rw[CF,← Jj,show[sdD (j5 h0)]=[j5 h0].map sdD from rfl,← Jn,show sdD h0 :: (x :: l).map sdD=(h0 :: x :: l).map sdD from rfl,qx]
   refine⟨by rw[ID];exact IT (by rw[IA];omega:(x :: l).length+1≤1000) (by decide),?_⟩
   refine u5 (xs:=(h0 :: x :: l).zip (x :: l++[j5 h0])) (enc:=fun ab=>D.tup [sdD ab.1,sdD ab.2]) (fun ab=>rD (ry (tri ab.1) (tri ab.2))) ?_ (by simp only[i9,and_self]) (fun ab hab Q hQ=>?_) ?_
   ·rw[JB,IA,IA];omega
   ·walk_at "sim"
    exact⟨hall ab hab,hQ⟩
   ·have er:((h0 :: x :: l).zip (x :: l++[j5 h0])).map (fun ab=>rD (ry (tri ab.1) (tri ab.2)))=(y4 h0 (x :: l)).map rD:=by unfold y4;rw[Js];rfl
    rw[er]
    walk_at "sim"
    refine u5 (xs:=y4 h0 (x :: l)) (enc:=rD) (fun z=>rD (ngZ z)) ?_ (by simp only[i9]) (fun z hz Q hQ=>?_) ?_
    ·rw[rl,IA];omega
    ·rw[show rD z=D.tup [f7 z.1,f7 z.2]from rfl]
     walk_at "sim"
     exact hQ
    ·have er2:(y4 h0 (x :: l)).map (fun z=>rD (ngZ z))=((y4 h0 (x :: l)).map ngZ).map rD:=by rw[Js];rfl
     rw[er2]
     walk_at "sim"
     rw[← Jn]
     refine⟨?_,?_⟩
     ·rw[ID,ID,ID,rl]
      exact IT (by rw[IA];omega:(x :: l).length+1+((x :: l).length+1)≤1000) (by decide)
     ·walk_at "sim"
      refine⟨⟨?_,?_,fun z hz=>?_⟩,k⟩
      ·intro z
       have:=congrArg LC z
       rw[IX,rl]at this
       simp at this
      ·rw[IX,ID,rl,IA];omega
      ·rcases Jc.mp hz with hz|hz
       ·exact hrs z hz
       ·obtain⟨y,hy,rfl⟩:=IJ.mp hz
        obtain⟨y1,y2⟩:=hrs y hy
        exact⟨by show sz (-y.1)≤_;rw[RM.I0];exact y1,by show sz (-y.2)≤_;rw[RM.I0];exact y2⟩
theorem cy(T:Txt K mg)(d:Df K mg "led_by_part" J1 ["part","ray"])(Hh:Fn P w K mg base "minus" 42 ["one","other"] aO)(GI:Fn P w K mg base "times" 41 ["one","other"] G1)(Ho:Fn P w K mg base "plus" 41 ["one","other"] fm):Fn P w K mg base "led_by_part" 43 ["part","ray"] jv:=by
 have sc:=bU
 walk_at "fn"
 obtain⟨x,y,u,rfl,hz,k⟩:=h
 refine⟨_,(d7 (A1 (d4 0) (q9 (n:=2) rfl (e7 (jn 2 sc.nd) (e7 (jn 3 sc.nd) m8)))) (d7 (A1 (d4 1) (q9 (n:=2) rfl (e7 (jn 4 sc.nd) (e7 (jn 5 sc.nd) m8)))) (d7 (o6 (jtm cC (d4 2) C9) (d8 (e6 (o8 (d3 (jc Ho hr (d3 (d4 4) (d3 (jc GI hr (d3 (d4 3) (d3 (d4 5) d5))) d5))) (d3 (d4 5) d5))))) j3) (d7 (o6 (jtm cC (d4 2) C9) (d8 (e6 (o8 (d3 (d4 4) (d3 (jc Hh hr (d3 (d4 5) (d3 (jc GI hr (d3 (d4 3) (d3 (d4 4) d5))) d5))) d5))))) j3) (d8 (e6 (d4 1))))))),?_⟩
 walk_at "sim"
 unfold y7 at k
 refine⟨fun h1=>?_,fun h1=>⟨fun h2=>?_,fun h2=>?_⟩⟩
 ·rw[if_pos h1]at k;exact⟨by omega,by walk_at "size",k⟩
 ·rw[if_neg h1,if_pos h2]at k;exact⟨by omega,by walk_at "size",k⟩
 ·rw[if_neg h1,if_neg h2]at k;exact k
theorem jH(T:Txt K mg)(d:Df K mg "lines_of" Q8 ["bench"])(GL:Fn P w K mg base "led_by_part" 43 ["part","ray"] jv):Fn P w K mg base "lines_of" 44 ["bench"] U6:=by
 have sc:=jl
 walk_at "fn"
 obtain⟨x0,bs,rfl,hx0,⟨hl,hok⟩,k⟩:=h
 rcases hx0 with rfl|rfl
 all_goals
  refine⟨_,(d7 (jst 1 sc.nd (gJ d5)) (d7 (jst 2 sc.nd (cL rfl T.c_LEVEL_RAY)) (d7 (jst 3 sc.nd (cL rfl T.c_AXIS_RAY)) (d7 (y8 PassesOwn.never rfl (t8 (d4 0)) (jn 4 sc.nd) (eO (o6 (jtm cC (jx (d4 4) d6) C9) (d8 (W2 (oF PySem.F.slot_list_append PySem.F.type_list_append P6 (d4 1) (d3 (o8 (d3 (jx (d4 2) d6) (d3 (jx (d4 3) d6) (d3 (jx (d4 4) d6) d5)))) d5)))) j3) (d7 (jst 2 sc.nd (jc GL hr (d3 (d4 4) (d3 (d4 2) d5)))) (d8 (jst 3 sc.nd (jc GL hr (d3 (d4 4) (d3 (d4 3) d5)))))))) (d8 (e6 (gK (cM (d4 1))))))))),?_⟩
  walk_at "sim"
  intro p hp
  refine X2.by (fun i e M'=>(∃ y0 z:Option D,e=[y0,some (.ref p),some (D9 (f6 (bs.take i) (1,0)).1 (f6 (bs.take i) (1,0)).2),some (D9 (f6 (bs.take i) (0,1)).1 (f6 (bs.take i) (0,1)).2),z])∧M'=B7 M p (.lst ((v6 bs i).map j4))) ⟨⟨_,_,rfl⟩,rfl⟩ (fun i e M' _ _=>by simp only[i9,p6]) ?_ ?_
  ·rintro i dd e M' hd ⟨⟨y0,z,rfl⟩,rfl⟩
   obtain⟨pt,hpt,rfl⟩:=eI hd
   have hm:=IU hpt
   have t1:=(S7 Fs hok i).t2
   have t2:=(S7 Ft hok i).t2
   have a1:=t1.y
   have a2:=t1.u
   have b1:=t2.y
   have b2:=t2.u
   have q2:=(hok pt hm).sz
   have o1:=cw hpt (1,0)
   have o2:=cw hpt (0,1)
   have hll:=W0 bs i
   have hi:=(Jd.mp hpt).1
   walk_at "sim"
   refine vP (fun e' M'=>e'=[y0,some (.ref p),some (D9 (f6 (bs.take i) (1,0)).1 (f6 (bs.take i) (1,0)).2),some (D9 (f6 (bs.take i) (0,1)).1 (f6 (bs.take i) (0,1)).2),some (p7 pt)]∧M'=B7 M p (.lst ((v6 bs (i+1)).map j4))) ?_ ?_
   ·walk_at "sim"
    refine⟨fun h1=>iy i3 (iA i3 (by rw[ID];omega) ?_),fun h1=>?_⟩
    ·rw[S6,qb hpt h1,Jn];rfl
    ·rw[ux hpt h1]
   ·rintro e' M' ⟨rfl,rfl⟩
    walk_at "sim"
    refine⟨by omega,by omega,⟨y0,some (p7 pt),?_⟩⟩
    rw[o1,o2]
  ·rintro e M' ⟨⟨y0,z,rfl⟩,rfl⟩
   walk_at "sim"
   rw[kI i3,W9 hp]
   walk_at "sim"
   rw[ID]
   exact⟨_,fun _ _ h=>h,k⟩
theorem aC(T:Txt K mg)(d:Df K mg "turned_bench" F3 ["bench"]):Fn P w K mg base "turned_bench" 1 ["bench"] fP:=by
 have sc:=aA
 walk_at "fn"
 obtain⟨xs,rfl,k⟩:=h
 refine⟨_,(d8 (e6 (lW rfl rfl T.b_list bo rfl T.b_reversed kA (d4 0)))),?_⟩
 walk_at "sim"
 exact k
theorem gx(T:Txt K mg)(d:Df K mg "_law_good" N5 ["bench","at"])(HN:Fn P w K mg base "lets" 3 ["lines","ray"] nJ)(GJ:Fn P w K mg base "_law_through" 43 ["bench","ray"] lB)(Hd:Fn P w K mg base "_law_even" 42 ["rays"] Bk)(HP:Fn P w K mg base "area" 44 ["rays"] sZ)(Hi:Fn P w K mg base "corners" 42 ["lines"] nN)(GW:Fn P w K mg base "lines_of" 44 ["bench"] U6)(GP:Fn P w K mg base "turned_bench" 1 ["bench"] fP):Fn P w K mg base "_law_good" 45 ["bench","at"] fY:=by
 have sc:=fH
 walk_at "fn"
 obtain⟨bs,at',rfl,⟨hl,hok40,hat⟩,k⟩:=h
 refine⟨_,(d7 (jst 2 sc.nd (jc GW hr (d3 (cK rfl T.b_list bo (d3 (d4 0) d5)) d5))) (d7 (jst 3 sc.nd (jc Hi hr (d3 (d4 2) d5))) (d7 (jst 4 sc.nd (jc Hi hr (d3 (jc GW hr (d3 (jc GP hr (d3 (cK rfl T.b_list bo (d3 (d4 0) d5)) d5)) d5)) d5))) (d7 (o6 (jX (oA (jtm pW (d4 3) O1) (lU (jtm pW (d4 4) O1)))) (d8 (e6 (oz (jm pW (d4 3) O1) (oy (jm pW (d4 4) O1))))) j3) (d7 (C2 (i:=5) [0] ["ray"] ["bench"] sc.nd rfl (Or.inl rfl) rfl (by decide +kernel) rfl (by decide +kernel) (by decide +kernel) rfl (dw ⟨rfl,rfl⟩) (dw (Or.inl rfl)) (t8 (d4 3)) (fun _ _ _ _ _ _=>(jn 0 (show(["ray","bench"]:List Str).Nodup by decide +kernel))) (fun _ _ _ _ _ _=>p5) (fun _ _ _ _ _ _=>(jc GJ hr (d3 (d4 1) (d3 (d4 0) d5))))) (d7 (o6 (jtm (ui hu) (cM (u7 (eV hu) rfl T.b_sorted eX (d3 (D6 [] ["y","u"] [] rfl (by decide +kernel) rfl (by decide +kernel) (by decide +kernel) rfl cW cW (t8 (d4 5)) (fun _ _ _ _ _ _=>(q9 (n:=2) rfl (e7 (jn 0 (show(["y","u"]:List Str).Nodup by decide +kernel)) (e7 (jn 1 (show(["y","u"]:List Str).Nodup by decide +kernel)) m8)))) (fun _ _ _ _ _ _=>p5) (fun _ _ _ _ _ _=>(o8 (d3 (d4 0) (d3 (o8 (d3 (e8 G3 d6 (jx (d4 1) d6)) (d3 (jx (d4 1) d6) d5))) d5))))) d5))) (cM (u7 (eV hu) rfl T.b_sorted eX (d3 (d4 4) d5)))) (d8 (e6 jY)) j3) (d7 (y8 PassesOwn.never rfl (t8 (W4 (d3 (d4 5) (d3 (D6 [0,1] ["ray"] ["bench","at"] rfl (by decide +kernel) rfl (by decide +kernel) (by decide +kernel) rfl (kD ⟨rfl,rfl⟩ ⟨rfl,rfl⟩) (kD (Or.inl rfl) (Or.inl rfl)) (t8 (d4 3)) (fun _ _ _ _ _ _=>(jn 0 (show(["ray","bench","at"]:List Str).Nodup by decide +kernel))) (fun _ _ _ _ _ _=>p5) (fun _ _ _ _ _ _=>(jc GJ hr (d3 (A4 (d4 1) A3 (A2 (d4 2))) (d3 (d4 0) d5))))) d5)))) (jn 6 sc.nd) (d8 (o6 (jtm (ui hu) (jc Hd hr (d3 (d4 6) d5)) (jc HP hr (d3 (cK rfl T.b_list bo (d3 (d4 3) d5)) d5))) (d8 (e6 jY)) j3))) (d8 (e6 (u7 (AF rfl) rfl T.b_all vH (d3 (D6 [2] ["ray"] ["lines"] rfl (by decide +kernel) rfl (by decide +kernel) (by decide +kernel) rfl (dw ⟨rfl,rfl⟩) (dw (Or.inl rfl)) (t8 (d4 3)) (fun _ _ _ _ _ _=>(jn 0 (show(["ray","lines"]:List Str).Nodup by decide +kernel))) (fun _ _ _ _ _ _=>p5) (fun _ _ _ _ _ _=>(jm pW (jc HN hr (d3 (d4 1) (d3 (d4 0) d5))) jY))) d5))))))))))),?_⟩
 walk_at "sim"
 have hl12:bs.length≤12:=by omega
 have hok:∀ x∈bs,w6 x:=fun x hx=>(hok40 x hx).ok
 have hlr:bs.reverse.length≤12:=by rw[Ky];exact hl12
 have hokr:∀ x∈bs.reverse,w6 x:=fun x hx=>hok x (List.mem_reverse.mp hx)
 have B:=uw hl12 hok
 have BR:=uw hlr hokr
 rw[← List.map_reverse]
 walk_at "sim"
 refine⟨⟨hl12,hok⟩,B.lsk,⟨hlr,hokr⟩,BR.lsk,?_⟩
 rcases xE B.ok BR.ok with⟨e1,e2⟩|⟨cs,ds,e1,e2,n1,n2,hm⟩
 ·rw[e1,e2]
  show gIs false .non .non _ _
  rw[dc (b:=true) rfl]
  walk_at "sim"
  show gIs false .non .non _ _
  rw[dc (b:=true) rfl]
  walk_at "sim"
  show gIs false .non .non _ _
  rw[dc (b:=true) rfl]
  exact k
 ·rw[e1,e2]
  obtain⟨q1,q2,q3⟩:=B.bd cs e1
  obtain⟨r1,r2,r3⟩:=BR.bd ds e2
  show gIs false (.vl (cs.map rD)) .non _ _
  rw[dc (b:=false) rfl]
  walk_at "sim"
  show gIs false (.vl (ds.map rD)) .non _ _
  rw[dc (b:=false) rfl]
  walk_at "sim"
  have oc:BS (some cs) = .vl (cs.map rD):=rfl
  have od:BS (some ds) = .vl (ds.map rD):=rfl
  rw[oc,od]
  walk_at "sim"
  have q3':∀ z∈cs,sz z.1≤1200∧sz z.2≤1200:=fun z hz=>⟨IT (q3 z hz).1 (by decide),IT (q3 z hz).2 (by decide)⟩
  refine u5 (xs:=cs) (enc:=rD) (fun z=>rD (f6 bs z)) (by omega) (by simp only[i9]) (fun z hz Q hQ=>?_) ?_
  ·walk_at "sim"
   exact⟨bs,z.1,z.2,rfl,⟨⟨hl12,hok⟩,(q3' z hz).1,(q3' z hz).2⟩,hQ⟩
  have eo:cs.map (fun z=>rD (f6 bs z))=(cs.map (f6 bs)).map rD:=by rw[Js];rfl
  rw[eo]
  walk_at "sim"
  refine u5 (xs:=cs.map (f6 bs)) (enc:=rD) (fun w=>rD (fl w)) (by rw[ID];omega) (by simp only[i9]) (fun w hw Q hQ=>?_) ?_
  ·unfold rD D9 at hQ ⊢
   walk_at "sim"
   rw[MP,zZ]
   exact hQ
  have e3:(cs.map (f6 bs)).map (fun w=>rD (fl w))=(cs.map (tnL bs)).map rD:=by rw[Js,Js];rfl
  rw[e3]
  have nt:(cs.map (tnL bs)).Nodup:=Ke.mpr (n1.imp fun h e=>h (Bb e))
  refine⟨_,cs.map (tnL bs),rfl,rfl,by rw[ID];omega,by rw[ID];omega,nt,fun ws pw rw' p hp=>vQ hp ?_⟩
  refine⟨_,ds,rfl,rfl,by omega,by omega,n2,fun vs pv rv p hp=>vQ hp ?_⟩
  obtain rfl:ws=vs:=tm rw' rv fun z=>by rw[pw.mem_iff,pv.mem_iff];exact hm z
  have clz:∀ rs:List Zr,cl 60 (.vl (rs.map rD))=true:=fun rs=>vB (k:=59) fun d hd=>by
   obtain⟨y,_,rfl⟩:=IJ.mp hd
   rfl
  refine⟨clz ws,clz ws,fun z=>absurd rfl z,fun _=>?_⟩
  have hokt:∀ x∈bs.take at',w6 x:=fun x hx=>hok x (Jm hx)
  have hlt:(bs.take at').length≤12:=by rw[Jg];omega
  refine u5 (xs:=cs) (enc:=rD) (fun z=>rD (f6 (bs.take at') z)) (by omega) (by simp only[i9]) (fun z hz Q hQ=>?_) ?_
  ·walk_at "sim"
   rw[cS,← MB]
   exact⟨bs.take at',z.1,z.2,rfl,⟨⟨hlt,hokt⟩,(q3' z hz).1,(q3' z hz).2⟩,hQ⟩
  have ep:cs.map (fun z=>rD (f6 (bs.take at') z))=(cs.map (f6 (bs.take at'))).map rD:=by rw[Js];rfl
  rw[ep]
  have cne:cs≠[]:=fun z=>by rw[z]at q2;exact absurd q2 (by decide)
  have ar:∀ xs:List (Str × Rat),a2 (cs.map (f6 xs))=a2 cs:=fun xs=>by
   have e:cs.map (f6 xs)=cs.map (lmZ (f6 xs (1,0)).1 (f6 xs (0,1)).1 (f6 xs (1,0)).2 (f6 xs (0,1)).2):=KA fun z _=>BP xs z
   rw[e,Fx _ _ _ _ cne,V6,Rat.one_mul]
  refine X2.by (fun i e M'=>M'=M∧∃ z6:Option D,e=[some (D.vl (Mi p7 bs)),some (.int (at':Int)),some (D.vl (Mi j4 (v6 bs bs.length))),some (D.vl (Mi rD cs)),some (D.vl (Mi rD ds)),some (.vl ((cs.map (f6 bs)).map rD)),z6]) ⟨rfl,_,rfl⟩ (fun i e M' _ h=>by simp only[i9]) ?_ ?_
  ·rintro i dd e M' hdd ⟨rfl,z6,rfl⟩
   have hmm:=IU hdd
   have hr:∃ rs:List Zr,dd = .vl (rs.map rD)∧(rs.length≤60∧1≤rs.length∧∀ z∈rs,sz z.1≤3500∧sz z.2≤3500)∧a2 rs=a2 cs:=by
    have one:∀ xs:List (Str × Rat),xs.length≤12→(∀ x∈xs,w6 x)→((cs.map (f6 xs)).length≤60∧1≤(cs.map (f6 xs)).length∧∀ z∈cs.map (f6 xs),sz z.1≤3500∧sz z.2≤3500):=fun xs h1 h2=>by
     refine⟨by rw[ID];omega,by rw[ID];omega,fun z hz=>?_⟩
     obtain⟨y,hy,rfl⟩:=IJ.mp hz
     exact tX h1 h2 (q3' y hy).1 (q3' y hy).2
    rcases IE.mp hmm with rfl|hmm
    ·exact⟨_,rfl,one bs hl12 hok,ar bs⟩
    ·rw[Ja.mp hmm];exact⟨_,rfl,one _ hlt hokt,ar _⟩
   obtain⟨rs,rfl,h1,h2⟩:=hr
   walk_at "sim"
   refine⟨h1,⟨by omega,q2,q3'⟩,?_⟩
   walk_at "sim"
   exact⟨fun z=>absurd (by rw[h2]) z,fun _=>⟨_,rfl⟩⟩
  ·rintro e M' ⟨rfl,z6,rfl⟩
   walk_at "sim"
   have hls:∀ l∈v6 bs bs.length,LSz 700 l:=fun l h=>by
    obtain⟨a,b,c⟩:=oj hl12 hok bs.length l h
    exact⟨by omega,by omega,by omega⟩
   have hll:(v6 bs bs.length).length≤12:=IT (W0 bs bs.length) hl12
   have on:=(xM B.ok e1).on
   refine u5 (xs:=cs) (enc:=rD) (fun _=>D.bl true) (by omega) (by simp only[i9]) (fun z hz Q hQ=>?_) ?_
   ·walk_at "sim"
    refine⟨_,v6 bs bs.length,z.1,z.2,rfl,.inl rfl,⟨hll,hls,?_,?_⟩,?_⟩
    ·have:=(q3 z hz).1;omega
    ·have:=(q3 z hz).2;omega
    ·rw[on z hz]
     show gIs false (.bl true) (.bl true) M' Q
     rw[dc (b:=true) rfl]
     exact hQ
   ·rw[show cs.map (fun _=>D.bl true)=(cs.map fun _=>true).map D.bl by rw[Js];rfl]
    walk_at "sim"
    rw[show(cs.map fun _=>true).all id=true by rw[MH];exact Kl.mpr fun _ _=>rfl]
    exact k
theorem gw(T:Txt K mg)(d:Df K mg "_law_next" N4 ["pool","base"]):Fn P w K mg base "_law_next" 1 ["pool","base"] X9:=by
 have sc:=fG
 refine i7 d sc (fun ds M R Y h=>?_) (fun f cdv A outer s H E ds M R Y hr h=>?_)
 ·obtain⟨p,b,rfl,_⟩:=h;rfl
 ·obtain⟨p,b,rfl,⟨x,y,z,hM⟩,hb,hl,k⟩:=h
  refine⟨_,(d7 (o6 (jtm pX (jx (d4 0) d6) d6) (d7 (jst 2 sc.nd (e8 ao (jx (d4 0) d6) (d4 1))) (d7 (A1 (e8 Z0 (jx (d4 0) d6) (d4 1)) (ox (d4 0) d6)) (d8 (e6 (d4 2))))) j3) (d7 (A1 (e8 L4 (jx (d4 0) d6) d6) (ox (d4 0) d6)) (d7 (jst 3 sc.nd (e8 ao (e8 L4 (jx (d4 0) d6) (e8 i6 d6 (jx (d4 0) d6))) d6)) (d7 (jst 4 sc.nd (e8 ao (e8 i6 (e8 L4 (d4 3) d6) (e8 L4 (d4 3) d6)) d6)) (d8 (e6 (e8 ao (e8 Z0 (e8 ao (e8 i6 (d4 4) (d4 4)) d6) d6) (d4 1)))))))),?_⟩
  refine⟨_,rfl,_,G7 hM rfl,_,rfl,_,rfl,?_⟩
  refine Gh (fun h0=>?_) (fun h0=>?_)
  ·refine⟨_,rfl,_,G7 hM rfl,_,rfl,_,_,rfl,rfl,hb,?_⟩
   refine⟨_,rfl,_,G7 hM rfl,_,rfl,_,_,rfl,rfl,⟨by omega,hl⟩,_,rfl,_,_,_,_,rfl,rfl,hM,rfl,?_⟩
   exact⟨_,rfl,k _ _ (Lk _ (by omega)) (KN _ hb) (A8.upd _ _ _)⟩
  ·refine⟨_,rfl,_,G7 hM rfl,_,rfl,_,rfl,_,_,_,_,rfl,rfl,hM,rfl,?_⟩
   refine⟨_,rfl,_,G7 i3 rfl,_,rfl,_,G7 i3 rfl,_,_,rfl,rfl,Cb (by decide) (by decide),_,rfl,_,_,rfl,rfl,(by show(0:Int)<1000000007;decide),?_⟩
   refine⟨_,rfl,_,rfl,_,rfl,_,rfl,_,_,rfl,rfl,Gd (by decide) (by decide) (by decide) (by decide),_,_,rfl,rfl,(by show(0:Int)<998244353;decide),?_⟩
   refine⟨_,rfl,_,rfl,_,_,rfl,rfl,EA (by decide) (by decide),_,_,rfl,rfl,(by show(0:Int)<2147483647;decide),_,_,rfl,rfl,Gr,_,rfl,_,_,rfl,rfl,hb,?_⟩
   exact k _ _ (Lk _ (by omega)) (KN _ hb) (A8.upd _ _ _)
theorem cA(T:Txt K mg)(d:Df K mg "_law_number" J3 ["pool"])(Gz:Fn P w K mg base "_law_ratio" 40 ["top","bottom"] N8)(Gy:Fn P w K mg base "_law_next" 1 ["pool","base"] X9):Fn P w K mg base "_law_number" 41 ["pool"] lD:=by
 have sc:=bW
 walk_at "fn"
 obtain⟨p,rfl,hp,k⟩:=h
 refine⟨_,(d7 (jst 1 sc.nd (jc Gy hr (d3 (d4 0) (d3 d6 d5)))) (d7 (o6 (jtm lO (d4 1) d6) (d8 (e6 (o8 (d3 (e8 G3 (jc Gy hr (d3 (d4 0) (d3 d6 d5))) d6) (d3 d6 d5))))) j3) (d7 (o6 (jtm lO (d4 1) d6) (d8 (e6 (jc Gz hr (d3 (e8 G3 (jc Gy hr (d3 (d4 0) (d3 d6 d5))) d6) (d3 (e8 L4 d6 (jc Gy hr (d3 (d4 0) (d3 d6 d5)))) d5))))) j3) (d7 (jst 2 sc.nd (e8 G3 (jc Gy hr (d3 (d4 0) (d3 (e8 jO d6 d6) d5))) (jc Gy hr (d3 (d4 0) (d3 (e8 jO d6 d6) d5))))) (d8 (e6 (jc Gz hr (d3 (d4 2) (d3 (e8 L4 d6 (jc Gy hr (d3 (d4 0) (d3 (e8 jO d6 d6) d5)))) d5))))))))),?_⟩
 walk_at "sim"
 have e12:(10:Int) ^ Nk 12=1000000000000:=by decide
 have e9:(10:Int) ^ Nk 9=1000000000:=by decide
 have cp9:vX 10 9:=⟨by decide,by decide,by decide⟩
 have lg:∀{b:Int},b.natAbs<2 ^ 41→b.natAbs.log2<9000:=fun{b} hb=>R6 (IF hb (Jh (by decide) (by decide))) (by decide)
 rw[e12,e9]
 refine⟨hp,by decide,fun r M1 r0 r1 s1=>⟨fun h1=>⟨s1.pool,by decide,fun t M2 t0 t1 s2=>?_⟩,fun h1=>⟨fun h2=>⟨s1.pool,by decide,fun t M2 t0 t1 s2=>⟨s2.pool,by decide,fun v M3 v0 v1 s3=>⟨by omega,k _ _ (cF (by decide) (by omega) (by omega) (by omega)) (s1.trans (s2.trans s3))⟩⟩⟩,fun h2=>⟨Fq,s1.pool,by decide,lg (by decide),fun t M2 t0 t1 s2=>⟨Fq,s2.pool,by decide,lg (by decide),fun v M3 v0 v1 s3=>⟨cp9,s3.pool,by decide,lg (by decide),fun c M4 c0 c1 s4=>⟨by omega,k _ _ (cF (by decide) (by omega) (by omega) (by omega)) (s1.trans (s2.trans (s3.trans s4)))⟩⟩⟩⟩⟩⟩⟩
 have e:=k ((t - 3:Int):Rat) M2 (Bf (by decide) (by omega)) (s1.trans s2)
 rw[tJ]at e
 exact e
theorem gv(T:Txt K mg)(d:Df K mg "_law_part" N3 ["pool","words"])(GS:Fn P w K mg base "_law_number" 41 ["pool"] lD)(Gy:Fn P w K mg base "_law_next" 1 ["pool","base"] X9):Fn P w K mg base "_law_part" 42 ["pool","words"] fU:=by
 have sc:=fF
 walk_at "fn"
 obtain⟨p,rfl,hp,k⟩:=h
 refine⟨_,(d7 (jst 2 sc.nd (jx (d4 1) (jc Gy hr (d3 (d4 0) (d3 (u7 pf rfl T.b_len ik (d3 (d4 1) d5)) d5))))) (d7 (A1 (jc GS hr (d3 (d4 0) d5)) (q9 (n:=2) rfl (e7 (jn 3 sc.nd) (e7 (jn 4 sc.nd) m8)))) (d7 (o6 (jtm cC (d4 2) C9) (d8 (e6 (o8 (d3 (d4 2) (d3 (o8 (d3 (u7 eW rfl T.b_abs Z6 (d3 (d4 3) d5)) (d3 (d4 4) d5))) d5))))) j3) (d7 (o6 (jtm cC (d4 2) C9) (d8 (e6 (o8 (d3 (d4 2) (d3 (o8 (d3 (u7 (AD rfl) rfl T.b_max vG (d3 d6 (d3 (u7 eW rfl T.b_abs Z6 (d3 (d4 3) d5)) d5))) (d3 (d4 4) d5))) d5))))) j3) (d8 (e6 (o8 (d3 (d4 2) (d3 (o8 (d3 (d4 3) (d3 (d4 4) d5))) d5))))))))),?_⟩
 walk_at "sim"
 refine⟨hp,by decide,by decide,fun r M1 r0 r1 s1=>yC r0 (by show r<6;exact r1) fun d hd=>?_⟩
 have hd':d = .str "gap" ∨ d = .str "glass" ∨ d = .str "stop" := by
  simp only[IE,Ji,or_false]at hd
  rcases hd with h|h|h|h|h|h
  ·exact .inl h
  ·exact .inr (.inl h)
  ·exact .inr (.inr h)
  ·exact .inl h
  ·exact .inr (.inl h)
  ·exact .inr (.inr h)
 refine⟨s1.pool,fun q M2 hq s2=>?_⟩
 have st:=s1.trans s2
 rcases hd' with rfl|rfl|rfl
 ·walk_at "sim"
  exact k ("gap",C4 q) M2 ⟨⟨.inl ⟨rfl,yN q⟩,by show sz (C4 q)≤41;rw[bQ];omega⟩,by show sz (C4 q)≤40;rw[bQ];exact hq⟩ st
 ·walk_at "sim"
  exact⟨fun z=>absurd z (by decide),fun _=>⟨fun z=>absurd z (by decide),fun _=>k ("glass",q) M2 ⟨⟨.inr (.inl rfl),by show sz q≤41;omega⟩,hq⟩ st⟩⟩
 ·walk_at "sim"
  refine⟨fun z=>absurd z (by decide),fun _=>?_⟩
  by_cases h0:q=0
  ·subst h0
   exact k ("stop",1) M2 ⟨⟨.inr (.inr ⟨rfl,by decide⟩),by show sz 1≤41;rw[RM.kP];decide⟩,by show sz 1≤40;rw[RM.kP];decide⟩ st
  ·have hn:q.num≠0:=fun z=>h0 (Rat.num_eq_zero.mp z)
   rw[show max 1 (q.num.natAbs:Int)=(q.num.natAbs:Int)by omega,Aa]
   exact k ("stop",C4 q) M2 ⟨⟨.inr (.inr ⟨rfl,pz h0⟩),by show sz (C4 q)≤41;rw[bQ];omega⟩,by show sz (C4 q)≤40;rw[bQ];exact hq⟩ st
theorem dj(T:Txt K mg)(d:Df K mg "_law_bench" K4 ["pool","count","words"])(Gy:Fn P w K mg base "_law_next" 1 ["pool","base"] X9)(He:Fn P w K mg base "_law_part" 42 ["pool","words"] fU):Fn P w K mg base "_law_bench" 43 ["pool","count","words"] cf:=by
 have sc:=dh
 walk_at "fn"
 obtain⟨p,n,rfl,hp,hn,k⟩:=h
 have lg:∀{b:Int},b.natAbs<2 ^ 41→b.natAbs.log2<9000:=fun{b} hb=>R6 (IF hb (Jh (by decide) (by decide))) (by decide)
 refine⟨_,(d8 (e6 (D6 [0,2] ["k"] ["pool","words"] rfl (by decide +kernel) rfl (by decide +kernel) (by decide +kernel) rfl (kD ⟨rfl,rfl⟩ ⟨rfl,rfl⟩) (kD (Or.inl rfl) (Or.inl rfl)) (gH rfl T.b_range (d3 (jc Gy hr (d3 (d4 0) (d3 (e8 L4 (d4 1) d6) d5))) d5)) (fun _ _ _ _ _ _=>(jn 0 (show(["k","pool","words"]:List Str).Nodup by decide +kernel))) (fun _ _ _ _ _ _=>p5) (fun _ _ _ _ _ _=>(jc He hr (d3 (d4 1) (d3 (d4 2) d5))))))),?_⟩
 walk_at "sim"
 refine⟨hp,by omega,lg (by omega),fun r M1 r0 r1 s1=>⟨by omega,?_⟩⟩
 refine mh p7 cX (A8 p) r.toNat (D2 _ _) (by omega) (fun _ _=>trivial) (A8.refl s1.pool) (fun d hd M2 s2 Q hQ=>?_) (fun bs M2 hl hok s2=>k bs M2 (by omega) hok (s1.trans s2))
 walk_at "sim"
 exact⟨s2.pool,fun x M' hx s3=>hQ x M' hx (s2.trans s3)⟩
theorem gu(T:Txt K mg)(d:Df K mg "_law_pool" N0 ["cell"]):Fn P w K mg base "_law_pool" 1 ["cell"] kQ:=by
 have sc:=fE
 refine i7 d sc (fun ds M R Y h=>?_) (fun f cdv A outer s H E ds M R Y hr h=>?_)
 ·obtain⟨c,rfl,_⟩:=h;rfl
 ·obtain⟨c,rfl,k⟩:=h
  refine⟨_,(d8 (e6 (gJ (d3 (u7 (AD rfl) rfl T.b_max vG (d3 d6 (d3 (e8 G3 (d4 0) (e8 jO d6 d6)) d5))) (d3 (e8 ao (d4 0) (e8 jO d6 d6)) (d3 d6 d5)))))),?_⟩
  refine⟨_,rfl,_,_,rfl,rfl,Fp,_,rfl,_,_,rfl,_,rfl,_,_,rfl,rfl,Fp,_,_,rfl,rfl,(by show(0:Int)<10 ^ 18;decide),sl 3,fun p hp=>?_⟩
  exact k p _ hp (MK.new hp) ⟨_,_,_,i3⟩
theorem BZ{f:Addr}{fd:FuncData}(T:Txt K mg)(d:yQ K "law" sT f fd)(Hf:Fn P w K mg base "_law_good" 45 ["bench","at"] fY)(Gy:Fn P w K mg base "_law_next" 1 ["pool","base"] X9)(GX:Fn P w K mg base "_law_bench" 43 ["pool","count","words"] cf)(Hg:Fn P w K mg base "_law_pool" 1 ["cell"] kQ):L7 P w K mg base CX0 46 f fd ["script"] (iZ K nI):=by
 have sc:=Bj
 refine Af d sc (fun ds M R Y h=>by obtain⟨n,rfl,_⟩:=h;rfl) (fun cdv A outer s H E ds M R Y hr h=>?_)
 obtain⟨ns,rfl,hlen,k⟩:=h
 have hu:=hr.units
 refine⟨_,(d7 (y8 PassesOwn.never rfl (t8 (W5 (W4 (d3 d6 d5)) (A4 (d4 0) A3 (A2 d6)))) (jn 1 sc.nd) (d7 (jst 2 sc.nd (jc Hg hr (d3 (d4 1) d5))) (d7 (jst 3 sc.nd (jc GX hr (d3 (d4 2) (d3 d6 (d3 (W4 (d3 C9 (d3 C9 (d3 C9 (d3 C9 (d3 C9 (d3 C9 d5))))))) d5))))) (d8 (o6 (lV (W3 (jc Hf hr (d3 (d4 3) (d3 (jc Gy hr (d3 (d4 2) (d3 (e8 L4 (u7 pf rfl T.b_len ik (d3 (d4 3) d5)) d6) d5))) d5))))) (d8 (e6 jY)) j3))))) (d8 (e6 jY))),?_⟩
 walk_at "sim"
 have hcl:(DL.K0 (ns.map D.int) none (some 8)).length≤8:=by
  have:=cS (ds:=ns.map D.int) (n:=8)
  rw[show DL.K0 (ns.map D.int) none (some 8)=(ns.map D.int).take 8 from this,Jg];omega
 refine⟨IT (by omega:1+_≤100) (by decide),?_⟩
 refine X2.by (fun i e M'=>∃ x1 x2 x3:Option D,e=[some (.vl (ns.map D.int)),x1,x2,x3]) ⟨_,_,_,rfl⟩ (fun i e M' _ _=>by simp only[i9]) ?_ ?_
 ·rintro i dd e M' hd ⟨x1,x2,x3,rfl⟩
  obtain⟨n,rfl⟩:∃ n:Int,dd = .int n:=by
   have hm:=IU hd
   rcases IE.mp hm with rfl|hm
   ·exact⟨0,rfl⟩
   ·rw[show DL.K0 (ns.map D.int) none (some 8)=(ns.map D.int).take 8 from cS (n:=8)]at hm
    obtain⟨n,_,e⟩:=IJ.mp (Jm hm)
    exact⟨n,e.symm⟩
  walk_at "sim"
  refine fun p M1 hp mk hP=>⟨hP,fun bs M2 hbl hok s2=>⟨s2.pool,by omega,IF (R6 (show _<2 ^ 10 by rw[ID];omega) (by decide)) (by decide),fun r M3 r0 r1 s3=>?_⟩⟩
  obtain⟨at',rfl⟩:∃ a:Nat,r=(a:Int):=⟨r.toNat,by omega⟩
  rw[ID]at r1
  walk_at "sim"
  exact⟨⟨hbl,hok,by omega⟩,_,_,_,rfl⟩
 ·rintro e M' ⟨x1,x2,x3,rfl⟩
  walk_at "sim"
  exact k _
end
end K66
namespace K66
open PySem PySem.Spec L2 DL GM
theorem CS{P:Program}{w:World}{K:Iy}{mg:Str→Option Value}{fa:Addr}(T:Txt K mg)(hfa:mg "law" = some (.ref fa))(htr:P.given.tree=none)(Ie:Df K mg "sum_by" bX ["p","q","ray"])(HZ:Df K mg "lets_by" Y2 ["line","ray"])(Io:Df K mg "lets" lj ["lines","ray"])(HB:Df K mg "_law_ratio" K3 ["top","bottom"])(HD:Df K mg "_law_take" M9 ["one","other"])(Ia:Df K mg "_law_by" Y5 ["one","other"])(HQ:Df K mg "_law_add" R4 ["one","other"])(HR:Df K mg "_law_led" R3 ["part","ray"])(Ht:Df K mg "_law_through" F4 ["bench","ray"])(HE:Df K mg "_law_even" N6 ["rays"])(Ib:Df K mg "divisor" Y3 ["one","other"])(HS:Df K mg "is_whole" Q9 ["thing"])(Ii:Df K mg "ratio" fM ["top","bottom"])(Ij:Df K mg "times" fL ["one","other"])(Hq:Df K mg "tops_over" G0 ["ratios","bottom"])(GY:Df K mg "common_bottom" A9 ["ratios"])(Ik:Df K mg "total" fK ["ratios"])(Ip:Df K mg "plus" lh ["one","other"])(HU:Df K mg "opposite" Q7 ["one"])(Il:Df K mg "minus" fN ["one","other"])(Im:Df K mg "cross" fO ["one","other"])(Iq:Df K mg "area" lu ["rays"])(Ir:Df K mg "less" lr ["one","other"])(HV:Df K mg "is_lower" R0 ["one","other"])(Hv:Df K mg "from_lowest" J2 ["rays"])(Ig:Df K mg "facing" bZ ["side"])(Iu:Df K mg "veer" kZ ["one","other"])(Ih:Df K mg "met_at" bY ["one","other"])(Iv:Df K mg "turn" lb ["one","other","third"])(HF:Df K mg "next_side" M7 ["sides","here"])(HG:Df K mg "juts_more" M8 ["one","other"])(HH:Df K mg "outermost" M6 ["sides"])(HW:Df K mg "sides_of" Q6 ["lines"])(HX:Df K mg "half_rim" R1 ["lines"])(Ic:Df K mg "corners" Y4 ["lines"])(Hw:Df K mg "led_by_part" J1 ["part","ray"])(HY:Df K mg "lines_of" Q8 ["bench"])(Hu:Df K mg "turned_bench" F3 ["bench"])(HI:Df K mg "_law_good" N5 ["bench","at"])(HJ:Df K mg "_law_next" N4 ["pool","base"])(Hx:Df K mg "_law_number" J3 ["pool"])(HK:Df K mg "_law_part" N3 ["pool","words"])(HC:Df K mg "_law_bench" K4 ["pool","count","words"])(HL:Df K mg "_law_pool" N0 ["cell"])(Iw:DfL K mg "law" sT ["script"]) :
  ∃ fd:FuncData,(∀(s:Shared) (u:Value),BindsTo s fd ⟨[u],[]⟩ [("script",u)])∧∀ base:Heap,base.NoSeer→L7 P w K mg base CX0 46 fa fd ["script"] (iZ K nI):=by
 obtain⟨f,fd,F,hm,hb⟩:=Iw.ex
 have e:f=fa:=by rw[hm]at hfa;injection hfa with z;injection z
 subst e
 refine⟨fd,fun s u=>.of_eq (hb [u] rfl),fun base hns=>?_⟩
 have hsee:vN P base:=⟨hns,htr⟩
 have Hr:=pS (P:=P) (w:=w) (base:=base) T Ie
 have Hn:=lK (P:=P) (w:=w) (base:=base) T HZ Hr
 have HN:=ye (P:=P) (w:=w) (base:=base) T Io Hn
 have Gz:=di (P:=P) (w:=w) (base:=base) T HB hsee
 have GA:=gr (P:=P) (w:=w) (base:=base) T HD Gz
 have GB:=lN (P:=P) (w:=w) (base:=base) T Ia Gz
 have GK:=jM (P:=P) (w:=w) (base:=base) T HQ Gz
 have Hj:=jL (P:=P) (w:=w) (base:=base) T HR GA GB GK
 have GJ:=aE (P:=P) (w:=w) (base:=base) T Ht Hj
 have Hd:=gy (P:=P) (w:=w) (base:=base) T HE GK GB GA
 have GC:=lL (P:=P) (w:=w) (base:=base) T Ib
 have GV:=jI (P:=P) (w:=w) (base:=base) T HS
 have GD:=uf (P:=P) (w:=w) (base:=base) T Ii hsee GC GV
 have GI:=ue (P:=P) (w:=w) (base:=base) T Ij GD
 have GO:=aD (P:=P) (w:=w) (base:=base) T Hq
 have GF:=Q0 (P:=P) (w:=w) (base:=base) T GY GC
 have Hy:=ud (P:=P) (w:=w) (base:=base) T Ik GD GO GF
 have Ho:=yd (P:=P) (w:=w) (base:=base) T Ip GD
 have GG:=jG (P:=P) (w:=w) (base:=base) T HU
 have Hh:=ug (P:=P) (w:=w) (base:=base) T Il Ho GG
 have Hz:=uh (P:=P) (w:=w) (base:=base) T Im Hh GI
 have HP:=yg (P:=P) (w:=w) (base:=base) T Iq GI Hy Hz
 have HA:=yf (P:=P) (w:=w) (base:=base) T Ir
 have Hk:=jJ (P:=P) (w:=w) (base:=base) T HV HA
 have GR:=cz (P:=P) (w:=w) (base:=base) T Hv Hk
 have GU:=pU (P:=P) (w:=w) (base:=base) T Ig
 have GH:=yb (P:=P) (w:=w) (base:=base) T Iu
 have Hs:=pT (P:=P) (w:=w) (base:=base) T Ih GD GH
 have HM:=yc (P:=P) (w:=w) (base:=base) T Iv GH
 have GQ:=gp (P:=P) (w:=w) (base:=base) T HF GH HM
 have GZ:=gq (P:=P) (w:=w) (base:=base) T HG
 have Hb:=gn (P:=P) (w:=w) (base:=base) T HH GZ
 have Ha:=gm (P:=P) (w:=w) (base:=base) T Hq
 have GN:=Y9 (P:=P) (w:=w) (base:=base) T GY GC
 have Hl:=jF (P:=P) (w:=w) (base:=base) T HW GU Ha GN
 have Hm:=jK (P:=P) (w:=w) (base:=base) T HX GH GQ Hb Hl
 have Hi:=lM (P:=P) (w:=w) (base:=base) T Ic GR GG GU Hs Hm
 have GL:=cy (P:=P) (w:=w) (base:=base) T Hw Hh GI Ho
 have GW:=jH (P:=P) (w:=w) (base:=base) T HY GL
 have GP:=aC (P:=P) (w:=w) (base:=base) T Hu
 have Hf:=gx (P:=P) (w:=w) (base:=base) T HI HN GJ Hd HP Hi GW GP
 have Gy:=gw (P:=P) (w:=w) (base:=base) T HJ
 have GS:=cA (P:=P) (w:=w) (base:=base) T Hx Gz Gy
 have He:=gv (P:=P) (w:=w) (base:=base) T HK GS Gy
 have GX:=dj (P:=P) (w:=w) (base:=base) T HC Gy He
 have Hg:=gu (P:=P) (w:=w) (base:=base) T HL
 exact BZ T F Hf Gy GX Hg
theorem kJ{l:PySem.W.OpenLaw}{q:Program}{loose:List Str}{XP:(Str→Option Value)→Heap→Prop}{YP:World→Heap→Prop}{d:DefRec}{K:Params→Iy}(hq:PyProof.Rows.importsNone q=true)(hn:l.most=some 63)(hdf:d.params.defaults=[])
  (hY:∀(w:World) (h:Heap),YP w h→(K w.params).In h)
  (F:∀(w:World) (mg:Str→Option Value) (fa:Addr) (h:Heap),(K w.params).In h→h.Ns mainGlobals mg→mg d.name=some (.ref fa) →
   ∃ fd:FuncData,(∀(s:Shared) (u:Value),BindsTo s fd ⟨[u],[]⟩ [("script",u)])∧∀ base:Heap,base.NoSeer→L7 l.prog w (K w.params) mg base CX0 46 fa fd ["script"] (iZ (K w.params) nI)) :
  PySem.W.WalkO q loose XP YP l.row.toRowW d [] (fun f vs=>PySem.call f vs) :=
 L2.rZ (n:=63) (k:=46) (x := "script") (CX:=CX0) (sp:=fun K=>iZ K nI) hq hn (by decide) hdf ⟨rfl,by decide,by decide⟩ hY (fun w mg fa h a b c=>let ⟨fd,h1,h2⟩:=F w mg fa h a b c;⟨fd,h1,fun base _ _ hd=>h2 base hd⟩)
  (fun K H a ns hl hO hS=>Cj hO hS ⟨ns,rfl,hl,fun _=>rfl⟩) fun _ _ _ _ z=>z
end K66
namespace PySem.W.Fast
theorem te6977951886382202247:True:=trivial
theorem tw15168078828414062644:True:=⟨⟩
theorem tw12121013533002278931:True:=⟨⟩
theorem tw10925974653765241596:True:=⟨⟩
theorem tw12305896350674053801:True:=⟨⟩
theorem tw8310894313848450978:True:=⟨⟩
theorem tw18059954322640585156:True:=⟨⟩
theorem tw16125089387580659885:True:=⟨⟩
theorem tw4185746046933020850:True:=⟨⟩
theorem tw16638399225087028352:True:=⟨⟩
theorem tw15601806302871474127:True:=⟨⟩
theorem tw2811517971867891987:True:=⟨⟩
theorem tw5159077568826984658:True:=⟨⟩
theorem tw10554633532034723654:True:=⟨⟩
theorem tw17373461054899149340:True:=⟨⟩
theorem tw12185075443731099398:True:=⟨⟩
theorem tw393703013162070143:True:=⟨⟩
theorem tw1264311793782161334:True:=⟨⟩
theorem tw4158430285503778231:True:=⟨⟩
theorem tw9668677551739651442:True:=⟨⟩
theorem tw5159718439688463973:True:=⟨⟩
theorem tw1283689050731735711:True:=⟨⟩
theorem tw10137040044077683208:True:=⟨⟩
theorem tw18150800067174381413:True:=⟨⟩
theorem tw14291952259669865975:True:=⟨⟩
theorem tw17584313846469024753:True:=⟨⟩
theorem tw5895172846039089902:True:=⟨⟩
theorem tw13928561891043943283:True:=⟨⟩
theorem tw2879293789596609098:True:=⟨⟩
theorem tw15473280770607481092:True:=⟨⟩
theorem tw17851887110954898950:True:=⟨⟩
theorem tw10666210726753501682:True:=⟨⟩
theorem tw1682133988293080013:True:=⟨⟩
theorem tw13478575917474214844:True:=⟨⟩
theorem tw16909441034581442979:True:=⟨⟩
theorem tw2748523851969668400:True:=⟨⟩
theorem tw9858807539909224529:True:=⟨⟩
theorem tw17484786423255230574:True:=⟨⟩
theorem tw14189297962383599034:True:=⟨⟩
theorem tw14793698731106176454:True:=⟨⟩
theorem tw13526135680020619933:True:=⟨⟩
theorem tw12958489085843609784:True:=⟨⟩
theorem tw221172444393852460:True:=⟨⟩
theorem tw3552683089612774399:True:=⟨⟩
theorem tw1191883232934622731:True:=⟨⟩
theorem tw12186659290418937489:True:=⟨⟩
theorem tw234190072677120481:True:=⟨⟩
theorem tw11934318534014717795:True:=⟨⟩
theorem tw6367613166823827419:True:=⟨⟩
theorem tw13495492205909334907:True:=⟨⟩
theorem tw16119268582753019249:True:=⟨⟩
theorem tw17047305790096615270:True:=⟨⟩
theorem tw7000103450885902700:True:=⟨⟩
theorem tw9400002510651546509:True:=⟨⟩
theorem tw15638045064124055639:True:=⟨⟩
theorem tw13169662903369198763:True:=⟨⟩
theorem tw845280072783762844:True:=⟨⟩
theorem tw8441242593714404312:True:=⟨⟩
theorem tw11830173148099412144:True:=⟨⟩
theorem tw13030101982580040620:True:=⟨⟩
theorem tw14097057522397995832:True:=⟨⟩
theorem tw12676245353711585608:True:=⟨⟩
theorem tw5473973531822005697:True:=⟨⟩
theorem tw10858124571073467:True:=⟨⟩
theorem tw10385577306970716467:True:=⟨⟩
theorem tw14306540600108987151:True:=⟨⟩
theorem tw9688040192920600559:True:=⟨⟩
theorem tw7570489267562517230:True:=⟨⟩
theorem tw11598328590535420147:True:=⟨⟩
theorem tw18009310214406642568:True:=⟨⟩
theorem tw10749545797271833957:True:=⟨⟩
theorem tw16087345539555533227:True:=⟨⟩
theorem tw12312751305678223172:True:=⟨⟩
theorem tw17897443895526377029:True:=⟨⟩
theorem tw8244770583493472735:True:=⟨⟩
theorem tw9331701952179095164:True:=⟨⟩
theorem tw2291320709623053451:True:=⟨⟩
theorem tw9239688329870641170:True:=⟨⟩
theorem tw8635580360826314090:True:=⟨⟩
theorem tw12949830622822232561:True:=⟨⟩
theorem tw7472369320245111942:True:=⟨⟩
theorem tw2150694995242692548:True:=⟨⟩
theorem tw15436060683952444822:True:=⟨⟩
theorem tw2676160577893817585:True:=⟨⟩
theorem tw10216074839606649180:True:=⟨⟩
theorem tw3310424058285255565:True:=⟨⟩
theorem tw7331717011606648508:True:=⟨⟩
theorem tw7704509158857383735:True:=⟨⟩
theorem tw8546964837817778977:True:=⟨⟩
theorem tw17005235211014645244:True:=⟨⟩
theorem tw14294908605823123888:True:=⟨⟩
theorem tw14068803448244937894:True:=⟨⟩
theorem tw4598220561591443472:True:=⟨⟩
theorem tw6981613422598485842:True:=⟨⟩
theorem tw9523650964035059042:True:=⟨⟩
theorem tw13289865674773607897:True:=⟨⟩
theorem tw17328638557035518528:True:=⟨⟩
theorem tw8973405530792388090:True:=⟨⟩
theorem tw9464270796771944513:True:=⟨⟩
theorem tw14557584750325195953:True:=⟨⟩
theorem tw15680681908342550068:True:=⟨⟩
theorem tw1014883788278118755:True:=⟨⟩
end PySem.W.Fast
open PySem PySem.W PyProof.Rows
set_option maxRecDepth 100000 in
set_option maxHeartbeats 0 in
theorem PySem.Challenge.cw_roundglass_k66_whole_what_comes_out_holds : PySem.Challenge.rw_roundglass_k66_whole_what_comes_out.Holds := by
 w_on;o_law;k_head;(case hw=>w_witness2)
 k_fill
 refine K66.kJ (l:=PySem.Challenge.rw_roundglass_k66_whole_what_comes_out) (by decide +kernel) rfl rfl (fun w h Y=>PySem.W.kIn_of Y) ?F
 case F =>
  intro w mg fa h KX G hmg
  refine' K66.CS ⟨PySem.W.mg_none_of KX G ?z_abs,PySem.W.mg_none_of KX G ?z_all,PySem.W.mg_none_of KX G ?z_bool,PySem.W.mg_none_of KX G ?z_enumerate,PySem.W.mg_none_of KX G ?z_int,PySem.W.mg_none_of KX G ?z_isinstance,PySem.W.mg_none_of KX G ?z_len,PySem.W.mg_none_of KX G ?z_list,PySem.W.mg_none_of KX G ?z_max,PySem.W.mg_none_of KX G ?z_range,PySem.W.mg_none_of KX G ?z_reversed,PySem.W.mg_none_of KX G ?z_sorted,PySem.W.mg_none_of KX G ?z_sum,PySem.W.mg_none_of KX G ?z_zip,DL.Ee _,DL.uM KX G ?c0_AXIS_RAY ?c1_AXIS_RAY ?c2_AXIS_RAY ?c3_AXIS_RAY,DL.yA KX G ?c0_HALF ?c1_HALF,DL.uM KX G ?c0_LEVEL_RAY ?c1_LEVEL_RAY ?c2_LEVEL_RAY ?c3_LEVEL_RAY⟩ hmg rfl (DL.j0 KX G ?n0 ?l0 ?c0 ?k0 ?b0) (DL.j0 KX G ?n1 ?l1 ?c1 ?k1 ?b1) (DL.j0 KX G ?n2 ?l2 ?c2 ?k2 ?b2) (DL.j0 KX G ?n3 ?l3 ?c3 ?k3 ?b3) (DL.j0 KX G ?n4 ?l4 ?c4 ?k4 ?b4) (DL.j0 KX G ?n5 ?l5 ?c5 ?k5 ?b5) (DL.j0 KX G ?n6 ?l6 ?c6 ?k6 ?b6) (DL.j0 KX G ?n7 ?l7 ?c7 ?k7 ?b7) (DL.j0 KX G ?n8 ?l8 ?c8 ?k8 ?b8) (DL.j0 KX G ?n9 ?l9 ?c9 ?k9 ?b9) (DL.j0 KX G ?n10 ?l10 ?c10 ?k10 ?b10) (DL.j0 KX G ?n11 ?l11 ?c11 ?k11 ?b11) (DL.Cy KX G ?n12 ?l12 ?c12 ?k12 ?b12) (DL.j0 KX G ?n13 ?l13 ?c13 ?k13 ?b13) (DL.j0 KX G ?n14 ?l14 ?c14 ?k14 ?b14) (DL.j0 KX G ?n15 ?l15 ?c15 ?k15 ?b15) (DL.j0 KX G ?n16 ?l16 ?c16 ?k16 ?b16) (DL.j0 KX G ?n17 ?l17 ?c17 ?k17 ?b17) (DL.j0 KX G ?n18 ?l18 ?c18 ?k18 ?b18) (DL.j0 KX G ?n19 ?l19 ?c19 ?k19 ?b19) (DL.j0 KX G ?n20 ?l20 ?c20 ?k20 ?b20) (DL.j0 KX G ?n21 ?l21 ?c21 ?k21 ?b21) (DL.j0 KX G ?n22 ?l22 ?c22 ?k22 ?b22) (DL.j0 KX G ?n23 ?l23 ?c23 ?k23 ?b23) (DL.j0 KX G ?n24 ?l24 ?c24 ?k24 ?b24) (DL.j0 KX G ?n25 ?l25 ?c25 ?k25 ?b25) (DL.j0 KX G ?n26 ?l26 ?c26 ?k26 ?b26) (DL.j0 KX G ?n27 ?l27 ?c27 ?k27 ?b27) (DL.j0 KX G ?n28 ?l28 ?c28 ?k28 ?b28) (DL.j0 KX G ?n29 ?l29 ?c29 ?k29 ?b29) (DL.j0 KX G ?n30 ?l30 ?c30 ?k30 ?b30) (DL.j0 KX G ?n31 ?l31 ?c31 ?k31 ?b31) (DL.j0 KX G ?n32 ?l32 ?c32 ?k32 ?b32) (DL.j0 KX G ?n33 ?l33 ?c33 ?k33 ?b33) (DL.j0 KX G ?n34 ?l34 ?c34 ?k34 ?b34) (DL.j0 KX G ?n35 ?l35 ?c35 ?k35 ?b35) (DL.j0 KX G ?n36 ?l36 ?c36 ?k36 ?b36) (DL.j0 KX G ?n37 ?l37 ?c37 ?k37 ?b37) (DL.j0 KX G ?n38 ?l38 ?c38 ?k38 ?b38) (DL.j0 KX G ?n39 ?l39 ?c39 ?k39 ?b39) (DL.j0 KX G ?n40 ?l40 ?c40 ?k40 ?b40) (DL.j0 KX G ?n41 ?l41 ?c41 ?k41 ?b41) (DL.j0 KX G ?n42 ?l42 ?c42 ?k42 ?b42) (DL.j0 KX G ?n43 ?l43 ?c43 ?k43 ?b43) (DL.Cw KX G ?n44 ?l44 ?c44 ?k44 ?b44)
  (case n0=>k_is);(case l0=>k_is);(case c0=>k_is);(case k0=>k_is);(case b0=>(intro us hl;exact match us,hl with|[_,_,_],_=>rfl))
  (case n1=>k_is);(case l1=>k_is);(case c1=>k_is);(case k1=>k_is);(case b1=>(intro us hl;exact match us,hl with|[_,_],_=>rfl))
  (case n2=>k_is);(case l2=>k_is);(case c2=>k_is);(case k2=>k_is);(case b2=>(intro us hl;exact match us,hl with|[_,_],_=>rfl))
  (case n3=>k_is);(case l3=>k_is);(case c3=>k_is);(case k3=>k_is);(case b3=>(intro us hl;exact match us,hl with|[_,_],_=>rfl))
  (case n4=>k_is);(case l4=>k_is);(case c4=>k_is);(case k4=>k_is);(case b4=>(intro us hl;exact match us,hl with|[_,_],_=>rfl))
  (case n5=>k_is);(case l5=>k_is);(case c5=>k_is);(case k5=>k_is);(case b5=>(intro us hl;exact match us,hl with|[_,_],_=>rfl))
  (case n6=>k_is);(case l6=>k_is);(case c6=>k_is);(case k6=>k_is);(case b6=>(intro us hl;exact match us,hl with|[_,_],_=>rfl))
  (case n7=>k_is);(case l7=>k_is);(case c7=>k_is);(case k7=>k_is);(case b7=>(intro us hl;exact match us,hl with|[_,_],_=>rfl))
  (case n8=>k_is);(case l8=>k_is);(case c8=>k_is);(case k8=>k_is);(case b8=>(intro us hl;exact match us,hl with|[_,_],_=>rfl))
  (case n9=>k_is);(case l9=>k_is);(case c9=>k_is);(case k9=>k_is);(case b9=>(intro us hl;exact match us,hl with|[_],_=>rfl))
  (case n10=>k_is);(case l10=>k_is);(case c10=>k_is);(case k10=>k_is);(case b10=>(intro us hl;exact match us,hl with|[_,_],_=>rfl))
  (case n11=>k_is);(case l11=>k_is);(case c11=>k_is);(case k11=>k_is);(case b11=>(intro us hl;exact match us,hl with|[_],_=>rfl))
  (case n12=>k_is);(case l12=>k_is);(case c12=>k_is);(case k12=>k_is);(case b12=>(intro us hl S;exact match us,hl with|[_,_],_=>rfl))
  (case n13=>k_is);(case l13=>k_is);(case c13=>k_is);(case k13=>k_is);(case b13=>(intro us hl;exact match us,hl with|[_,_],_=>rfl))
  (case n14=>k_is);(case l14=>k_is);(case c14=>k_is);(case k14=>k_is);(case b14=>(intro us hl;exact match us,hl with|[_,_],_=>rfl))
  (case n15=>k_is);(case l15=>k_is);(case c15=>k_is);(case k15=>k_is);(case b15=>(intro us hl;exact match us,hl with|[_],_=>rfl))
  (case n16=>k_is);(case l16=>k_is);(case c16=>k_is);(case k16=>k_is);(case b16=>(intro us hl;exact match us,hl with|[_],_=>rfl))
  (case n17=>k_is);(case l17=>k_is);(case c17=>k_is);(case k17=>k_is);(case b17=>(intro us hl;exact match us,hl with|[_,_],_=>rfl))
  (case n18=>k_is);(case l18=>k_is);(case c18=>k_is);(case k18=>k_is);(case b18=>(intro us hl;exact match us,hl with|[_],_=>rfl))
  (case n19=>k_is);(case l19=>k_is);(case c19=>k_is);(case k19=>k_is);(case b19=>(intro us hl;exact match us,hl with|[_,_],_=>rfl))
  (case n20=>k_is);(case l20=>k_is);(case c20=>k_is);(case k20=>k_is);(case b20=>(intro us hl;exact match us,hl with|[_,_],_=>rfl))
  (case n21=>k_is);(case l21=>k_is);(case c21=>k_is);(case k21=>k_is);(case b21=>(intro us hl;exact match us,hl with|[_],_=>rfl))
  (case n22=>k_is);(case l22=>k_is);(case c22=>k_is);(case k22=>k_is);(case b22=>(intro us hl;exact match us,hl with|[_,_],_=>rfl))
  (case n23=>k_is);(case l23=>k_is);(case c23=>k_is);(case k23=>k_is);(case b23=>(intro us hl;exact match us,hl with|[_,_],_=>rfl))
  (case n24=>k_is);(case l24=>k_is);(case c24=>k_is);(case k24=>k_is);(case b24=>(intro us hl;exact match us,hl with|[_],_=>rfl))
  (case n25=>k_is);(case l25=>k_is);(case c25=>k_is);(case k25=>k_is);(case b25=>(intro us hl;exact match us,hl with|[_],_=>rfl))
  (case n26=>k_is);(case l26=>k_is);(case c26=>k_is);(case k26=>k_is);(case b26=>(intro us hl;exact match us,hl with|[_,_],_=>rfl))
  (case n27=>k_is);(case l27=>k_is);(case c27=>k_is);(case k27=>k_is);(case b27=>(intro us hl;exact match us,hl with|[_,_],_=>rfl))
  (case n28=>k_is);(case l28=>k_is);(case c28=>k_is);(case k28=>k_is);(case b28=>(intro us hl;exact match us,hl with|[_,_,_],_=>rfl))
  (case n29=>k_is);(case l29=>k_is);(case c29=>k_is);(case k29=>k_is);(case b29=>(intro us hl;exact match us,hl with|[_,_],_=>rfl))
  (case n30=>k_is);(case l30=>k_is);(case c30=>k_is);(case k30=>k_is);(case b30=>(intro us hl;exact match us,hl with|[_,_],_=>rfl))
  (case n31=>k_is);(case l31=>k_is);(case c31=>k_is);(case k31=>k_is);(case b31=>(intro us hl;exact match us,hl with|[_],_=>rfl))
  (case n32=>k_is);(case l32=>k_is);(case c32=>k_is);(case k32=>k_is);(case b32=>(intro us hl;exact match us,hl with|[_],_=>rfl))
  (case n33=>k_is);(case l33=>k_is);(case c33=>k_is);(case k33=>k_is);(case b33=>(intro us hl;exact match us,hl with|[_],_=>rfl))
  (case n34=>k_is);(case l34=>k_is);(case c34=>k_is);(case k34=>k_is);(case b34=>(intro us hl;exact match us,hl with|[_],_=>rfl))
  (case n35=>k_is);(case l35=>k_is);(case c35=>k_is);(case k35=>k_is);(case b35=>(intro us hl;exact match us,hl with|[_,_],_=>rfl))
  (case n36=>k_is);(case l36=>k_is);(case c36=>k_is);(case k36=>k_is);(case b36=>(intro us hl;exact match us,hl with|[_],_=>rfl))
  (case n37=>k_is);(case l37=>k_is);(case c37=>k_is);(case k37=>k_is);(case b37=>(intro us hl;exact match us,hl with|[_],_=>rfl))
  (case n38=>k_is);(case l38=>k_is);(case c38=>k_is);(case k38=>k_is);(case b38=>(intro us hl;exact match us,hl with|[_,_],_=>rfl))
  (case n39=>k_is);(case l39=>k_is);(case c39=>k_is);(case k39=>k_is);(case b39=>(intro us hl;exact match us,hl with|[_,_],_=>rfl))
  (case n40=>k_is);(case l40=>k_is);(case c40=>k_is);(case k40=>k_is);(case b40=>(intro us hl;exact match us,hl with|[_],_=>rfl))
  (case n41=>k_is);(case l41=>k_is);(case c41=>k_is);(case k41=>k_is);(case b41=>(intro us hl;exact match us,hl with|[_,_],_=>rfl))
  (case n42=>k_is);(case l42=>k_is);(case c42=>k_is);(case k42=>k_is);(case b42=>(intro us hl;exact match us,hl with|[_,_,_],_=>rfl))
  (case n43=>k_is);(case l43=>k_is);(case c43=>k_is);(case k43=>k_is);(case b43=>(intro us hl;exact match us,hl with|[_],_=>rfl))
  (case n44=>k_is);(case l44=>k_is);(case c44=>k_is);(case k44=>k_is);(case b44=>(intro us hl;exact match us,hl with|[_],_=>rfl))
  (case z_abs=>k_is);(case z_all=>k_is);(case z_bool=>k_is);(case z_enumerate=>k_is);(case z_int=>k_is);(case z_isinstance=>k_is);(case z_len=>k_is);(case z_list=>k_is);(case z_max=>k_is);(case z_range=>k_is);(case z_reversed=>k_is);(case z_sorted=>k_is);(case z_sum=>k_is);(case z_zip=>k_is);(case c0_AXIS_RAY=>k_is);(case c1_AXIS_RAY=>k_is);(case c2_AXIS_RAY=>k_is);(case c3_AXIS_RAY=>k_is);(case c0_HALF=>k_is);(case c1_HALF=>k_is);(case c0_LEVEL_RAY=>k_is);(case c1_LEVEL_RAY=>k_is);(case c2_LEVEL_RAY=>k_is);(case c3_LEVEL_RAY=>k_is)
end
