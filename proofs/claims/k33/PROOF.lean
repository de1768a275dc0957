import PyProof.Rows.All
import OpenK.KLine
import KE.KPar
import KE.IntBitsLaws
import PyProof.Fits
import KE.KIsAll
import KE.KItem
import KE.KxBytes
import Wide.FinOn
import PyProof.EqAt
import PyProof.EqKinds
import PyProof.TupleCall
import PyProof.ZipIter
import PyProof.EnumMake
import PyProof.EnumFor
import PyProof.Rows.EnumRows
import PyProof.CompMap
import PyProof.CompUse
import KE.KRevSl
import KE.KRevIter
import PyProof.ListRange
import PyProof.AutoRange
import PyProof.FactsAll.range_2
import PyProof.MaxThree
import KE.RegKTryMore
import PyProof.Rows.SumAny
import KE.KMinBuiltin
import PyProof.Rows.CallKwBuiltin
import PyProof.JoinWalk
import PyProof.StrBlockL
import PyProof.StrCalls2
import PyProof.CallStr
import PyProof.Rows.StrWeight2
import PyProof.FitsInt
import PyProof.FactsAll.range_1
import PyProof.SeqRoads2
import KE.RegKIsAll
import PyProof.ExcArgsOwn
import PyProof.NsDelKeeps
import PyProof.RulesAs
import KE.KIntText
import PyProof.Rows.StrNews2
import PyProof.StrBlockH
import PyProof.Rows.RuleDivmod
import KE.IntTextText
import OpenK.KTop
import Lean
import PySem.Challenge.RW_roundglass_k33_whole_one_area
noncomputable section
open PySem.W renaming Frag→JB
open PySem renaming wpAny_bind→JC,wpAny_pure→JZ
open List renaming length_map→JD,mem_cons_of_mem→JF,mem_cons_self→JH,mem_cons→JJ,mem_map→JK,length_cons→JP,length_append→JQ,getElem?_eq_some_iff→JV,length_take→JX,mem_of_getElem?→Kd,mem_append→Kf,getElem?_eq_getElem→Kg,mem_append_right→Kh,getElem?_map→Ki,getD_eq_getElem?_getD→Kj,mem_singleton→Kl,size_toArray→Ko,map_append→Kp,length_drop→Kr,not_mem_nil→Ks,mem_of_mem_take→Kx,map_cons→Ky,filter_cons_of_pos→KD,getElem?_append_right→KH,pairwise_cons→KJ,take_of_length_le→KN,length_zip→KO,length_singleton→KQ,foldl_append→KR,filter_cons_of_neg→KY,mem_append_left→KZ,take_length→La,take_succ_eq_append_getElem→Lb,getElem?_append_left→Lc,map_map→Lf,map_inj_right→Lg,all_eq_true→Li,mem_of_mem_drop→Lj,getElem?_replicate→Lk,take_add_one→Ln,getElem_cons_succ→Lo,of_mem_zip→Lq,append_assoc→Ls,length_range→Lv,map_nil→Lw,length_pos_iff→Lz,replicate→LA,append_nil→LB,length_filter_le→LC,getElem_append_right→LF,lookup_cons→LH,getElem_mem→LJ,getElem_zip→LK,length→LL,getElem?_take_of_lt→LM,getElem_append_left→LO,length_replicate→LZ,take_append_drop→Me,getElem?_append→Mi,pairwise_append→Mj,mem_iff_getElem→Mk,map_drop→Ml,range→Mm,mem_filter→Mo,filterMap_cons→Mp,nodup_cons→Mr,take_succ_cons→Mt,foldl_cons→Mv,drop_eq_getElem_cons→MF,map_take→MN,getElem?_set_self→MR,drop_of_length_le→MV,drop_eq_nil_of_le→MW,forIn_cons→MZ,map→Nh,getElem?_set_ne→Ni,getElem?_mapIdx→Nj,mem_range→Nl,getElem?_range→Nv,getElem_of_mem→Nw,mem_filterMap→Nx,filter_append→NB,zip_cons_cons→NC,getElem?_drop→NG,reverse_cons→NI,zipIdx_cons→NW,cons_append→NY,ext_getElem→NZ,getElem_map→Oa,zipIdx_nil→Oc,nil_append→Oh,forIn_nil→Ot,drop_zero→Ou
open PySem.Heap renaming get?_push_of_some→JL,lt_size→Ke,get?_push_size→Kk,size_push→Ld,get?_update_other→MS,get?_update_self→MX,get?_push_ne→NK
open Rat renaming mul_nonneg→JM,intCast_mul→Kn,le_refl→Kq,intCast_natCast→Kv,div_mul_cancel→KC,mul_pos→KI,natCast_mul→KW,divInt→Lh,num_divInt_den→LR,intCast_sub→LU,divInt_eq_div→LX,mul_comm→Mb,mul_zero→Md,num_eq_zero→Ms,div_def→Mw,intCast_inj→Mx,sub_eq_add_neg→MA,add_zero→MC,neg_num→MI,neg_den→MJ,intCast_le_intCast→MU,intCast_neg→Na,intCast_add→Nb,divInt_mul_right→Nk,neg_neg→Nq,mul_assoc→ND,zero_mul→NU,num_intCast→Oe,den_intCast→Of,lt_iff→Ov
open Nat renaming lt_of_lt_of_le→JN,le_trans→JR,le_refl→JY,pow_le_pow_right→Kw,lt_of_le_of_lt→Kz,ne_of_lt→KG,mod_eq_of_lt→KP,zero_le→KU,gcd→Ll,div_le_self→Lr,mod_lt→Lu,lt_irrefl→Ly,le_add_right→LI,gcd_pos_of_pos_right→LN,mul_ne_zero→LS,min_eq_left→LW,ne_of_gt→LY,pow_succ→Ma,zero_add→Mf,min_le_right→Mg,dvd_lcm_left→Mh,max_le→Mn,gcd_comm→MB,lt_trans→MD,dvd_lcm_right→MH,dvd_trans→ML,mul_div_cancel_left→MM,mul_lt_mul''→MP,le_max_right→MQ,le_max_left→MY,not_lt_zero→Nf,add_comm→Ng,log2_lt→Nm,pos_iff_ne_zero→Nn,lcm_pos→Nu,eq_zero_or_pos→Ny,pos_of_ne_zero→NF,mod_eq_sub_mod→NH,lt_trichotomy→NM,add_mod_right→NN,gcd_dvd_right→NO,le_of_lt→NP,le_of_eq→NQ,mul_comm→NT,min_eq_right→NX,pow_add→Ob,min_le_left→Od,two_pow_pos→Og,le_add_left→Oj,mod_add_mod→Ol,lcm→Ox
open Int renaming natAbs_natCast→JU,natCast_inj→Kt,natAbs_mul→KS,mul_ne_zero→Le,natAbs_neg→Lm,mul_nonneg→LD,emod_lt_of_pos→LQ,mul_eq_zero→LV,mul_le_mul_of_nonneg_right→Mc,emod_nonneg→Mu,natCast_mul→My,sign_eq_neg_one_of_neg→Mz,natAbs_ediv_le_natAbs→ME,toNat_natCast→MG,sign_eq_one_of_pos→MT,lt_or_le→Nc,zero_mul→Nd,neg_ediv_of_dvd→Np,mul_neg→Nr,mul_pos→Nt,natAbs_eq_zero→NA,natAbs_add_le→NJ,natAbs_sub_le→NL,le_of_lt→NR,mul_zero→NS,neg_neg→Oi,gcd→Ow
open Bool renaming false_ne_true→Ku,and_eq_true→LG,false_eq_true→LP,eq_iff_iff→Mq,true_and→Nz,false_and→Oq
open Classical renaming propDecidable→KA,byContradiction→Lp
open Option renaming getD_none→NV,map_none→Om,map_some→Oo
set_option compiler.extract_closed false
set_option Elab.async false
set_option linter.all false
set_option maxRecDepth 100000
section
namespace L2
open PySem PySem.Spec PyProof.Rows
noncomputable abbrev Key:=Sum Int Str
noncomputable def Bd:Key→Value→Bool
 | .inl k,v=>Value.isInt k v
 | .inr x,v=>Value.isStrOf x v
noncomputable def He(w:World):Key→Int
 | .inl k=>hashInt k
 | .inr x=>hashStr w x
theorem u5:∀{k:Key} {v:Value},Bd k v=true→(∃ i t,k=Sum.inl i∧v=Value.int i t)∨(∃ x t,k=Sum.inr x∧v=Value.str x t)
 | .inl i,v,h=>by
  obtain⟨t,e⟩:=Value.isInt_shape (k:=i) (v:=v) h
  exact .inl ⟨i,t,rfl,e⟩
 | .inr x,v,h=>by
  obtain⟨t,e⟩:=Value.isStrOf_shape (x:=x) (v:=v) h
  exact .inr ⟨x,t,rfl,e⟩
theorem Dv(a b:Int):decide ((Sum.inl a:Key)=Sum.inl b)=(a == b):=by
 by_cases e:a=b
 ·subst e;simp
 ·have h:¬ (Sum.inl a:Key)=Sum.inl b:=fun q=>e (Sum.inl.inj q)
  rw[decide_eq_false h]
  exact(beq_eq_false_iff_ne.mpr e).symm
theorem Ds(a b:Str):decide ((Sum.inr a:Key)=Sum.inr b)=decide (a=b):=by
 by_cases e:a=b
 ·subst e;simp
 ·have h:¬ (Sum.inr a:Key)=Sum.inr b:=fun q=>e (Sum.inr.inj q)
  rw[decide_eq_false h,decide_eq_false e]
theorem Du(a:Int)(b:Str):decide ((Sum.inl a:Key)=Sum.inr b)=false:=decide_eq_false (fun q=>nomatch q)
theorem Dt(a:Str)(b:Int):decide ((Sum.inr a:Key)=Sum.inl b)=false:=decide_eq_false (fun q=>nomatch q)
noncomputable def pW(prog:Program)(w:World):PySem.KeyKind prog w Key where
 is:=Bd
 hash:=He w
 inj:=fun v a b ha hb=>by
  rcases u5 ha with⟨i,t,rfl,rfl⟩|⟨x,t,rfl,rfl⟩
  ·rcases u5 hb with⟨j,u,rfl,e⟩|⟨y,u,rfl,e⟩
   ·injection e with e1 _;rw[e1]
   ·exact nomatch e
  ·rcases u5 hb with⟨j,u,rfl,e⟩|⟨y,u,rfl,e⟩
   ·exact nomatch e
   ·injection e with e1 _;rw[e1]
 byValue:=fun k v h=>by
  rcases u5 h with⟨i,t,rfl,rfl⟩|⟨x,t,rfl,rfl⟩<;>rfl
 pyHash:=fun hv h=>by
  rcases u5 hv with⟨i,t,rfl,rfl⟩|⟨x,t,rfl,rfl⟩
  ·exact wpAny_pyHash_int h
  ·exact wpAny_pyHash_str h
 eqBool:=fun hu hv h=>by
  rcases u5 hu with⟨i,t,rfl,rfl⟩|⟨x,t,rfl,rfl⟩
  ·rcases u5 hv with⟨j,u,rfl,rfl⟩|⟨y,u,rfl,rfl⟩
   ·rw[Dv]at h;exact wpAny_eqBool_int h
   ·rw[Du]at h;exact SeqAt.EqAt.int_str i t y u _ _ _ _ h
  ·rcases u5 hv with⟨j,u,rfl,rfl⟩|⟨y,u,rfl,rfl⟩
   ·rw[Dt]at h;exact SeqAt.EqAt.str_int x t j u _ _ _ _ h
   ·rw[Ds]at h;exact wpAny_eqBool_str h
 «strs»:=fun k x t v h=>by
  rcases u5 h with⟨i,u,rfl,e⟩|⟨y,u,rfl,e⟩
  ·exact nomatch e
  ·injection e with e1 _
   subst e1
   cases v<;>rfl
inductive V where
 | non|bl (b:Bool)|int (i:Int)|str (x:Str)|byt (b:Array UInt8)|flt (b:UInt64)|ref (a:Addr)|ty (n:String)
 deriving DecidableEq
noncomputable def o7:V→Value→Prop
 | .non,u=>u=Value.none
 | .bl b,u=>u=Value.bool b
 | .int i,u=>∃ t,u=Value.int i t
 | .str x,u=>∃ t,u=Value.str x t
 | .byt b,u=>∃ t,u=Value.bytes b t
 | .flt b,u=>∃ t,u=Value.float b t
 | .ref a,u=>u=Value.ref a
 | .ty n,u=>u=Value.type n
noncomputable abbrev i8:List V→List Value→Prop:=Paired o7
theorem i8.length{xs:List V}{us:List Value}(r:i8 xs us):xs.length=us.length:=Paired.length r
theorem i8.get:∀{xs:List V} {us:List Value} {i:Nat} {x:V},i8 xs us→xs[i]? = some x→∃ u,us[i]? = some u∧o7 x u
 | _,_,_,_,.nil,e=>by simp at e
 | _,_,0,_,.cons r _,e=>by simp at e;subst e;exact⟨_,rfl,r⟩
 | _,_,i+1,x,.cons _ t,e=>by
  obtain⟨u,h1,h2⟩:=i8.get (i:=i) (x:=x) t (by simpa using e)
  exact⟨u,by simpa using h1,h2⟩
theorem i8.set{x:V}{u:Value}(r:o7 x u):∀{xs:List V} {us:List Value} (i:Nat),i8 xs us→i8 (xs.set i x) (us.set i u)
 | _,_,_,.nil=>.nil
 | _,_,0,.cons _ t=>.cons r t
 | _,_,i+1,.cons q t=>.cons q (i8.set r i t)
theorem i8.append:∀{xs ys:List V} {us ws:List Value},i8 xs us→i8 ys ws→i8 (xs++ys) (us++ws)
 | _,_,_,_,.nil,s=>s
 | _,_,_,_,.cons r t,s=>.cons r (i8.append t s)
theorem i8.take:∀{xs:List V} {us:List Value} (n:Nat),i8 xs us→i8 (xs.take n) (us.take n)
 | _,_,0,_=>.nil
 | _,_,_+1,.nil=>.nil
 | _,_,n+1,.cons r t=>.cons r (i8.take n t)
theorem i8.drop:∀{xs:List V} {us:List Value} (n:Nat),i8 xs us→i8 (xs.drop n) (us.drop n)
 | _,_,0,r=>r
 | _,_,_+1,.nil=>.nil
 | _,_,n+1,.cons _ t=>i8.drop n t
noncomputable def DY:Option V→Option Value→Prop
 | some v,some u=>o7 v u
 | none,none=>True
 | _,_=>False
noncomputable def KV{κ:Type}:List (κ × V)→List (κ × Value)→Prop:=Paired fun(p:κ × V) (q:κ × Value)=>p.1=q.1∧o7 p.2 q.2
noncomputable def kV:Key→V
 | .inl i=>.int i
 | .inr x=>.str x
inductive HO where
 | lst (xs:List V)
 | tup (xs:List V)
 | dK (kvs:List (Key × V))|dT (kvs:List (List Key × V))
 | set (S:Int→Bool) (n:Nat)
 | ins (C dx:Addr) (fs:List (Str × V))
 | own (x:Addr)
 | xd (fs:List (Str × V))
 | met (f x:Addr)
 | rng (lo hi:Int)
 | frz (o:Obj) (u:HO)
 | tbl (ps:Array Value)
 | ext (φ:Heap→Prop)
noncomputable abbrev Hp:=Addr→Option HO
noncomputable def upd(H:Hp)(a:Addr)(o:HO):Hp:=fun b=>if b=a then some o else H b
theorem i3{H:Hp}{a:Addr}{o:HO}:upd H a o a=some o:=by unfold upd;rw[if_pos rfl]
theorem g6{H:Hp}{a b:Addr}{o:HO}(h:b≠a):upd H a o b=H b:=by unfold upd;rw[if_neg h]
theorem Y6{H:Hp}{a:Addr}{o u:HO}:upd (upd H a o) a u=upd H a u:=by
 funext b;unfold upd;split<;>rfl
theorem C7{H:Hp}{a b:Addr}{o:HO}(h:H a=some o)(h':H b=none):a≠b:=by
 intro e;subst e;rw[h]at h';cases h'
section
variable (P:Program) (w:World)
noncomputable def B2(H:Hp)(h:Heap)(a:Addr):HO→Prop
 | .lst xs=>xs.length≤sizeLine∧∃(its:List Value) (n:Nat),i8 xs its∧h.get? a=some { cls:=.type "list",data:=.seq its.toArray n }
 | .tup xs=>xs.length≤sizeLine∧∃ its:List Value,i8 xs its∧IsTup h a its.toArray
 | .dK kvs=>kvs.length≤sizeLine∧(a == sysModules)=false∧∃ vs,KV kvs vs∧h.DictOf (pW P w) a vs
 | .dT kvs=>kvs.length≤sizeLine∧(a == sysModules)=false∧∃ xs:List (List Key × Addr × Value),
   Paired (fun(p:List Key × V) (q:List Key × Addr × Value)=>p.1=q.1∧H q.2.1=some (.tup (p.1.map kV))∧o7 p.2 q.2.2) kvs xs ∧
   ∃ o es ep,h.get? a=some o∧o.ExactDict∧o.data = .dict es ep∧es.toList=xs.map (entryOfKey (tupleKind (pW P w)))∧(xs.map (·.1)).Nodup
 | .set S n=>h.SetOf (intKind P w) a S n
 | .ins C dx fs=>H dx=some (.own a)∧fs.length≤1000∧dx≠a∧h.get? a=some (PySem.W.instObj C dx) ∧
   ∃ mA,h.Ns1 dx mA∧(∀ f,DY (fs.lookup f) (mA f))∧PySem.Within mA (fs.map (·.1))
 | .own _=>∃ o,h.get? a=some o
 | .xd fs=>∃ mA,h.Ns1 a mA∧∀ f,DY (fs.lookup f) (mA f)
 | .rng lo hi=>∃ t u v,h.get? a=some { cls:=.type "range",data:=.fields #[.int lo t,.int hi u,.int 1 v] }
 | .frz o u=>h.get? a=some o∧B2 H h a u
 | .tbl ps=>h.get? a=some { cls:=.none,data:=.fields ps }
 | .met f x=>h.get? a=some (PySem.W.methodObj (.ref f) (.ref x))
 | .ext φ=>φ h∧(∃ o,h.get? a=some o)∧∀ h1 h2:Heap,φ h1→(∀ o,h1.get? a=some o→h2.get? a=some o)→φ h2
def HOk(H:Hp)(h:Heap):Prop:=∀ a o,H a=some o→B2 P w H h a o
end
section
variable {P:Program} {w:World} {H H':Hp} {h h':Heap} {a:Addr} {o:HO}
theorem B2.lt(x:B2 P w H h a o):a<h.objs.size:=by
 cases o with
 | lst xs=>obtain⟨_,_,_,_,e⟩:=x;exact Ke e
 | tup xs=>obtain⟨_,_,_,p⟩:=x;exact p.lt
 | dK kvs=>obtain⟨_,_,_,_,o,_,_,e,_⟩:=x;exact Ke e
 | dT kvs=>obtain⟨_,_,_,_,o,_,_,e,_⟩:=x;exact Ke e
 | set S n=>obtain⟨o,_,_,_,e,_⟩:=x;exact Ke e
 | ins C dx fs=>obtain⟨_,_,_,e,_⟩:=x;exact Ke e
 | own y=>obtain⟨_,e⟩:=x;exact Ke e
 | xd fs=>obtain⟨_,⟨_,_,_,e,_⟩,_⟩:=x;exact Ke e
 | rng lo hi=>obtain⟨_,_,_,e⟩:=x;exact Ke e
 | frz ob u=>obtain⟨e,_⟩:=x;exact Ke e
 | tbl ps=>exact Ke (show h.get? a=some _ from x)
 | met f y=>exact Ke (show h.get? a=some _ from x)
 | ext φ=>obtain⟨_,⟨_,e⟩,_⟩:=x;exact Ke e
theorem Paired.mapP{α β:Type}{F G:α→β→Prop}:∀{l₁:List α} {l₂:List β},Paired F l₁ l₂→(∀ a b,F a b→G a b)→Paired G l₁ l₂
 | _,_,.nil,_=>.nil
 | _,_,.cons r t,f=>.cons (f _ _ r) (Paired.mapP t f)
theorem B2.stay(x:B2 P w H h a o)(k:∀ b u,(b=a∨H b=some (.own a))→h.get? b=some u→h'.get? b=some u)
  (ho:∀ b,H b=some (.own a)→H' b=some (.own a)) (ht:∀ b xs,H b=some (.tup xs)→H' b=some (.tup xs)):B2 P w H' h' a o:=by
 induction o with
 | lst xs=>obtain⟨z,its,n,r,e⟩:=x;exact⟨z,its,n,r,k _ _ (.inl rfl) e⟩
 | tup xs=>obtain⟨z,its,r,ob,e,c⟩:=x;exact⟨z,its,r,ob,k _ _ (.inl rfl) e,c⟩
 | dK kvs=>obtain⟨z,y,vs,r,ob,es,ep,e,c⟩:=x;exact⟨z,y,vs,r,ob,es,ep,k _ _ (.inl rfl) e,c⟩
 | dT kvs =>
  obtain⟨z,y,xs,r,ob,es,ep,e,c⟩:=x
  exact⟨z,y,xs,Paired.mapP r fun p q z=>⟨z.1,ht _ _ z.2.1,z.2.2⟩,ob,es,ep,k _ _ (.inl rfl) e,c⟩
 | set S n=>obtain⟨ob,es,ep,t,e,c⟩:=x;exact⟨ob,es,ep,t,k _ _ (.inl rfl) e,c⟩
 | ins C dx fs =>
  obtain⟨d,z,ne,e,mA,⟨od,es,ep,e2,c⟩,r⟩:=x
  exact⟨ho _ d,z,ne,k _ _ (.inl rfl) e,mA,⟨od,es,ep,k _ _ (.inr d) e2,c⟩,r⟩
 | own y=>obtain⟨ob,e⟩:=x;exact⟨ob,k _ _ (.inl rfl) e⟩
 | xd fs=>obtain⟨mA,⟨od,es,ep,e,c⟩,r⟩:=x;exact⟨mA,⟨od,es,ep,k _ _ (.inl rfl) e,c⟩,r⟩
 | rng lo hi=>obtain⟨t,u,v,e⟩:=x;exact⟨t,u,v,k _ _ (.inl rfl) e⟩
 | frz ob u ih=>obtain⟨e,q⟩:=x;exact⟨k _ _ (.inl rfl) e,ih q⟩
 | tbl ps =>
  have e:h.get? a=some { cls:=.none,data:=.fields ps }:=x
  show h'.get? a=some { cls:=.none,data:=.fields ps }
  exact k a _ (.inl rfl) e
 | met f y =>
  have e:h.get? a=some (PySem.W.methodObj (.ref f) (.ref y)):=x
  show h'.get? a=some (PySem.W.methodObj (.ref f) (.ref y))
  exact k a _ (.inl rfl) e
 | ext φ=>obtain⟨p,⟨o,e⟩,st⟩:=x;exact⟨st _ _ p fun o q=>k _ _ (.inl rfl) q,⟨o,k _ _ (.inl rfl) e⟩,st⟩
theorem HOk.lt(x:HOk P w H h)(e:H a=some o):a<h.objs.size:=(x a o e).lt
theorem HOk.fresh(x:HOk P w H h)(e:h.objs.size≤a):H a=none:=by
 cases q:H a with
 | none=>rfl
 | some u=>exact absurd (JN (x.lt q) e) (Ly _)
theorem HOk.kept(x:HOk P w H h)(k:∀ b u,h.get? b=some u→h'.get? b=some u):HOk P w H h':=fun a o e =>
 (x a o e).stay (fun b u _ q=>k b u q) (fun _ q=>q) fun _ _ q=>q
theorem HOk.laid(x:HOk P w H h)(k:∀ b u,h.get? b=some u→h'.get? b=some u)(hp:h.objs.size≤a)(new:B2 P w (upd H a o) h' a o):HOk P w (upd H a o) h':=fun b u e=>by
 have hn:=x.fresh hp
 by_cases hb:b=a
 ·subst hb;rw[i3]at e;cases e;exact new
 ·rw[g6 hb]at e
  exact(x b u e).stay (fun c v _ q=>k c v q) (fun c q=>by rw[g6 (C7 q hn)];exact q) fun c xs q=>by rw[g6 (C7 q hn)];exact q
end
def Rd(H:Hp)(a:Addr)(u:HO):Prop:=H a=some u ∨ ∃ o,H a=some (.frz o u)
theorem Rd.of{H:Hp}{a:Addr}{u:HO}(h:H a=some u):Rd H a u:=.inl h
theorem Rd.ok{P:Program}{w:World}{H:Hp}{h:Heap}{a:Addr}{u:HO}(r:Rd H a u)(x:HOk P w H h):B2 P w H h a u:=by
 rcases r with r|⟨o,r⟩
 ·exact x a u r
 ·obtain⟨_,q⟩:=x a _ r
  exact q
noncomputable def Mut:Option HO→Prop
 | some (.lst _)=>True
 | some (.dK _)=>True
 | some (.dT _)=>True
 | some (.set _ _)=>True
 | some (.ins _ _ _)=>True
 | some (.ext _)=>True
 | _=>False
section
variable {P:Program} {w:World} {H:Hp} {h h':Heap} {x e:Addr} {o':HO}
theorem HOk.write(ok:HOk P w H h)(mu:Mut (H x))(he:e=x∨H e=some (.own x))(k:∀ b u,b≠e→h.get? b=some u→h'.get? b=some u)(heo:∃ u,h'.get? e=some u)
  (new:B2 P w (upd H x o') h' x o'):HOk P w (upd H x o') h':=fun b u q=>by
 have nown:∀ c y,H c=some (.own y)→c≠x:=fun c y r z=>by subst z;rw[r]at mu;exact mu
 have ntup:∀ c xs,H c=some (.tup xs)→c≠x:=fun c xs r z=>by subst z;rw[r]at mu;exact mu
 by_cases hb:b=x
 ·subst hb;rw[i3]at q;cases q;exact new
 ·rw[g6 hb]at q
  by_cases hbe:b=e
  ·have q':H b=some (.own x):=by
    rcases he with z|z
    ·exact absurd (hbe.trans z) hb
    ·rw[hbe];exact z
   rw[q]at q';cases q'
   obtain⟨v,hv⟩:=heo
   exact⟨v,by rw[hbe];exact hv⟩
  ·refine(ok b u q).stay (fun c v hc r=>k c v ?_ r) (fun c r=>by rw[g6 (nown c b r)];exact r) fun c xs r=>by rw[g6 (ntup c xs r)];exact r
   rcases hc with rfl|hc
   ·exact hbe
   ·rintro rfl
    rcases he with z|z
    ·exact nown c b hc z
    ·rw[hc]at z;cases z;exact hb rfl
end
structure Un(fs ex:List Addr)(H H':Hp)(h h':Heap):Prop where
 keep:∀ b o,h.get? b=some o→H b=none→b∉fs→b∉ex→h'.get? b=some o
 slot:∀ b o,h.get? b=some o→H b=none→b∈fs→b∉ex→∃ sl,h'.get? b=some { o with slots:=sl }
 free:∀ b o,h.get? b=some o→H b=none→b∉ex→H' b=none
 there:∀ b o,h.get? b=some o→b∉ex→∃ o',h'.get? b=some o'
 tups:∀ b xs,H b=some (.tup xs)→H' b=some (.tup xs)
 frzs:∀ b o u,H b=some (.frz o u)→H' b=some (.frz o u)
 tbls:∀ b ps,H b=some (.tbl ps)→∃ more,H' b=some (.tbl (ps++more))
section
variable {fs fs' ex ex':List Addr} {H H1 H2:Hp} {h h1 h2 h':Heap} {a x e:Addr} {o:HO}
theorem Un.any(u:Un fs ex H H1 h h1){b:Addr}{ob:Obj}(q:h.get? b=some ob)(n:H b=none)(hx:b∉ex):∃ sl,h1.get? b=some { ob with slots:=sl }:=by
 by_cases hb:b∈fs
 ·exact u.slot b ob q n hb hx
 ·exact⟨ob.slots,u.keep b ob q n hb hx⟩
theorem Un.trans(a:Un fs ex H H1 h h1)(b:Un fs ex H1 H2 h1 h2):Un fs ex H H2 h h2 where
 keep:=fun c ob q n hc hx=>b.keep c ob (a.keep c ob q n hc hx) (a.free c ob q n hx) hc hx
 slot:=fun c ob q n hc hx=>by
  obtain⟨sl,e1⟩:=a.slot c ob q n hc hx
  obtain⟨sl',e2⟩:=b.slot c _ e1 (a.free c ob q n hx) hc hx
  exact⟨sl',e2⟩
 free:=fun c ob q n hx=>by
  obtain⟨o',e1⟩:=a.there c ob q hx
  exact b.free c o' e1 (a.free c ob q n hx) hx
 there:=fun c ob q hx=>by
  obtain⟨o',e1⟩:=a.there c ob q hx
  exact b.there c o' e1 hx
 tups:=fun c xs q=>b.tups c xs (a.tups c xs q)
 frzs:=fun c ob xs q=>b.frzs c ob xs (a.frzs c ob xs q)
 tbls:=fun c ps q=>by
  obtain⟨m1,e1⟩:=a.tbls c ps q
  obtain⟨m2,e2⟩:=b.tbls c _ e1
  exact⟨m1++m2,by rw[e2,Array.append_assoc]⟩
theorem Un.kept(k:∀ b u,h.get? b=some u→h'.get? b=some u):Un fs ex H H h h' :=
 ⟨fun b ob q _ _ _=>k b ob q,fun b ob q _ _ _=>⟨ob.slots,k b ob q⟩,fun _ _ _ n _=>n,fun b ob q _=>⟨ob,k b ob q⟩,fun _ _ q=>q,fun _ _ _ q=>q,fun _ ps q=>⟨#[],by rw[q];simp⟩⟩
theorem Un.refl:Un fs ex H H h h:=Un.kept fun _ _ q=>q
theorem Un.laid(k:∀ b u,h.get? b=some u→h'.get? b=some u)(hp:h.objs.size≤a)(hn:H a=none):Un fs ex H (upd H a o) h h' where
 keep:=fun b u q _ _ _=>k b u q
 slot:=fun b u q _ _ _=>⟨u.slots,k b u q⟩
 free:=fun b u q n _=>by rw[g6 (KG (JN (Ke q) hp))];exact n
 there:=fun b u q _=>⟨u,k b u q⟩
 tups:=fun b xs q=>by rw[g6 (C7 q hn)];exact q
 frzs:=fun b u xs q=>by rw[g6 (C7 q hn)];exact q
 tbls:=fun b ps q=>⟨#[],by rw[g6 (C7 q hn),q];simp⟩
theorem Un.write(mu:Mut (H x))(he:e=x∨H e=some (.own x))(k:∀ b u,b≠e→h.get? b=some u→h'.get? b=some u)(heo:∃ u,h'.get? e=some u):Un fs ex H (upd H x o) h h':=by
 have hx:∀ b,H b=none→b≠x:=fun b n z=>by subst z;rw[n]at mu;exact mu
 have hb:∀ b,H b=none→b≠e:=fun b n z=>by
  subst z
  rcases he with r|r
  ·exact hx b n r
  ·rw[n]at r;cases r
 have hm:∀ b u,H b=some u→¬ Mut (some u)→b≠x:=fun b u q nm z=>by subst z;rw[q]at mu;exact nm mu
 refine⟨fun b u q n _ _=>k b u (hb b n) q,fun b u q n _ _=>⟨u.slots,k b u (hb b n) q⟩,fun b u q n _=>by rw[g6 (hx b n)];exact n,fun b u q _=>?_,
  fun b xs q=>by rw[g6 (hm b _ q fun z=>z)];exact q,fun b u xs q=>by rw[g6 (hm b _ q fun z=>z)];exact q,fun b ps q=>⟨#[],by rw[g6 (hm b _ q fun z=>z),q];simp⟩⟩
 by_cases hbe:b=e
 ·subst hbe;exact heo
 ·exact⟨u,k b u hbe q⟩
theorem Un.mono(u:Un fs ex H H1 h h1)(hs:∀ b∈fs,b∈fs')(hx:∀ b∈ex,b∈ex'):Un fs' ex' H H1 h h1 :=
 ⟨fun b ob q n hb he=>u.keep b ob q n (fun z=>hb (hs b z)) fun z=>he (hx b z),fun _ _ q n _ he=>u.any q n fun z=>he (hx _ z),fun b ob q n he=>u.free b ob q n fun z=>he (hx b z),fun b ob q he=>u.there b ob q fun z=>he (hx b z),u.tups,u.frzs,u.tbls⟩
end
noncomputable def trk(h:Heap)(H:Hp):List Addr:=(Mm h.objs.size).filter fun a=>(H a).isSome
noncomputable def jj(h:Heap)(H:Hp):Heap:=PySem.W.hideAll h (trk h H)
theorem rO(h:Heap)(H:Hp):(jj h H).objs.size=h.objs.size:=PySem.W.hideAll_size _ _
theorem vS{h:Heap}{H:Hp}{b:Addr}{o:Obj}(e:h.get? b=some o)(n:H b=none):(jj h H).get? b=some o :=
 PySem.W.hideAll_get _ e fun hm=>by
  have q:(H b).isSome=true:=(Mo.mp hm).2
  rw[n]at q;simp at q
theorem zl{h:Heap}{H:Hp}{b:Addr}{o:Obj}(e:(jj h H).get? b=some o):h.get? b=some o∧H b=none:=by
 have e':h.get? b=some o:=PySem.W.of_hideAll (trk h H) e
 refine⟨e',?_⟩
 cases q:H b with
 | none=>rfl
 | some x =>
  have hm:b∈trk h H:=Mo.mpr ⟨Nl.mpr (Ke e'),by simp[q]⟩
  have z:(jj h H).get? b=none:=PySem.W.hideAll_none (trk h H) hm
  rw[z]at e;cases e
noncomputable def zZ(g h:Heap)(L:Addr):List (Addr × Obj):=(Mm h.objs.size).filterMap fun a=>if a=L∨(g.get? a).isSome=true then none else(h.get? a).map fun o=>(a,o)
noncomputable def F8(g h:Heap)(L d:Addr):List (Addr × Obj):=(zZ g h L).filter fun p=>decide (p.1≠d)
structure Mod(K:JB)(mg:Str→Option Value)(base:Heap):Prop where
 kin:K.In base
 glob:base.Ns mainGlobals mg
 blt:∃ mb,base.Ns builtinsNs mb∧∀ x:Str,x ≠ "__name__" → mb x=bootBuiltins x
 nolimit:base.NoLimit
structure Cx where
 prog:Program
 w:World
 K:JB
 mg:Str→Option Value
 base:Heap
 A:Around
 N:List Str
 s₀:Shared
 H₀:Hp
 env:Env
 outer:List Env
 stack:List Env
 ex:List Addr
 fn:Str→Bool
 calm:Bool
 pn:List (Addr × Obj)
 xe:Value→Shared→Prop
noncomputable def frs(l:List Env):List Addr:=l.filterMap (·.frame)
noncomputable abbrev Cx.fs(X:Cx):List Addr:=frs X.outer
def Vis(sc:Scope)(x:Str):Prop:=sc.names.lookup x=some .local∨sc.names.lookup x=some .cell∨sc.names.lookup x=some .free
def Loc(sc:Scope)(x:Str):Prop:=sc.names.lookup x=some .local∨sc.names.lookup x=some .cell
def Hq(env:Env)(h:Heap)(m:Str→Option Value)(x:Str)(u:Value):Prop :=
 (env.kindOf x=some .local∧m x=some u)∨((env.kindOf x=some .cell∨env.kindOf x=some .free)∧∃ c,env.cells.lookup x=some c∧h.IsCell c (some u))
structure Cx.Ok(X:Cx):Prop where
 mod:Mod X.K X.mg X.base
 kind:X.env.scope.kind = .function
 glob:X.env.globals=mainGlobals
 blt:X.env.builtins=builtinsNs
 above:X.s₀.heap.objs.size≤X.env.locals
 inj:∀ x y c,X.env.cells.lookup x=some c→X.env.cells.lookup y=some c→x=y
 has:∀ x,(X.env.kindOf x=some .cell∨X.env.kindOf x=some .free)→∃ c,X.env.cells.lookup x=some c
 cab:∀ x c,X.fn x=true→X.env.cells.lookup x=some c→X.s₀.heap.objs.size≤c
 hd:X.calm=true→X.A.handled=none
 frames:X.A.frames=some X.stack
 stk:X.stack=X.outer∨(X.stack=X.env :: X.outer∧X.env.frame=some X.env.locals)
 exf:∀ b∈X.ex,b≠X.env.locals∧∀ x c,X.env.cells.lookup x=some c→c≠b
 bs:∀ b o,X.base.get? b=some o→X.s₀.heap.get? b=some o∧X.H₀ b=none
 bsz:X.base.objs.size≤X.s₀.heap.objs.size
 noex:∀ b o,X.base.get? b=some o→b∉X.ex
 exfs:∀ b∈X.ex,b∉X.fs
 funs:X.s₀.heap.FunFrames X.base X.outer
 frf:∀ b∈X.fs,X.H₀ b=none
structure Inv(X:Cx)(pins:List (Addr × Obj))(σ:List (Option V))(H:Hp)(s:Shared):Prop where
 ok:X.Ok
 os:s.os=X.s₀.os
 bare:AllBare s.gens
 base:Un X.fs X.ex X.H₀ H X.s₀.heap s.heap
 loc:∃ m,s.heap.Ns X.env.locals m∧∀(i:Nat) (x:Str) (v:V),X.N[i]? = some x→σ[i]? = some (some v)→Vis X.env.scope x→∃ u,o7 v u∧Hq X.env s.heap m x u
 cell:∀ x c,X.env.cells.lookup x=some c→∃ v,s.heap.IsCell c v
 free:H X.env.locals=none
 freeC:∀ x c,X.env.cells.lookup x=some c→H c=none
 pin:∀ p∈X.pn++pins,s.heap.get? p.1=some p.2∧H p.1=none∧p.1≠X.env.locals∧p.1∉X.fs∧∀ v,p.2.data ≠ .cell v
 hok:HOk X.prog X.w H s.heap
 len:σ.length=X.N.length
section
variable {X:Cx} {pins:List (Addr × Obj)} {σ:List (Option V)} {H H':Hp} {s:Shared} {h':Heap}
theorem Cx.Ok.nofr(ok:X.Ok){b:Addr}{o:Obj}(e:X.base.get? b=some o):b∉X.fs:=fun hb=>by
 have:=(ok.funs.mem hb).1
 rw[e]at this;cases this
theorem Inv.bs(I:Inv X pins σ H s):∀ b o,X.base.get? b=some o→s.heap.get? b=some o∧H b=none:=fun b o e =>
 ⟨I.base.keep b o (I.ok.bs b o e).1 (I.ok.bs b o e).2 (I.ok.nofr e) (I.ok.noex b o e),I.base.free b o (I.ok.bs b o e).1 (I.ok.bs b o e).2 (I.ok.noex b o e)⟩
theorem Inv.bk(I:Inv X pins σ H s):∀ b o,X.base.get? b=some o→s.heap.get? b=some o:=fun b o e=>(I.bs b o e).1
theorem Inv.mod(I:Inv X pins σ H s):Mod X.K X.mg X.base:=I.ok.mod
theorem Inv.kIn(I:Inv X pins σ H s):X.K.In s.heap:=I.ok.mod.kin.keeps I.bk
theorem Inv.nolimit(I:Inv X pins σ H s):s.heap.NoLimit:=I.ok.mod.nolimit.keeps I.bk
theorem Inv.lt(I:Inv X pins σ H s):X.env.locals<s.heap.objs.size:=let ⟨_,hn,_⟩:=I.loc;hn.lt
theorem Inv.sz(I:Inv X pins σ H s):X.s₀.heap.objs.size≤s.heap.objs.size:=JR I.ok.above (NP I.lt)
theorem Inv.nofs(I:Inv X pins σ H s){a:Addr}(h:s.heap.objs.size≤a):a∉X.fs:=fun hb=>by
 obtain⟨_,o,ho,_⟩:=I.ok.funs.mem hb
 exact absurd (JN (Ke ho) (JR I.sz h)) (Ly _)
theorem Inv.cne(I:Inv X pins σ H s):∀ x c,X.env.cells.lookup x=some c→c≠X.env.locals:=fun x c e z=>by
 obtain⟨v,o,ho,hd⟩:=I.cell x c e
 obtain⟨m,⟨o',es,ep,ho',hd',_⟩,_⟩:=I.loc
 rw[z,ho']at ho;cases ho;rw[hd']at hd;cases hd
theorem Inv.funs(I:Inv X pins σ H s):s.heap.FunFrames X.base X.outer:=by
 have all:∀(l:List Env),(∀ b∈frs l,b∈X.fs)→X.s₀.heap.FunFrames X.base l→s.heap.FunFrames X.base l:=by
  intro l
  induction l with
  | nil=>intro _ _;trivial
  | cons env r ih =>
   intro hs hl
   obtain⟨hk,⟨L,o,hf,hn,ho,hd⟩,hr⟩:=hl
   have hL:L∈X.fs:=hs L (by unfold frs;rw[Mp,hf];exact JH)
   obtain⟨sl,e⟩:=I.base.slot L o ho (I.ok.frf L hL) hL fun z=>I.ok.exfs L z hL
   exact⟨hk,⟨L,_,hf,hn,e,hd⟩,ih (fun b hb=>hs b (by unfold frs;rw[Mp,hf];exact JF _ hb)) hr⟩
 exact all X.outer (fun _ hb=>hb) I.ok.funs
theorem Inv.stack(I:Inv X pins σ H s):s.heap.FunFrames X.base X.stack:=by
 rcases I.ok.stk with e|⟨e,hf⟩
 ·rw[e];exact I.funs
 ·rw[e]
  obtain⟨m,hn,_⟩:=I.loc
  refine .cons (by rw[I.ok.kind];decide) hf hn ?_ I.funs
  exact Heap.get?_none_of_le (JR I.ok.bsz I.ok.above)
theorem Inv.stkSub(I:Inv X pins σ H s):∀ b∈frs X.stack,b∈X.env.locals :: X.fs:=fun b hb=>by
 rcases I.ok.stk with e|⟨e,hf⟩
 ·rw[e]at hb;exact JF _ hb
 ·rw[e]at hb
  unfold frs at hb
  rw[Mp,hf]at hb
  exact hb
theorem Inv.stkFree(I:Inv X pins σ H s):∀ b∈frs X.stack,H b=none:=fun b hb=>by
 rcases JJ.mp (I.stkSub b hb)with e|hb
 ·rw[e];exact I.free
 ·obtain⟨_,o,ho,_⟩:=I.ok.funs.mem hb
  exact I.base.free b o ho (I.ok.frf b hb) fun z=>I.ok.exfs b z hb
theorem Inv.step{g':Array GenState}{t':Nat}{d':Drawn}{ch:List Addr}(I:Inv X pins σ H s)
  (hch:∀ b∈ch,(b∈X.ex∨X.s₀.heap.objs.size≤b)∧b≠X.env.locals∧(∀ x c,X.env.cells.lookup x=some c→c≠b)∧∀ p∈X.pn++pins,p.1≠b)
  (keep:∀ b o,b≠X.env.locals→b∉X.fs→b∉ch→s.heap.get? b=some o→H b=none→h'.get? b=some o)
  (slot:∀ b o,b≠X.env.locals→b∈X.fs→b∉ch→s.heap.get? b=some o→H b=none→∃ sl,h'.get? b=some { o with slots:=sl }) (free:∀ b o,b∉ch→s.heap.get? b=some o→H b=none→H' b=none)
  (there:∀ b o,b∉ch→s.heap.get? b=some o→∃ o',h'.get? b=some o')
  (tups:∀ b xs,H b=some (.tup xs)→H' b=some (.tup xs)) (frzs:∀ b o u,H b=some (.frz o u)→H' b=some (.frz o u)) (tbls:∀ b ps,H b=some (.tbl ps)→∃ more,H' b=some (.tbl (ps++more)))
  (ns:∀ m,s.heap.Ns X.env.locals m→h'.Ns X.env.locals m) (hok:HOk X.prog X.w H' h') (hg:AllBare g') :
  Inv X pins σ H' { s with heap:=h',gens:=g',drawn:=d',toks:=t' }:=by
 have neL:∀ b o,X.s₀.heap.get? b=some o→b≠X.env.locals:=fun b o e=>KG (JN (Ke e) I.ok.above)
 have neC:∀ b o,X.s₀.heap.get? b=some o→b∉X.ex→b∉ch:=fun b o e hx hb=>by
  rcases(hch b hb).1 with z|z
  ·exact hx z
  ·exact absurd (JN (Ke e) z) (Ly _)
 have cellK:∀ x c,X.env.cells.lookup x=some c→∀ v,s.heap.IsCell c v→h'.IsCell c v:=fun x c e v zz=>by
  obtain⟨o,ho,hd⟩:=zz
  have nch:c∉ch:=fun z=>(hch c z).2.2.1 x c e rfl
  by_cases hc:c∈X.fs
  ·obtain⟨sl,q⟩:=slot c o (I.cne x c e) hc nch ho (I.freeC x c e)
   exact⟨_,q,hd⟩
  ·exact⟨o,keep c o (I.cne x c e) hc nch ho (I.freeC x c e),hd⟩
 refine⟨I.ok,I.os,hg,⟨fun b o e n hb hx=>?_,fun b o e n hb hx=>?_,fun b o e n hx=>?_,fun b o e hx=>?_,fun b xs e=>tups b xs (I.base.tups b xs e),fun b o xs e=>frzs b o xs (I.base.frzs b o xs e),fun b ps e=>?_⟩,?_,fun x c e=>?_,?_,fun x c e=>?_,fun p hp=>?_,hok,I.len⟩
 ·exact keep b o (neL b o e) hb (neC b o e hx) (I.base.keep b o e n hb hx) (I.base.free b o e n hx)
 ·obtain⟨sl,e1⟩:=I.base.slot b o e n hb hx
  obtain⟨sl',e2⟩:=slot b _ (neL b o e) hb (neC b o e hx) e1 (I.base.free b o e n hx)
  exact⟨sl',e2⟩
 ·obtain⟨o',e1⟩:=I.base.there b o e hx
  exact free b o' (neC b o e hx) e1 (I.base.free b o e n hx)
 ·obtain⟨o',e1⟩:=I.base.there b o e hx
  exact there b o' (neC b o e hx) e1
 ·obtain⟨m1,e1⟩:=I.base.tbls b ps e
  obtain⟨m2,e2⟩:=tbls b _ e1
  exact⟨m1++m2,by rw[e2,Array.append_assoc]⟩
 ·obtain⟨m,hn,hl⟩:=I.loc
  refine⟨m,ns m hn,fun i x v e1 e2 e3=>?_⟩
  obtain⟨u,r,l⟩:=hl i x v e1 e2 e3
  refine⟨u,r,?_⟩
  rcases l with l|⟨k,c,e,z⟩
  ·exact .inl l
  ·exact .inr ⟨k,c,e,cellK x c e _ z⟩
 ·obtain⟨v,z⟩:=I.cell x c e
  exact⟨v,cellK x c e v z⟩
 ·obtain⟨m,⟨o,_,_,ho,_⟩,_⟩:=I.loc
  exact free _ o (fun z=>(hch _ z).2.1 rfl) ho I.free
 ·obtain⟨v,o,ho,hd⟩:=I.cell x c e
  exact free c o (fun z=>(hch c z).2.2.1 x c e rfl) ho (I.freeC x c e)
 ·obtain⟨e,n,ne,nf,d⟩:=I.pin p hp
  have nch:p.1∉ch:=fun z=>(hch p.1 z).2.2.2 p hp rfl
  exact⟨keep p.1 p.2 ne nf nch e n,free p.1 p.2 nch e n,ne,nf,d⟩
theorem Inv.un{t':Nat}(I:Inv X pins σ H s)(u:Un X.fs [] H H' s.heap h')(hok:HOk X.prog X.w H' h'):Inv X pins σ H' { s with heap:=h',toks:=t' }:=by
 obtain⟨m,⟨o,es,ep,ho,r⟩,_⟩:=id I.loc
 obtain⟨sl,hL⟩:=u.any ho I.free (by simp)
 exact I.step (g':=s.gens) (d':=s.drawn) (ch:=[]) (fun _ z=>nomatch z) (fun b o _ hb _ e n=>u.keep b o e n hb (by simp)) (fun b o _ hb _ e n=>u.slot b o e n hb (by simp)) (fun b o _ e n=>u.free b o e n (by simp)) (fun b o _ e=>u.there b o e (by simp)) u.tups u.frzs u.tbls (fun m' hm=>by
  obtain⟨o',es',ep',ho',r'⟩:=hm
  rw[ho]at ho';cases ho'
  exact⟨_,es',ep',hL,r'⟩) hok I.bare
theorem Inv.call{g':Array GenState}{t':Nat}{d':Drawn}{ch:List Addr}(I:Inv X pins σ H s)(u:Un (frs X.stack) ch H H' s.heap h')(hok:HOk X.prog X.w H' h')(hg:AllBare g')
  (hch:∀ b∈ch,(b∈X.ex∨X.s₀.heap.objs.size≤b)∧b≠X.env.locals∧(∀ x c,X.env.cells.lookup x=some c→c≠b)∧∀ p∈X.pn++pins,p.1≠b) :
  Inv X pins σ H' { s with heap:=h',gens:=g',drawn:=d',toks:=t' }:=by
 obtain⟨m,⟨o,es,ep,ho,r⟩,_⟩:=id I.loc
 obtain⟨sl,hL⟩:=u.any ho I.free fun z=>(hch _ z).2.1 rfl
 exact I.step (ch:=ch) hch (fun b o hL hb hc e n=>u.keep b o e n (fun z=>(JJ.mp (I.stkSub b z)).elim hL hb) hc) (fun b o _ _ hc e n=>u.any e n hc) (fun b o hc e n=>u.free b o e n hc) (fun b o hc e=>u.there b o e hc) u.tups u.frzs u.tbls (fun m' hm=>by
  obtain⟨o',es',ep',ho',r'⟩:=hm
  rw[ho]at ho';cases ho'
  exact⟨_,es',ep',hL,r'⟩) hok hg
theorem Inv.turned{t':Nat}{it:Addr}(I:Inv X pins σ H s)(k:∀ b o,b≠it→s.heap.get? b=some o→h'.get? b=some o)(hn:H it=none)(hL:it≠X.env.locals)
  (h1:it∈X.ex∨X.s₀.heap.objs.size≤it) (h2:∀ x c,X.env.cells.lookup x=some c→c≠it) (h3:∀ p∈X.pn++pins,p.1≠it):Inv X pins σ H { s with heap:=h',toks:=t' }:=by
 have nit:∀ b u,H b=some u→b≠it:=fun b u e z=>by rw[z,hn]at e;cases e
 refine I.step (g':=s.gens) (d':=s.drawn) (ch:=[it]) (fun b hb=>?_) (fun b o _ _ hc e _=>k b o (fun z=>hc (by simp[z])) e) (fun b o _ _ hc e _=>⟨o.slots,k b o (fun z=>hc (by simp[z])) e⟩) (fun _ _ _ _ n=>n)
  (fun b o hc e=>⟨o,k b o (fun z=>hc (by simp[z])) e⟩) (fun _ _ e=>e) (fun _ _ _ e=>e) (fun b ps e=>⟨#[],by rw[e];simp⟩) (fun m hm=>?_) (fun b u e=>?_) I.bare
 ·have e:b=it:=by simpa using hb
  subst e
  exact⟨h1,hL,h2,h3⟩
 ·obtain⟨o,es,ep,ho,r⟩:=hm
  exact⟨o,es,ep,k _ o (Ne.symm hL) ho,r⟩
 ·refine(I.hok b u e).stay (fun c v hc q=>k c v ?_ q) (fun _ q=>q) fun _ _ q=>q
  rcases hc with z|z
  ·rw[z];exact nit b u e
  ·exact nit c _ z
theorem Inv.tok(I:Inv X pins σ H s)(t:Nat):Inv X pins σ H { s with toks:=t }:=I.un (h':=s.heap) (t':=t) Un.refl I.hok
theorem Inv.kept{t':Nat}(I:Inv X pins σ H s)(k:∀ b u,s.heap.get? b=some u→h'.get? b=some u):Inv X pins σ H { s with heap:=h',toks:=t' }:=I.un (Un.kept k) (I.hok.kept k)
theorem Inv.laid{a:Addr}{o:HO}{t':Nat}(I:Inv X pins σ H s)(k:∀ b u,s.heap.get? b=some u→h'.get? b=some u)(hp:s.heap.objs.size≤a)(new:B2 X.prog X.w (upd H a o) h' a o) :
  Inv X pins σ (upd H a o) { s with heap:=h',toks:=t' }:=I.un (Un.laid k hp (I.hok.fresh hp)) (I.hok.laid k hp new)
theorem Inv.write{x e:Addr}{o:HO}{t':Nat}(I:Inv X pins σ H s)(mu:Mut (H x))(he:e=x∨H e=some (.own x))(k:∀ b u,b≠e→s.heap.get? b=some u→h'.get? b=some u)(heo:∃ u,h'.get? e=some u)
  (new:B2 X.prog X.w (upd H x o) h' x o):Inv X pins σ (upd H x o) { s with heap:=h',toks:=t' }:=I.un (Un.write mu he k heo) (I.hok.write mu he k heo new)
theorem Inv.pins_of{pins':List (Addr × Obj)}(I:Inv X pins σ H s)(h:∀ p∈pins',s.heap.get? p.1=some p.2∧H p.1=none∧p.1≠X.env.locals∧p.1∉X.fs∧∀ v,p.2.data ≠ .cell v):Inv X pins' σ H s :=
 ⟨I.ok,I.os,I.bare,I.base,I.loc,I.cell,I.free,I.freeC,fun p hp=>(Kf.mp hp).elim (fun z=>I.pin p (KZ _ z)) (h p),I.hok,I.len⟩
theorem lu{N:List Str}(hN:N.Nodup){i j:Nat}{x:Str}(a:N[i]? = some x)(b:N[j]? = some x):i=j:=by
 obtain⟨h1,e1⟩:=JV.mp a
 obtain⟨h2,e2⟩:=JV.mp b
 exact(List.getElem_inj hN).mp (e1.trans e2.symm)
theorem gg{M:Model}{A:Around}{E:Value→Shared→Prop}{i:Nat}{x:Str}{v:V}{u:Value}{Q:Unit→Shared→Prop}(I:Inv X pins σ H s)(hN:X.N.Nodup)(hi:X.N[i]? = some x)(hx:Loc X.env.scope x)(r:o7 v u)
  (h:∀ s',Inv X pins (σ.set i (some v)) H s'→(∃ a,Heap.SameBut a s.heap s'.heap∧(a=X.env.locals∨X.env.cells.lookup x=some a))→Q () s') (hf:X.fn x=true∨X.env.scope.names.lookup x=some .local:=by first|exact .inl rfl|exact .inr rfl|assumption):wpAny M A (storeName X.env x u) Q E s:=by
 obtain⟨m,hn,hl⟩:=id I.loc
 have hcls:(X.env.scope.kind == .class || (X.env.scope.kind == .module && X.env.locals != X.env.globals))=false:=by rw[I.ok.kind];rfl
 have hiσ:i<σ.length:=by rw[I.len];exact(JV.mp hi).1
 have cne:=I.cne
 have tracked:∀{a:Addr} {h':Heap},(∃ o,s.heap.get? a=some o∧H a=none)→Heap.SameBut a s.heap h'→HOk X.prog X.w H h':=fun{a h'} ha hs b ob e=>by
  obtain⟨_,_,hfree⟩:=ha
  refine(I.hok b ob e).stay (fun c w' hc q=>(hs.2 c ?_).trans q) (fun _ q=>q) fun _ _ q=>q
  rintro rfl
  rcases hc with rfl|hc
  ·rw[hfree]at e;cases e
  ·rw[hfree]at hc;cases hc
 rcases hx with hk|hk
 ·refine wpAny_storeName_local hk hn (fun h' hn' hs=>?_) hcls
  obtain⟨oL,_,_,hoL,_⟩:=id hn
  refine h _ ⟨I.ok,I.os,I.bare,⟨fun b o e n hb hx=>?_,fun b o e n hb hx=>?_,I.base.free,fun b o e hx=>?_,I.base.tups,I.base.frzs,I.base.tbls⟩,⟨_,hn',fun j y v' e1 e2 e3=>?_⟩,fun y c e=>?_,I.free,I.freeC,fun p hp=>?_,tracked ⟨oL,hoL,I.free⟩ hs,by simpa using I.len⟩ ⟨_,hs,.inl rfl⟩
  ·exact(hs.2 b (KG (JN (Ke e) I.ok.above))).trans (I.base.keep b o e n hb hx)
  ·obtain⟨sl,e1⟩:=I.base.slot b o e n hb hx
   exact⟨sl,(hs.2 b (KG (JN (Ke e) I.ok.above))).trans e1⟩
  ·obtain⟨o',e1⟩:=I.base.there b o e hx
   exact⟨o',(hs.2 b (KG (JN (Ke e) I.ok.above))).trans e1⟩
  ·by_cases hj:j=i
   ·subst hj
    rw[hi]at e1;cases e1
    rw[MR hiσ]at e2
    cases e2
    exact⟨u,r,.inl ⟨hk,by simp⟩⟩
   ·rw[Ni (Ne.symm hj)]at e2
    obtain⟨u',r',q⟩:=hl j y v' e1 e2 e3
    refine⟨u',r',?_⟩
    rcases q with⟨k,e⟩|⟨k,c,e,z⟩
    ·refine .inl ⟨k,?_⟩
     have:y≠x:=fun e=>hj (lu hN e1 (e▸hi))
     simp[this,e]
    ·exact .inr ⟨k,c,e,z.sameBut hs (cne y c e)⟩
  ·obtain⟨w',z⟩:=I.cell y c e
   exact⟨w',z.sameBut hs (cne y c e)⟩
  ·obtain⟨e,n,ne,nf,d⟩:=I.pin p hp
   exact⟨(hs.2 p.1 ne).trans e,n,ne,nf,d⟩
 ·have hfn:X.fn x=true:=by
   rcases hf with z|z
   ·exact z
   ·rw[z]at hk;cases hk
  obtain⟨c,hc⟩:=I.ok.has x (.inl hk)
  obtain⟨w',z⟩:=I.cell x c hc
  refine wpAny_storeName_cell I.ok.kind hk hc z (fun h' hc' hs=>?_)
  obtain⟨oc,hoc,hocd⟩:=id z
  refine h { s with heap:=h' } ⟨I.ok,I.os,I.bare,⟨fun b o e n hb hx=>?_,fun b o e n hb hx=>?_,I.base.free,fun b o e hx=>?_,I.base.tups,I.base.frzs,I.base.tbls⟩,⟨m,hn.sameBut hs (Ne.symm (cne x c hc)),fun j y v' e1 e2 e3=>?_⟩,fun y c' e=>?_,I.free,I.freeC,fun p hp=>?_,tracked ⟨oc,hoc,I.freeC x c hc⟩ hs,by simpa using I.len⟩ ⟨c,hs,.inr hc⟩
  ·exact(hs.2 b (KG (JN (Ke e) (I.ok.cab x c hfn hc)))).trans (I.base.keep b o e n hb hx)
  ·obtain⟨sl,e1⟩:=I.base.slot b o e n hb hx
   exact⟨sl,(hs.2 b (KG (JN (Ke e) (I.ok.cab x c hfn hc)))).trans e1⟩
  ·obtain⟨o',e1⟩:=I.base.there b o e hx
   exact⟨o',(hs.2 b (KG (JN (Ke e) (I.ok.cab x c hfn hc)))).trans e1⟩
  ·by_cases hj:j=i
   ·subst hj
    rw[hi]at e1;cases e1
    rw[MR hiσ]at e2
    cases e2
    exact⟨u,r,.inr ⟨.inl hk,c,hc,hc'⟩⟩
   ·rw[Ni (Ne.symm hj)]at e2
    obtain⟨u',r',q⟩:=hl j y v' e1 e2 e3
    refine⟨u',r',?_⟩
    rcases q with q|⟨k,c',e,z'⟩
    ·exact .inl q
    ·refine .inr ⟨k,c',e,z'.sameBut hs ?_⟩
     rintro rfl
     exact hj (lu hN e1 (I.ok.inj _ _ _ e hc▸hi))
  ·by_cases hcc:c'=c
   ·subst hcc;exact⟨_,hc'⟩
   ·obtain⟨w2,z2⟩:=I.cell y c' e
    exact⟨w2,z2.sameBut hs hcc⟩
  ·obtain⟨e,n,ne,nf,d⟩:=I.pin p hp
   refine⟨(hs.2 p.1 ?_).trans e,n,ne,nf,d⟩
   intro q
   rw[q,hoc]at e
   have q':oc=p.2:=Option.some.inj e
   exact d w' (by rw[← q'];exact hocd)
theorem Y8{M:Model}{A:Around}{E:Value→Shared→Prop}{i:Nat}{x:Str}{v:V}{u:Value}{Q:Unit→Shared→Prop}(I:Inv X pins σ H s)(hN:X.N.Nodup)(hi:X.N[i]? = some x)(hx:Loc X.env.scope x)(r:o7 v u)
  (h:∀ s',Inv X pins (σ.set i (some v)) H s'→Q () s') (hf:X.fn x=true∨X.env.scope.names.lookup x=some .local:=by first|exact .inl rfl|exact .inr rfl|assumption):wpAny M A (storeName X.env x u) Q E s :=
 gg I hN hi hx r (fun s' I' _=>h s' I') hf
theorem Inv.call'{s':Shared}{ch:List Addr}(I:Inv X pins σ H s)(ho:s'.os=s.os)(u:Un (frs X.stack) ch H H' s.heap s'.heap)(hok:HOk X.prog X.w H' s'.heap)(hg:AllBare s'.gens)
  (hch:∀ b∈ch,(b∈X.ex∨X.s₀.heap.objs.size≤b)∧b≠X.env.locals∧(∀ x c,X.env.cells.lookup x=some c→c≠b)∧∀ p∈X.pn++pins,p.1≠b):Inv X pins σ H' s':=by
 obtain⟨h',g',d',t',o'⟩:=s'
 have e:o'=s.os:=ho
 subst e
 exact I.call (g':=g') (t':=t') (d':=d') u hok hg hch
end
noncomputable abbrev XK:=Value→Option Addr→Hp→Prop
noncomputable abbrev St:=List (Option V)
noncomputable abbrev VK:=V→Hp→Prop
noncomputable abbrev TE:=St→Hp→VK→Prop
noncomputable abbrev TT:=St→Hp→(Bool→Hp→Prop)→Prop
noncomputable abbrev TA:=St→Hp→(List V→Hp→Prop)→Prop
structure ml where
 nx:St→Hp→Prop
 rt:VK
 bk:St→Hp→Prop:=fun _ _=>False
 ct:St→Hp→Prop:=fun _ _=>False
noncomputable abbrev TS:=ml→St→Hp→Prop
def EP(X:Cx)(pins:List (Addr × Obj))(σ:St)(Q:VK)(u:Value)(s':Shared):Prop:=∃ v H',Inv X pins σ H' s'∧o7 v u∧Q v H'
def TP(X:Cx)(pins:List (Addr × Obj))(σ:St)(Q:Bool→Hp→Prop)(b:Bool)(s':Shared):Prop:=∃ H',Inv X pins σ H' s'∧Q b H'
def AP(X:Cx)(pins:List (Addr × Obj))(σ:St)(Q:List V→Hp→Prop)(us:List Value)(s':Shared):Prop:=∃ vs H',Inv X pins σ H' s'∧i8 vs us∧Q vs H'
def SP(X:Cx)(pins:List (Addr × Obj))(D:ml)(f:Flow)(s':Shared):Prop :=
 match f with
 | .next=>∃ σ' H',Inv X pins σ' H' s'∧D.nx σ' H'
 | .brk=>∃ σ' H',Inv X pins σ' H' s'∧D.bk σ' H'
 | .cont=>∃ σ' H',Inv X pins σ' H' s'∧D.ct σ' H'
 | .ret u=>∃ v σ' H',Inv X pins σ' H' s'∧o7 v u∧D.rt v H'
def PE(X:Cx)(e:Expr)(t:TE):Prop :=
 ∀(pins:List (Addr × Obj)) (s:Shared) (σ:St) (H:Hp) (Q:VK),Inv X pins σ H s→t σ H Q→wpAny (model X.prog X.w) X.A (eval e X.env) (EP X pins σ Q) X.xe s
def PT(X:Cx)(e:Expr)(t:TT):Prop :=
 ∀(pins:List (Addr × Obj)) (s:Shared) (σ:St) (H:Hp) (Q:Bool→Hp→Prop),Inv X pins σ H s→t σ H Q→wpAny (model X.prog X.w) X.A (isTrue e X.env (eval e X.env)) (TP X pins σ Q) X.xe s
def PW(X:Cx)(e:Expr)(t:TT):Prop :=
 ∀(whole:Sem Value) (pins:List (Addr × Obj)) (s:Shared) (σ:St) (H:Hp) (Q:Bool→Hp→Prop),Inv X pins σ H s→t σ H Q→wpAny (model X.prog X.w) X.A (isTrue e X.env whole) (TP X pins σ Q) X.xe s
theorem PW.pt{X:Cx}{e:Expr}{t:TT}(h:PW X e t):PT X e t:=h _
def PA(X:Cx)(es:List Expr)(t:TA):Prop :=
 ∀(pos:Pos) (pins:List (Addr × Obj)) (s:Shared) (σ:St) (H:Hp) (Q:List V→Hp→Prop),Inv X pins σ H s→t σ H Q→wpAny (model X.prog X.w) X.A (spliced (backTo pos (starEach es X.env))) (AP X pins σ Q) X.xe s
def PS(X:Cx)(st:Stmt)(t:TS):Prop :=
 ∀(pins:List (Addr × Obj)) (s:Shared) (σ:St) (H:Hp) (D:ml),Inv X pins σ H s→t D σ H→wpAny (model X.prog X.w) X.A (exec st X.env) (SP X pins D) X.xe s
def PSs(X:Cx)(st:List Stmt)(t:TS):Prop :=
 ∀(pins:List (Addr × Obj)) (s:Shared) (σ:St) (H:Hp) (D:ml),Inv X pins σ H s→t D σ H→wpAny (model X.prog X.w) X.A (execs st X.env) (SP X pins D) X.xe s
theorem thn{α:Type}{t:Sem α}{Q Q':α→Shared→Prop}{M:Model}{A:Around}{E:Value→Shared→Prop}{s:Shared}(h:wpAny M A t Q E s)(hQ:∀ a s,Q a s→Q' a s):wpAny M A t Q' E s:=wpAny_mono h hQ fun _ _ x=>x
section
variable {X:Cx}
def GG(i:Nat):TE:=fun σ H Q=>∃ v,σ[i]? = some (some v)∧Q v H
def tC(v:V):TE:=fun _ H Q=>Q v H
theorem CL{i:Nat}{x:Str}{pos:Pos}(hN:X.N[i]? = some x)(hv:Vis X.env.scope x)(hd:(x == ("__debug__" : Str))=false:=by decide)(hcd:(x == ("__classdict__" : Str))=false:=by decide):PE X (.Name x pos) (GG i):=by
 intro pins s σ H Q I h
 obtain⟨v,e,h⟩:=h
 obtain⟨m,hn,hl⟩:=I.loc
 obtain⟨u,r,l⟩:=hl i x v hN e hv
 have fin:EP X pins σ Q u s:=⟨v,H,I,r,h⟩
 rcases l with⟨hk,hm⟩|⟨hk,c,hc,hcell⟩
 ·exact wpAny_Name (wpAny_loadName_local I.ok.kind hk hn hm fin) hd
 ·rcases hk with hk|hk
  ·exact wpAny_Name (wpAny_loadName_cell I.ok.kind hk hc hcell fin) hd
  ·exact wpAny_Name (wpAny_loadName_free I.ok.kind hk hc hcell fin hcd) hd
theorem CS{i j pos}:PE X (.Constant (.int i) j pos) (tC (.int i)):=fun _ _ _ H _ I h=>wpAny_Constant_int ⟨.int i,H,I.tok _,⟨_,rfl⟩,h⟩
theorem Fq{b j pos}:PE X (.Constant (.bool b) j pos) (tC (.bl b)):=fun _ _ _ H _ I h=>Constant_bool ⟨.bl b,H,I,rfl,h⟩
theorem CQ{j pos}:PE X (.Constant .none j pos) (tC .non):=fun _ _ _ H _ I h=>Constant_none ⟨.non,H,I,rfl,h⟩
theorem CN{x j pos}:PE X (.Constant (.str x) j pos) (tC (.str x)):=fun _ _ _ H _ I h=>Calls.Constant_str ⟨.str x,H,I.tok _,⟨_,rfl⟩,h⟩
def Gl(X:Cx)(x:Str):Prop:=X.env.kindOf x=some .globalImplicit
theorem qe{E:Value→Shared→Prop}{pins:List (Addr × Obj)}{s:Shared}{σ:St}{H:Hp}{x:Str}{u:Value}{pos:Pos}{Q:Value→Shared→Prop}(I:Inv X pins σ H s)(hg:Gl X x)(hm:X.mg x=some u)(h:Q u s)
  (hd:(x == ("__debug__" : Str))=false:=by decide):wpAny (model X.prog X.w) X.A (eval (.Name x pos) X.env) Q E s :=
 Calls.Name_function_global I.ok.kind hg (Calls.loadGlobal_global (by rw[I.ok.glob];exact I.mod.glob.keeps I.bk) hm h) hd
theorem aX{E:Value→Shared→Prop}{pins:List (Addr × Obj)}{s:Shared}{σ:St}{H:Hp}{x:Str}{u:Value}{pos:Pos}{Q:Value→Shared→Prop}(I:Inv X pins σ H s)(hg:Gl X x)(hm:X.mg x=none)(hv:bootBuiltins x=some u)(h:Q u s)
  (hn:x ≠ "__name__" := by decide) (hd:(x == ("__debug__" : Str))=false:=by decide):wpAny (model X.prog X.w) X.A (eval (.Name x pos) X.env) Q E s:=by
 obtain⟨mb,h1,h2⟩:=I.mod.blt
 exact Calls.Name_function_global I.ok.kind hg (Calls.loadGlobal_builtin (by rw[I.ok.glob];exact I.mod.glob.keeps I.bk) hm (by rw[I.ok.blt];exact h1.keeps I.bk) ((h2 x hn).trans hv) h) hd
theorem yM{x:Str}{v:V}{u:Value}{pos:Pos}(hg:Gl X x)(hm:X.mg x=some u)(r:o7 v u)(hd:(x == ("__debug__" : Str))=false:=by decide):PE X (.Name x pos) (tC v) :=
 fun _ _ _ H _ I h=>qe I hg hm ⟨v,H,I,r,h⟩ hd
theorem yR{x:Str}{v:V}{u:Value}{pos:Pos}(hg:Gl X x)(hm:X.mg x=none)(hv:bootBuiltins x=some u)(r:o7 v u)(hn:x ≠ "__name__" := by decide)(hd:(x == ("__debug__" : Str))=false:=by decide):PE X (.Name x pos) (tC v) :=
 fun _ _ _ H _ I h=>aX I hg hm hv ⟨v,H,I,r,h⟩ hn hd
variable {a b:Expr} {ta tb:TE} {pos:Pos}
theorem o7.none_iff{x:V}{v:Value}(r:o7 x v):(v == Value.none)=decide (x = .non):=by
 cases x with
 | non=>cases r;rfl
 | bl _=>cases r;rfl
 | int _=>obtain⟨t,rfl⟩:=r;rfl
 | str _=>obtain⟨t,rfl⟩:=r;rfl
 | byt _=>obtain⟨t,rfl⟩:=r;rfl
 | flt _=>obtain⟨t,rfl⟩:=r;rfl
 | ref _=>cases r;rfl
 | ty _=>cases r;rfl
def tB(t:TE):TT:=fun σ H Q=>t σ H fun x H1=>∃ c,x = .bl c∧Q c H1
theorem Cy{e:Expr}{t:TE}(h:PE X e t)(he:∀ whole,isTrue e X.env whole=(do let v ← whole;standAt e.pos;holding [v] (truthy v)):=by intro _;rfl):PT X e (tB t):=by
 intro pins s σ H Q I hw
 refine isTrue_plain (thn (h pins s σ H _ I hw) fun v s1 ⟨x,H1,I1,r1,q1⟩=>?_) (he _)
 obtain⟨d,rfl,q⟩:=q1
 cases r1
 exact wpAny_truthy_bool ⟨H1,I1,q⟩
variable {tA tB':TT} {F8:List Expr}
def GR(t u:TT):TT:=fun σ H Q=>t σ H fun c H1=>if c=true then u σ H1 Q else Q false H1
def tOr(t u:TT):TT:=fun σ H Q=>t σ H fun c H1=>if c=true then Q true H1 else u σ H1 Q
def GL(t:TT):TT:=fun σ H Q=>t σ H fun c H1=>Q (!c) H1
theorem yA(ha:PT X a tA):PW X (.BoolOp .And [a] pos) tA:=by
 intro wh pins s σ H Q I h
 refine isTrue_and (thn (ha pins s σ H Q I h) fun c s1 e=>?_)
 cases c with
 | true=>exact isTrue_and_nil e
 | false=>exact e
theorem Cu(ha:PT X a tA):PW X (.BoolOp .Or [a] pos) tA:=by
 intro wh pins s σ H Q I h
 refine isTrue_or (thn (ha pins s σ H Q I h) fun c s1 e=>?_)
 cases c with
 | false=>exact isTrue_or_nil e
 | true=>exact e
theorem Cv(ha:PT X a tA)(hb:PW X (.BoolOp .And (b :: F8) pos) tB'):PW X (.BoolOp .And (a :: b :: F8) pos) (GR tA tB'):=by
 intro wh pins s σ H Q I h
 refine isTrue_and (thn (ha pins s σ H _ I h) fun c s1 zz=>?_)
 obtain⟨H1,I1,q1⟩:=zz
 cases c with
 | true=>exact hb wh pins s1 σ H1 Q I1 q1
 | false=>exact⟨H1,I1,q1⟩
theorem Fj(ha:PT X a tA)(hb:PW X (.BoolOp .Or (b :: F8) pos) tB'):PW X (.BoolOp .Or (a :: b :: F8) pos) (tOr tA tB'):=by
 intro wh pins s σ H Q I h
 refine isTrue_or (thn (ha pins s σ H _ I h) fun c s1 zz=>?_)
 obtain⟨H1,I1,q1⟩:=zz
 cases c with
 | true=>exact⟨H1,I1,q1⟩
 | false=>exact hb wh pins s1 σ H1 Q I1 q1
theorem Cz(ha:PT X a tA):PT X (.UnaryOp .Not a pos) (GL tA):=by
 intro pins s σ H Q I h
 exact isTrue_not (ha pins s σ H (fun c H1=>Q (!c) H1) I h)
def Fb(ta tb:TE):TE:=fun σ H Q=>ta σ H fun x H1=>∃ c,x = .bl c∧if c=true then tb σ H1 Q else Q (.bl false) H1
def ER(ta:TE):TE:=fun σ H Q=>ta σ H fun x H1=>∃ c,x = .bl c∧Q (.bl (!c)) H1
theorem CO{op}{t:TE}(h:PE X a t):PE X (.BoolOp op [a] pos) t:=fun pins s σ H Q I hw=>BoolOp_one (h pins s σ H Q I hw)
theorem CT(ha:PE X a ta)(hb:PE X (.BoolOp .And (b :: F8) pos) tb):PE X (.BoolOp .And (a :: b :: F8) pos) (Fb ta tb):=by
 intro pins s σ H Q I h
 refine BoolOp_and (thn (ha pins s σ H _ I h) fun v s1 zz=>?_)
 obtain⟨x,H1,I1,r1,q1⟩:=zz
 obtain⟨c,rfl,q1⟩:=q1
 cases r1
 refine wpAny_truthy_bool ?_
 cases c with
 | true=>exact hb pins s1 σ H1 Q I1 q1
 | false=>exact⟨.bl false,H1,I1,rfl,q1⟩
theorem CP(ha:PE X a ta):PE X (.UnaryOp .Not a pos) (ER ta):=by
 intro pins s σ H Q I h
 refine UnaryOp_ (thn (ha pins s σ H _ I h) fun v s1 zz=>?_)
 obtain⟨x,H1,I1,r1,q1⟩:=zz
 obtain⟨c,rfl,q1⟩:=q1
 cases r1
 exact not_of (wpAny_truthy_bool ⟨.bl (!c),H1,I1,rfl,q1⟩)
def tIf(t:TT)(ta tb:TE):TE:=fun σ H Q=>t σ H fun c H1=>if c=true then ta σ H1 Q else tb σ H1 Q
theorem vg{c:Expr}(hc:PT X c tA)(ha:PE X a ta)(hb:PE X b tb):PE X (.IfExp c a b pos) (tIf tA ta tb):=by
 intro pins s σ H Q I h
 refine wpAny_IfExp (thn (hc pins s σ H _ I h) fun d s1 zz=>?_)
 obtain⟨H1,I1,q1⟩:=zz
 cases d with
 | true=>exact ha pins s1 σ H1 Q I1 q1
 | false=>exact hb pins s1 σ H1 Q I1 q1
end
def SqL(K:JB)(H:Hp)(a:Addr)(xs:List V):Prop :=
 Rd H a (.lst xs) ∨
  ∃(o:Obj) (its:Array Value) (n:Nat),K.lookup a=some o∧o.cls = .type "list" ∧ o.dict=none∧o.data = .seq its n∧its.size≤sizeLine∧i8 xs its.toList
def SqT(K:JB)(H:Hp)(a:Addr)(xs:List V):Prop :=
 Rd H a (.tup xs) ∨
  ∃(o:Obj) (its:Array Value) (n:Nat),K.lookup a=some o∧o.cls = .type "tuple" ∧ o.data = .seq its n∧its.size≤sizeLine∧i8 xs its.toList
noncomputable def Ho:Value→Option V
 | .none=>some .non
 | .bool b=>some (.bl b)
 | .int i _=>some (.int i)
 | .str x _=>some (.str x)
 | .bytes b _=>some (.byt b)
 | .float b _=>some (.flt b)
 | .ref a=>some (.ref a)
 | .type n=>some (.ty n)
 | _=>none
theorem o7.abs{x:V}{u:Value}(r:o7 x u):Ho u=some x:=by
 cases x with
 | non=>cases r;rfl
 | bl _=>cases r;rfl
 | int _=>obtain⟨t,rfl⟩:=r;rfl
 | str _=>obtain⟨t,rfl⟩:=r;rfl
 | byt _=>obtain⟨t,rfl⟩:=r;rfl
 | flt _=>obtain⟨t,rfl⟩:=r;rfl
 | ref _=>cases r;rfl
 | ty _=>cases r;rfl
theorem o7.inj{x y:V}{u:Value}(r:o7 x u)(q:o7 y u):x=y:=Option.some.inj (r.abs.symm.trans q.abs)
theorem i8.inj:∀{xs ys:List V} {us:List Value},i8 xs us→i8 ys us→xs=ys
 | _,_,_,.nil,.nil=>rfl
 | _,_,_,.cons r t,.cons r' t'=>by rw[r.inj r',i8.inj t t']
section
variable {X:Cx} {pins:List (Addr × Obj)} {σ:St} {H:Hp} {s:Shared} {a:Addr} {xs ys:List V}
theorem SqL.of{K:JB}(h:H a=some (.lst xs)):SqL K H a xs:=.inl (.inl h)
theorem SqT.of{K:JB}(h:H a=some (.tup xs)):SqT K H a xs:=.inl (.inl h)
theorem Inv.list(I:Inv X pins σ H s)(h:SqL X.K H a xs):∃ its:List Value,i8 xs its∧PlainL s.heap a its.toArray∧xs.length≤sizeLine:=by
 rcases h with h|⟨o,its,n,hk,hc,hd,hs,hz,r⟩
 ·obtain⟨z,its,n,r,e⟩:=h.ok I.hok
  exact⟨its,r,⟨_,n,e,rfl,rfl,rfl⟩,z⟩
 ·refine⟨its.toList,r,⟨o,n,I.kIn a o hk,hc,hd,by simpa using hs⟩,?_⟩
  have e:=r.length
  simp only[Array.length_toList]at e
  omega
theorem Inv.tuple(I:Inv X pins σ H s)(h:SqT X.K H a xs):∃ its:List Value,i8 xs its∧IsTup s.heap a its.toArray∧xs.length≤sizeLine:=by
 rcases h with h|⟨o,its,n,hk,hc,hs,hz,r⟩
 ·obtain⟨z,its,r,p⟩:=h.ok I.hok
  exact⟨its,r,p,z⟩
 ·refine⟨its.toList,r,⟨o,I.kIn a o hk,hc,n,by simpa using hs⟩,?_⟩
  have e:=r.length
  simp only[Array.length_toList]at e
  omega
theorem Inv.list_inj(I:Inv X pins σ H s)(h:SqL X.K H a xs)(h':SqL X.K H a ys):xs=ys:=by
 obtain⟨its,r,⟨o,n,e,_,_,d⟩,_⟩:=I.list h
 obtain⟨its',r',⟨o',n',e',_,_,d'⟩,_⟩:=I.list h'
 rw[e]at e';cases e'
 rw[d]at d'
 injection d' with d1 _
 have:its=its':=by simpa using congrArg Array.toList d1
 subst this
 exact r.inj r'
theorem Inv.tuple_inj(I:Inv X pins σ H s)(h:SqT X.K H a xs)(h':SqT X.K H a ys):xs=ys:=by
 obtain⟨its,r,⟨o,e,_,n,d⟩,_⟩:=I.tuple h
 obtain⟨its',r',⟨o',e',_,n',d'⟩,_⟩:=I.tuple h'
 rw[e]at e';cases e'
 rw[d]at d'
 injection d' with d1 _
 have:its=its':=by simpa using congrArg Array.toList d1
 subst this
 exact r.inj r'
end
noncomputable abbrev Cx.wish(X:Cx)(E:Value→Shared→Prop):Cx:={ X with xe:=E }
noncomputable abbrev Cx.nox(X:Cx):Cx:=X.wish fun _ _=>False
theorem Cx.Ok.wish{X:Cx}(ok:X.Ok)(E:Value→Shared→Prop):(X.wish E).Ok :=
 ⟨ok.mod,ok.kind,ok.glob,ok.blt,ok.above,ok.inj,ok.has,ok.cab,ok.hd,ok.frames,ok.stk,ok.exf,ok.bs,ok.bsz,ok.noex,ok.exfs,ok.funs,ok.frf⟩
theorem Cx.Ok.unwish{X:Cx}{E:Value→Shared→Prop}(ok:(X.wish E).Ok):X.Ok :=
 ⟨ok.mod,ok.kind,ok.glob,ok.blt,ok.above,ok.inj,ok.has,ok.cab,ok.hd,ok.frames,ok.stk,ok.exf,ok.bs,ok.bsz,ok.noex,ok.exfs,ok.funs,ok.frf⟩
section
variable {X:Cx} {pins:List (Addr × Obj)} {σ:St} {H:Hp} {s:Shared} {E:Value→Shared→Prop}
theorem Inv.wish(I:Inv X pins σ H s)(E:Value→Shared→Prop):Inv (X.wish E) pins σ H s:=⟨I.ok.wish E,I.os,I.bare,I.base,I.loc,I.cell,I.free,I.freeC,I.pin,I.hok,I.len⟩
theorem Inv.unwish(I:Inv (X.wish E) pins σ H s):Inv X pins σ H s:=⟨I.ok.unwish,I.os,I.bare,I.base,I.loc,I.cell,I.free,I.freeC,I.pin,I.hok,I.len⟩
theorem SP.unwish{D:ml}{f:Flow}{s':Shared}(h:SP (X.wish E) pins D f s'):SP X pins D f s':=by
 cases f with
 | next=>obtain⟨σ',H',I,q⟩:=h;exact⟨σ',H',I.unwish,q⟩
 | brk=>obtain⟨σ',H',I,q⟩:=h;exact⟨σ',H',I.unwish,q⟩
 | cont=>obtain⟨σ',H',I,q⟩:=h;exact⟨σ',H',I.unwish,q⟩
 | ret u=>obtain⟨v,σ',H',I,r,q⟩:=h;exact⟨v,σ',H',I.unwish,r,q⟩
theorem PE.nox{e:Expr}{t:TE}(h:PE X.nox e t):PE X e t:=fun pins s σ H Q I hw =>
 wpAny_mono (h pins s σ H Q (I.wish _) hw) (fun _ _ ⟨v,H',I',r,q⟩=>⟨v,H',I'.unwish,r,q⟩) fun _ _ z=>False.elim z
theorem PT.nox{e:Expr}{t:TT}(h:PT X.nox e t):PT X e t:=fun pins s σ H Q I hw =>
 wpAny_mono (h pins s σ H Q (I.wish _) hw) (fun _ _ ⟨H',I',q⟩=>⟨H',I'.unwish,q⟩) fun _ _ z=>False.elim z
theorem PSs.nox{st:List Stmt}{t:TS}(h:PSs X.nox st t):PSs X st t:=fun pins s σ H D I hw =>
 wpAny_mono (h pins s σ H D (I.wish _) hw) (fun _ _ q=>q.unwish) fun _ _ z=>False.elim z
end
section
variable {X:Cx} {st:Stmt} {F8:List Stmt} {t u:TS} {e:Expr} {te:TE} {pos:Pos}
def ES:TS:=fun D σ H=>D.nx σ H
def GI(t u:TS):TS:=fun D σ H=>t { D with nx:=u D } σ H
theorem yD:PSs X [] ES:=fun _ _ σ H _ I h=>wpAny_execs_nil ⟨σ,H,I,h⟩
theorem kN(h1:PS X st t)(h2:PSs X F8 u):PSs X (st :: F8) (GI t u):=by
 intro pins s σ H D I h
 refine wpAny_execs_cons (thn (h1 pins s σ H { D with nx:=u D } I h) fun f s1 q=>?_)
 cases f with
 | next =>
  obtain⟨σ',H',I',q⟩:=q
  exact h2 pins s1 σ' H' D I' q
 | ret v=>exact q
 | brk=>exact q
 | cont=>exact q
theorem yC(h1:PS X st t):PSs X [st] t:=by
 intro pins s σ H D I h
 refine wpAny_execs_cons (thn (h1 pins s σ H D I h) fun f s1 q=>?_)
 cases f with
 | next=>exact wpAny_execs_nil q
 | ret v=>exact q
 | brk=>exact q
 | cont=>exact q
theorem Inv.quiet{pins:List (Addr × Obj)}{σ:St}{H:Hp}{s:Shared}(I:Inv X pins σ H s):interactive X.env=false:=by simp[interactive,I.ok.kind]
def EW(te:TE):TS:=fun D σ H=>te σ H fun _ H1=>D.nx σ H1
theorem yF(he:PE X e te)(hs:swapsWith e none pos.line X.env=pure false:=by rfl):PS X (.Expr e pos) (EW te):=by
 intro pins s σ H D I h
 exact wpAny_Expr_any (thn (he pins s σ H _ I h) fun v s1 ⟨x,H1,I1,r1,q1⟩=>⟨σ,H1,I1,q1⟩) I.quiet hs
def GJ(te:TE):TS:=fun D σ H=>te σ H D.rt
theorem CB(he:PE X e te):PS X (.Return (some e) pos) (GJ te):=by
 intro pins s σ H D I h
 exact wpAny_Return_some (thn (he pins s σ H _ I h) fun v s1 ⟨x,H1,I1,r1,q1⟩=>⟨x,σ,H1,I1,r1,q1⟩)
def GP(c:TT)(t u:TS):TS:=fun D σ H=>c σ H fun b H1=>if b=true then t D σ H1 else u D σ H1
theorem Fl{c:Expr}{a b:List Stmt}{tc:TT}(hc:PT X c tc)(ha:PSs X a t)(hb:PSs X b u):PS X (.If c a b pos) (GP tc t u):=by
 intro pins s σ H D I h
 refine wpAny_If (thn (hc pins s σ H _ I h) fun d s1 zz=>?_)
 obtain⟨H1,I1,q1⟩:=zz
 cases d with
 | true=>exact ha pins s1 σ H1 D I1 q1
 | false=>exact hb pins s1 σ H1 D I1 q1
def Ce:TS:=fun _ _ _=>False
theorem uW:PS X st Ce:=fun _ _ _ _ _ _ h=>h.elim
end
noncomputable abbrev TG:=V→St→Hp→(St→Hp→Prop)→Prop
noncomputable abbrev TGs:=List V→St→Hp→(St→Hp→Prop)→Prop
def PG(X:Cx)(target:Expr)(t:TG):Prop :=
 ∀(pins:List (Addr × Obj)) (s:Shared) (σ:St) (H:Hp) (v:V) (u:Value) (Q:St→Hp→Prop),Inv X pins σ H s→o7 v u→t v σ H Q →
  wpAny (model X.prog X.w) X.A (assign target X.env u) (fun _ s'=>∃ σ' H',Inv X pins σ' H' s'∧Q σ' H') X.xe s
def PGs(X:Cx)(ts:List Expr)(t:TGs):Prop :=
 ∀(pins:List (Addr × Obj)) (s:Shared) (σ:St) (H:Hp) (vs:List V) (us:List Value) (Q:St→Hp→Prop),Inv X pins σ H s→i8 vs us→t vs σ H Q →
  wpAny (model X.prog X.w) X.A (assignInOrder ((assignEach ts X.env).map (·.2)) us) (fun _ s'=>∃ σ' H',Inv X pins σ' H' s'∧Q σ' H') X.xe s
noncomputable abbrev DX:=V→V→V→Hp→(Hp→Prop)→Prop
def GA(X:Cx)(t:DX):Prop :=
 ∀(pins:List (Addr × Obj)) (s:Shared) (σ:St) (H:Hp) (o i v:V) (ov iv u:Value) (Q:Hp→Prop),Inv X pins σ H s→o7 o ov→o7 i iv→o7 v u→t o i v H Q →
  wpAny (model X.prog X.w) X.A (setItem ov iv u) (fun _ s'=>∃ H',Inv X pins σ H' s'∧Q H') X.xe s
section
variable {X:Cx} {pos:Pos}
def vY(i:Nat):TG:=fun v σ H Q=>Q (σ.set i (some v)) H
theorem yL{i:Nat}{x:Str}(hN:X.N.Nodup)(hi:X.N[i]? = some x)(hx:Loc X.env.scope x)(hf:X.fn x=true∨X.env.scope.names.lookup x=some .local:=by first|exact .inl rfl|exact .inr rfl|assumption):PG X (.Name x pos) (vY i):=by
 intro pins s σ H v u Q I r h
 exact wpAny_assign_Name (Y8 I hN hi hx r (fun s' I'=>⟨_,H,I',h⟩) hf)
def Hl:TGs:=fun vs σ H Q=>vs=[]∧Q σ H
def FT(t:TG)(u:TGs):TGs:=fun vs σ H Q=>∃ v r,vs=v :: r∧t v σ H fun σ' H'=>u r σ' H' Q
theorem yJ:PGs X [] Hl:=by
 intro pins s σ H vs us Q I r h
 obtain⟨e,h⟩:=h
 subst e
 cases r
 exact assignInOrder_nil ⟨σ,H,I,h⟩
theorem vb{e:Expr}{es:List Expr}{t:TG}{u:TGs}(h1:PG X e t)(h2:PGs X es u)
  (hs:(assignEach (e :: es) X.env).map (·.2)=assign e X.env :: (assignEach es X.env).map (·.2):=by rfl):PGs X (e :: es) (FT t u):=by
 intro pins s σ H vs us Q I r h
 obtain⟨v,vr,e1,h⟩:=h
 subst e1
 cases r with
 | cons r rr =>
  rw[hs]
  refine assignInOrder_cons (thn (h1 pins s σ H _ _ _ I r h) fun _ s1 zz=>?_)
  obtain⟨σ1,H1,I1,q1⟩:=zz
  exact h2 pins s1 σ1 H1 _ _ Q I1 rr q1
def Hj(K:JB)(n:Nat)(t:TGs):TG:=fun v σ H Q=>∃ a xs,v = .ref a∧SqT K H a xs∧xs.length=n∧t xs σ H Q
theorem CJ{es:List Expr}{k:Nat}{t:TGs}{n:Nat}(hc:X.calm=true)(h:PGs X es t)
  (hn:(assignEach es X.env).length=n:=by rfl) (hst:(assignEach es X.env).findIdx? (·.1)=none:=by rfl):PG X (.Tuple es k pos) (Hj X.K n t):=by
 intro pins s σ H v u Q I r hw
 obtain⟨a,xs,e1,hq,hl,hw⟩:=hw
 subst e1
 cases r
 obtain⟨its,rv,ht,hz⟩:=I.tuple hq
 refine assign_Tuple_tuple (I.ok.hd hc) ht (by simp[hn,← hl,rv.length]) hst fun h' hx=>?_
 have I1:Inv X pins σ H { s with heap:=h' }:=I.kept (t':=s.toks) fun b o e=>hx b o (KG (Ke e)) e
 exact h pins _ σ H xs _ Q I1 (by simpa using rv) hw
def Hk(to ti:TE)(t:DX):TG:=fun v σ H Q=>to σ H fun o H1=>ti σ H1 fun i H2=>t o i v H2 fun H3=>Q σ H3
theorem CK{o i:Expr}{to ti:TE}{t:DX}(ho:PE X o to)(hi:PE X i ti)(hs:GA X t)
  (ha:∀ v,assign (.Subscript o i pos) X.env v=(do
   let ov ← holding [v] (eval o X.env)
   let iv ← holding [v,ov] (eval i X.env)
   standAt pos
   holding [v,ov,iv] (setItem ov iv v)
   release [v,ov,iv] []):=by intro _;rfl):PG X (.Subscript o i pos) (Hk to ti t):=by
 intro pins s σ H v u Q I r h
 rw[ha]
 refine JC (wpAny_holding (thn (ho pins s σ H _ I h) fun ov s1 zz=>?_))
 obtain⟨x,H1,I1,r1,q1⟩:=zz
 refine JC (wpAny_holding (thn (hi pins s1 σ H1 _ I1 q1) fun iv s2 zz=>?_))
 obtain⟨y,H2,I2,r2,q2⟩:=zz
 refine JC (wpAny_standAt (JC (wpAny_holding (thn (hs pins s2 σ H2 x y v ov iv u _ I2 r1 r2 r q2) fun _ s3 zz=>?_))))
 obtain⟨H3,I3,q3⟩:=zz
 exact wpAny_release ⟨σ,H3,I3,q3⟩
def Cf(te:TE)(g:TG):TS:=fun D σ H=>te σ H fun x H1=>g x σ H1 D.nx
theorem CG{tg e:Expr}{te:TE}{g:TG}(he:PE X e te)(hg:PG X tg g)(hs:swapsWithSole [tg] e pos.line X.env=pure false:=by rfl)(hw:swappedStores [tg] e X.env=pure none:=by rfl)
  (h1:(assignEach [tg] X.env).map (·.2)=[assign tg X.env]:=by rfl):PS X (.Assign [tg] e pos) (Cf te g):=by
 intro pins s σ H D I h
 refine wpAny_Assign_stores (thn (he pins s σ H _ I h) fun v s1 ⟨x,H1,I1,r1,q1⟩=>?_) hs hw
 rw[h1]
 exact thn (hg pins s1 σ H1 x v _ I1 r1 q1) fun _ s2 q=>q
theorem CA{i:Nat}{x:Str}{e:Expr}{te:TE}{pos':Pos}(hN:X.N.Nodup)(hi:X.N[i]? = some x)(hx:Loc X.env.scope x)(he:PE X e te)(hs:swapsWith e (some (.Name x pos')) pos.line X.env=pure false:=by rfl)(hf:X.fn x=true∨X.env.scope.names.lookup x=some .local:=by first|exact .inl rfl|exact .inr rfl|assumption) :
  PS X (.Assign [.Name x pos'] e pos) (Cf te (vY i)):=by
 intro pins s σ H D I h
 refine wpAny_Assign_Name (thn (he pins s σ H _ I h) fun v s1 ⟨y,H1,I1,r1,q1⟩=>?_) hs
 exact Y8 I1 hN hi hx r1 (fun s2 I2=>⟨_,H1,I2,q1⟩) hf
def GK(i j:Nat)(ta:TA):TS:=fun D σ H=>ta σ H fun vs H1=>∃ v w,vs=[v,w]∧D.nx ((σ.set i (some v)).set j (some w)) H1
theorem CC{i j:Nat}{x y:Str}{a b:Expr}{ta:TA}{px py pt:Pos}{kt k2 pt2}(hc:X.calm=true)(hN:X.N.Nodup)(hi:X.N[i]? = some x)(hj:X.N[j]? = some y)(hij:i≠j)
  (hx:X.env.scope.names.lookup x=some .local) (hy:X.env.scope.names.lookup y=some .local) (ha:PA X [a,b] ta)
  (hw:swappedStores [.Tuple [.Name x px,.Name y py] kt pt] (.Tuple [a,b] k2 pt2) X.env=pure (some [x,y]))
  (hs:swapsWithSole [.Tuple [.Name x px,.Name y py] kt pt] (.Tuple [a,b] k2 pt2) pos.line X.env=pure false:=by rfl) :
  PS X (.Assign [.Tuple [.Name x px,.Name y py] kt pt] (.Tuple [a,b] k2 pt2) pos) (GK i j ta):=by
 intro pins s σ H D I h
 rw[exec_Assign_arm]
 refine JC (wpAny_standAt ?_)
 rw[hs]
 refine JC (JZ ?_)
 rw[if_neg (by decide)]
 refine JC (Tuple_ (thn (ha _ pins s σ H _ I h) fun us s1 zz=>?_))
 obtain⟨vs,H1,I1,r1,q1⟩:=zz
 obtain⟨v,w,e1,q1⟩:=q1
 subst e1
 obtain⟨u1,u2,rfl,rv,rw'⟩:∃ u1 u2,us=[u1,u2]∧o7 v u1∧o7 w u2:=by
  cases r1 with
  | cons p q =>
   cases q with
   | cons p' q' =>
    cases q'
    exact⟨_,_,rfl,p,p'⟩
 refine wpAny_newObj_type ?_ (by show 2≤sizeLine;decide)
 have I2:Inv X pins σ H1 { s1 with heap:=s1.heap.push { cls:=.type "tuple",data:=.seq [u1,u2].toArray } }:=I1.kept (t':=s1.toks) fun b o e=>JL _ e
 rw[hw]
 refine JC (JZ ?_)
 show wpAny (model X.prog X.w) X.A (do rule "assign.swapped-stores";let items ← unpackItems (.ref s1.heap.objs.size) 2 none;assignInOrder [fun v=>bindName X.env y v,fun v=>bindName X.env x v] items.reverse;pure Flow.next) _ _ _
 refine JC (wpAny_rule (JC (unpackItems_tuple (items:=#[u1,u2]) (I.ok.hd hc) (IsTup.new s1.heap _) fun h' hx'=>?_)))
 have I3:=I2.kept (h':=h') (t':=s1.toks) fun b o e=>hx' b o (KG (Ke e)) e
 show wpAny _ _ (assignInOrder [fun v=>bindName X.env y v,fun v=>bindName X.env x v] [u2,u1] >>= fun _=>pure Flow.next) _ _ _
 refine JC (assignInOrder_cons (wpAny_bindName (Y8 I3 hN hj (.inl hy) rw' (fun s2 I4=>?_) (.inr hy))))
 refine assignInOrder_cons (wpAny_bindName (Y8 I4 hN hi (.inl hx) rv (fun s3 I5=>assignInOrder_nil (JZ ?_)) (.inr hx)))
 rw[List.set_comm _ _ (Ne.symm hij)]at I5
 exact⟨_,H1,I5,q1⟩
end
section
variable {X:Cx} {pos:Pos}
def Cd(c:TT)(tb:TS):TS:=fun D σ H=>∃ W:Nat→St→Hp→Prop,(∃ m,W m σ H)∧∀ m σ H,W m σ H →
 c σ H fun b H1=>if b=true then ∃ N:St→Hp→Prop,(∀ σ' H',N σ' H'→∃ m',m'<m∧W m' σ' H')∧tb { D with nx:=N,ct:=N,bk:=D.nx } σ H1 else D.nx σ H1
theorem uV{c:Expr}{body:List Stmt}{tc:TT}{tb:TS}(hp:PassesOwn (model X.prog X.w) X.A X.env X.xe)(hc:PT X c tc)(hb:PSs X body tb):PS X (.While c body [] pos) (Cd tc tb):=by
 intro pins s σ H D I h
 obtain⟨W,⟨m0,w0⟩,turn⟩:=h
 refine wpAny_While (codeAny_whileLoop (fun n s'=>∃ σ' H',Inv X pins σ' H' s'∧W n σ' H') ?_ m0 ⟨σ,H,I,w0⟩)
 rintro n s1 ⟨σ1,H1,I1,w1⟩
 refine wpAny_passesOwn hp (thn (hc pins s1 σ1 H1 _ I1 (turn n σ1 H1 w1)) fun b s2 zz=>?_)
 obtain⟨H2,I2,q2⟩:=zz
 cases b with
 | true =>
  obtain⟨N,hN,q2⟩:=q2
  rw[if_pos rfl]
  refine wpAny_passesOwn hp (thn (hb pins s2 σ1 H2 _ I2 q2) fun f s3 q3=>?_)
  cases f with
  | next =>
   obtain⟨σ3,H3,I3,n3⟩:=q3
   obtain⟨m',hm,w3⟩:=hN σ3 H3 n3
   exact⟨m',hm,σ3,H3,I3,w3⟩
  | cont =>
   obtain⟨σ3,H3,I3,n3⟩:=q3
   obtain⟨m',hm,w3⟩:=hN σ3 H3 n3
   exact⟨m',hm,σ3,H3,I3,w3⟩
  | brk=>exact q3
  | ret v=>exact q3
 | false =>
  rw[if_neg Ku]
  exact wpAny_execs_nil ⟨σ1,H2,I2,q2⟩
end
structure It where
 go:Nat→Hp→Prop
 yld:Nat→Hp→V→Hp→Prop
 stop:Nat→Hp→Prop
def Y4(X:Cx)(pins:List (Addr × Obj))(H:Hp)(b:Addr):Prop :=
 H b=none∧b≠X.env.locals∧b∉X.fs∧(b∈X.ex∨X.s₀.heap.objs.size≤b)∧(∀ x c,X.env.cells.lookup x=some c→c≠b)∧∀ p∈X.pn++pins,p.1≠b
theorem Inv.fpOk{X:Cx}{pins:List (Addr × Obj)}{σ:St}{H H':Hp}{s:Shared}{b:Addr}(I:Inv X pins σ H s)(hb:s.heap.objs.size≤b)(hn:H' b=none):Y4 X pins H' b:=by
 refine⟨hn,LY (JN I.lt hb),I.nofs hb,.inr (JR I.sz hb),fun x c e z=>?_,fun p hp z=>?_⟩
 ·obtain⟨v,q⟩:=I.cell x c e
  exact absurd (JN q.lt (by rw[z];exact hb)) (Ly _)
 ·exact absurd (JN (Ke (I.pin p hp).1) (by rw[z];exact hb)) (Ly _)
structure nQ(P:Program)(w:World)(K:JB)(tg:Expr)(J:It)(fp:List Addr)(it:Addr)(tn:Nat→Heap→Prop):Prop where
 mem:it∈fp
 obj:∀ i h,tn i h→∀ b∈fp,∃ o,h.get? b=some o∧∀ v,o.data ≠ .cell v
 keep:∀ i h h',tn i h→(∀ b∈fp,∀ o,h.get? b=some o→h'.get? b=some o)→tn i h'
 item:∀(X:Cx),X.prog=P→X.w=w→X.K=K→X.calm=true→∀(i:Nat) (pins:List (Addr × Obj)) (s:Shared) (σ:St) (H:Hp) (E:Value→Shared→Prop),Inv X pins σ H s→(∀ b∈fp,Y4 X pins H b)→tn i s.heap→J.go i H →
  wpAny (model P w) X.A (pyNext (.ref it)) (fun r s1=>∃ u,r=some u ∧
   wpAny (model P w) X.A (letOwnedTupleGo tg (.ref it) u) (fun _ s2=>∃ x H',Inv X pins σ H' s2∧o7 x u∧J.yld i H x H'∧tn (i+1) s2.heap∧∀ b∈fp,H' b=none) E s1) E s
 done:∀(X:Cx),X.prog=P→X.w=w→X.K=K→X.calm=true→∀(i:Nat) (pins:List (Addr × Obj)) (s:Shared) (σ:St) (H:Hp) (E:Value→Shared→Prop),Inv X pins σ H s→(∀ b∈fp,Y4 X pins H b)→tn i s.heap→J.stop i H →
  wpAny (model P w) X.A (pyNext (.ref it)) (fun r s1=>r=none∧Inv X pins σ H s1) E s
 self:∀(A:Around) (i:Nat) (s:Shared) (Q:Value→Shared→Prop) (E:Value→Shared→Prop),tn i s.heap→Q (.ref it) s→wpAny (model P w) A (pyIter (.ref it)) Q E s
noncomputable abbrev TI:=St→Hp→(It→Hp→Prop)→Prop
def PIE(X:Cx)(pins:List (Addr × Obj))(σ:St)(tg:Expr)(R:It→Hp→Prop)(itv:Value)(s2:Shared):Prop :=
 ∃(it:Addr) (fp:List Addr) (tn:Nat→Heap→Prop) (J:It) (H':Hp),itv = .ref it∧Inv X pins σ H' s2∧nQ X.prog X.w X.K tg J fp it tn∧tn 0 s2.heap∧(∀ b∈fp,Y4 X pins H' b)∧R J H'
def PI(X:Cx)(tg iter:Expr)(wi:TI):Prop :=
 ∀(pins:List (Addr × Obj)) (s:Shared) (σ:St) (H:Hp) (R:It→Hp→Prop),Inv X pins σ H s→wi σ H R →
  wpAny (model X.prog X.w) X.A (eval iter X.env) (fun v s1=>wpAny (model X.prog X.w) X.A (pyIter v) (PIE X pins σ tg R) X.xe s1) X.xe s
theorem vV{M:Model}{A:Around}{E:Value→Shared→Prop}{s:Shared}{tg:Expr}{it:Addr}{u:Value}{o:Obj}{n:String}{vs:Array Value}{Q:Unit→Shared→Prop}(ho:s.heap.get? it=some o)(hc:o.cls = .type n)(hd:o.data = .fields vs)
  (hn:["enumerate","zip","dict_itemiterator","dict_reverseitemiterator","odict_iterator","itertools.zip_longest","itertools.pairwise"].contains n=false) (hQ:Q () s):wpAny M A (letOwnedTupleGo tg (.ref it) u) Q E s:=by
 unfold letOwnedTupleGo
 cases tg<;>first
  | exact JZ hQ
  | (cases u<;>first
    | exact JZ hQ
    | (refine JC (wpAny_load ho ?_);rw[hc,hd];show wpAny M A (if (["enumerate","zip","dict_itemiterator","dict_reverseitemiterator","odict_iterator","itertools.zip_longest","itertools.pairwise"].contains n && vs[0]? == some (rawInt _))=true then _ else _) Q E s;rw[if_neg (by intro h;rw[hn,Oq]at h;cases h)];exact JZ hQ))
noncomputable def Itl(K:JB)(a:Addr):It :=
 ⟨fun i H=>∃ xs x,SqL K H a xs∧xs[i]? = some x,fun i H x H'=>H'=H∧∀ xs,SqL K H a xs→xs[i]? = some x,fun i H=>∃ xs,SqL K H a xs∧xs.length≤i⟩
noncomputable def Itt(K:JB)(a:Addr):It :=
 ⟨fun i H=>∃ xs x,SqT K H a xs∧xs[i]? = some x,fun i H x H'=>H'=H∧∀ xs,SqT K H a xs→xs[i]? = some x,fun i H=>∃ xs,SqT K H a xs∧xs.length≤i⟩
noncomputable def Itr(lo:Int)(n:Nat):It:=⟨fun i _=>i<n,fun i H x H'=>H'=H∧x = .int (lo+i),fun i _=>n≤i⟩
theorem qP{P:Program}{w:World}{K:JB}{tg:Expr}(a it:Addr):nQ P w K tg (Itl K a) [it] it (fun i h=>h.IsListIter it a i) where
 mem:=by simp
 obj:=fun i h st b hb=>by
  have e:b=it:=by simpa using hb
  subst e
  obtain⟨o,e,c,d⟩:=st
  exact⟨o,e,fun v z=>by rw[d]at z;cases z⟩
 keep:=fun i h h' st k=>st.at fun o e=>k it (by simp) o e
 item:=by
  intro X hP hw hK hc i pins s σ H E I hf st hg
  subst hP hw hK
  obtain⟨xs,x,hq,hx⟩:=hg
  obtain⟨its,rv,p,hz⟩:=I.list hq
  obtain⟨u,hu,ru⟩:=rv.get hx
  obtain⟨f0,f1,f2,f3,f4,f5⟩:=hf it (by simp)
  refine wpAny_pyNext_list_item st p.isList (x:=u) (by simpa using hu) fun h' st' sb=>?_
  have I1:Inv X pins σ H { s with heap:=h' }:=I.turned (t':=s.toks) (fun b o hb e=>(sb.2 b hb).trans e) f0 f1 f3 f4 f5
  obtain⟨o,e,c,d⟩:=id st'
  exact⟨u,rfl,vV (s:={ s with heap:=h' }) e c d (by decide) ⟨x,H,I1,ru,⟨rfl,fun ys hy=>by rw[I.list_inj hy hq];exact hx⟩,st',fun b hb=>(hf b hb).1⟩⟩
 done:=by
  intro X hP hw hK hc i pins s σ H E I hf st hg
  subst hP hw hK
  obtain⟨xs,hq,hx⟩:=hg
  obtain⟨its,rv,p,hz⟩:=I.list hq
  obtain⟨f0,f1,f2,f3,f4,f5⟩:=hf it (by simp)
  have hl:=rv.length
  exact wpAny_pyNext_list_end (I.ok.hd hc) st p.isList (by simp;omega) fun h' eb=>⟨rfl,I.turned (t':=s.toks) (fun b o hb e=>eb b o hb e) f0 f1 f3 f4 f5⟩
 self:=fun _ _ _ _ _ st h=>wpAny_pyIter_listiter st h
theorem mw{P:Program}{w:World}{K:JB}{tg:Expr}(a it:Addr):nQ P w K tg (Itt K a) [it] it (fun i h=>h.IsTupleIter it a i) where
 mem:=by simp
 obj:=fun i h st b hb=>by
  have e:b=it:=by simpa using hb
  subst e
  obtain⟨o,e,c,d⟩:=st
  exact⟨o,e,fun v z=>by rw[d]at z;cases z⟩
 keep:=fun i h h' st k=>st.at fun o e=>k it (by simp) o e
 item:=by
  intro X hP hw hK hc i pins s σ H E I hf st hg
  subst hP hw hK
  obtain⟨xs,x,hq,hx⟩:=hg
  obtain⟨its,rv,p,hz⟩:=I.tuple hq
  obtain⟨u,hu,ru⟩:=rv.get hx
  obtain⟨f0,f1,f2,f3,f4,f5⟩:=hf it (by simp)
  refine wpAny_pyNext_tuple_item st (show s.heap.IsTuple a its.toArray from p) (x:=u) (by simpa using hu) fun h' st' sb=>?_
  have I1:Inv X pins σ H { s with heap:=h' }:=I.turned (t':=s.toks) (fun b o hb e=>(sb.2 b hb).trans e) f0 f1 f3 f4 f5
  obtain⟨o,e,c,d⟩:=id st'
  exact⟨u,rfl,vV (s:={ s with heap:=h' }) e c d (by decide) ⟨x,H,I1,ru,⟨rfl,fun ys hy=>by rw[I.tuple_inj hy hq];exact hx⟩,st',fun b hb=>(hf b hb).1⟩⟩
 done:=by
  intro X hP hw hK hc i pins s σ H E I hf st hg
  subst hP hw hK
  obtain⟨xs,hq,hx⟩:=hg
  obtain⟨its,rv,p,hz⟩:=I.tuple hq
  obtain⟨f0,f1,f2,f3,f4,f5⟩:=hf it (by simp)
  have hl:=rv.length
  exact wpAny_pyNext_tuple_end (I.ok.hd hc) st (show s.heap.IsTuple a its.toArray from p) (by simp;omega) fun h' eb=>⟨rfl,I.turned (t':=s.toks) (fun b o hb e=>eb b o hb e) f0 f1 f3 f4 f5⟩
 self:=fun _ _ _ _ _ st h=>wpAny_pyIter_tupleiter st h
theorem my{P:Program}{w:World}{K:JB}{tg:Expr}(it:Addr)(lo:Int)(n:Nat):nQ P w K tg (Itr lo n) [it] it (fun i h=>IsRangeIter h it (lo+(i:Nat)*1) ((n:Int) - (i:Nat)) 1) where
 mem:=by simp
 obj:=fun i h st b hb=>by
  have e:b=it:=by simpa using hb
  subst e
  exact⟨_,st,fun v z=>by
   have z':Data.fields _=Data.cell v:=z
   cases z'⟩
 keep:=fun i h h' st k=>k it (by simp) _ st
 item:=by
  intro X hP hw hK hc i pins s σ H E I hf st hg
  subst hP hw hK
  obtain⟨f0,f1,f2,f3,f4,f5⟩:=hf it (by simp)
  have W:=Walks.range (prog:=X.prog) (w:=X.w) (I.ok.hd hc) it lo 1 n
  refine W.item i s _ _ hg st fun v h' tk hv st' kk=>?_
  obtain⟨t,rfl⟩:=hv
  have I1:Inv X pins σ H { s with heap:=h',toks:=tk }:=I.turned (fun b o hb e=>kk b o (by simpa using hb) e) f0 f1 f3 f4 f5
  refine⟨_,rfl,vV (s:={ s with heap:=h',toks:=tk }) (n := "range_iterator") st' rfl rfl (by decide) ⟨.int (lo+i),H,I1,⟨t,?_⟩,⟨rfl,rfl⟩,st',fun b hb=>(hf b hb).1⟩⟩
  rw[Int.mul_one]
 done:=by
  intro X hP hw hK hc i pins s σ H E I hf st hg
  subst hP hw hK
  obtain⟨f0,f1,f2,f3,f4,f5⟩:=hf it (by simp)
  exact wpAny_pyNext_range_end (I.ok.hd hc) st (by have:n≤i:=hg;omega) fun h' eb=>⟨rfl,I.turned (t':=s.toks) (fun b o hb e=>eb b o hb e) f0 f1 f3 f4 f5⟩
 self:=fun _ _ _ _ _ st h=>wpAny_pyIter_rangeiter st h
section
variable {X:Cx} {tg:Expr}
theorem uS{pins:List (Addr × Obj)}{σ:St}{H:Hp}{s:Shared}{R:It→Hp→Prop}{E:Value→Shared→Prop}{lo hi:Int}{t u v:Tok}{tk:Nat}(I:Inv X pins σ H s)(h1:-(2 ^ 62)≤lo)(h2:lo<2 ^ 62)(h3:-(2 ^ 62)≤hi)(h4:hi<2 ^ 62)
  (q:R (Itr lo (hi - lo).toNat) H):wpAny (model X.prog X.w) X.A (pyIter (.ref s.heap.objs.size)) (PIE X pins σ tg R) E { s with heap:=s.heap.push { cls:=.type "range",data:=.fields #[.int lo t,.int hi u,.int 1 v] },toks:=tk }:=by
 refine wpAny_pyIter_range (IsRange.new ..) (small_one h1 h2 h3 h4) ?_
 have I1:Inv X pins σ H { s with heap:=s.heap.push { cls:=.type "range",data:=.fields #[.int lo t,.int hi u,.int 1 v] },toks:=tk }:=I.kept fun b o e=>JL _ e
 refine⟨(s.heap.push { cls:=.type "range",data:=.fields #[.int lo t,.int hi u,.int 1 v] }).objs.size,[(s.heap.push { cls:=.type "range",data:=.fields #[.int lo t,.int hi u,.int 1 v] }).objs.size],_,_,H,rfl,
  I1.kept (t':=tk) fun b o e=>JL _ e,my _ lo (hi - lo).toNat,?_,fun b hb=>?_,q⟩
 ·have e1:lo+((0:Nat):Int)*1=lo:=by simp
  have e2:(((hi - lo).toNat:Nat):Int) - ((0:Nat):Int)=Builtin.Range.rangeSize lo hi 1:=by rw[rangeSize_one];split<;>omega
  show IsRangeIter _ _ (lo+((0:Nat):Int)*1) ((((hi - lo).toNat:Nat):Int) - ((0:Nat):Int)) 1
  rw[e1,e2]
  exact Kk _ rfl
 ·have e:b=(s.heap.push { cls:=.type "range",data:=.fields #[.int lo t,.int hi u,.int 1 v] }).objs.size:=by simpa using hb
  subst e
  exact I1.fpOk (JY _) (I1.hok.fresh (JY _))
def FN(ta:TA):TI:=fun σ H R=>ta σ H fun vs H1=>∃ j:Int,vs=[.int j]∧-(2 ^ 62)≤j∧j<2 ^ 62∧R (Itr 0 j.toNat) H1
theorem qZ{a:Expr}{ta:TA}{p pos:Pos}(hg:Gl X "range")(hm:X.mg "range" = none)(ha:PA X [a] ta)(hs:starEach [a] X.env=[(false,eval a X.env)]:=by rfl):PI X tg (.Call (.Name "range" p) [a] [] pos) (FN ta):=by
 intro pins s σ H R I h
 refine Call_ (aX I hg hm boot_range (PyProof.Rows.callWith_type1 (thn (ha pos pins s σ H _ I h) fun us s1 ⟨vs,H1,I1,r1,q1⟩=>?_) hs rfl))
 obtain⟨j,e,q1,q2,q⟩:=q1
 subst e
 cases r1 with
 | cons r rr =>
  cases rr
  obtain⟨t,rfl⟩:=r
  exact call_range_1 (uS I1 (by omega) (by omega) q1 q2 (by simpa using q))
def GQ(wi:TI)(g:TG)(tb:TS):TS:=fun D σ H=>wi σ H fun J H1=>∃ W:Nat→Nat→St→Hp→Prop,(∃ m,W 0 m σ H1)∧∀ i m σ H,W i m σ H →
 (J.stop i H∧D.nx σ H)∨(J.go i H∧∃ N:St→Hp→Prop,(∀ σ' H',N σ' H'→∃ m',m'<m∧W (i+1) m' σ' H')∧∀ x H',J.yld i H x H'→g x σ H' fun σ2 H2=>tb { D with nx:=N,ct:=N,bk:=D.nx } σ2 H2)
noncomputable def iN(fp:List Addr)(h:Heap):List (Addr × Obj):=fp.filterMap fun b=>(h.get? b).map fun o=>(b,o)
theorem E3{fp:List Addr}{h:Heap}{b:Addr}{o:Obj}(hb:b∈fp)(e:h.get? b=some o):(b,o)∈iN fp h:=Nx.mpr ⟨b,hb,by rw[e];rfl⟩
theorem rC{fp:List Addr}{h:Heap}{p:Addr × Obj}(hp:p∈iN fp h):p.1∈fp∧h.get? p.1=some p.2:=by
 obtain⟨b,hb,e⟩:=Nx.mp hp
 cases q:h.get? b with
 | none=>rw[q]at e;cases e
 | some o =>
  rw[q]at e
  have e':(b,o)=p:=Option.some.inj e
  subst e'
  exact⟨hb,q⟩
theorem Inv.pinned{pins:List (Addr × Obj)}{σ:St}{H:Hp}{s:Shared}{fp:List Addr}(I:Inv X pins σ H s)(hf:∀ b∈fp,Y4 X pins H b)(ho:∀ b∈fp,∃ o,s.heap.get? b=some o∧∀ v,o.data ≠ .cell v):Inv X (pins++iN fp s.heap) σ H s :=
 I.pins_of fun p hp=>(Kf.mp hp).elim (fun z=>I.pin p (Kh _ z)) fun z=>by
  obtain⟨hb,e⟩:=rC z
  obtain⟨f0,f1,f2,_⟩:=hf p.1 hb
  obtain⟨o,e',d⟩:=ho p.1 hb
  rw[e]at e';cases e'
  exact⟨e,f0,f1,f2,d⟩
theorem Inv.unpinned{pins pl:List (Addr × Obj)}{σ:St}{H:Hp}{s:Shared}(I:Inv X (pins++pl) σ H s):Inv X pins σ H s:=I.pins_of fun p hp=>I.pin p (Kh _ (KZ _ hp))
theorem CF{iter:Expr}{body:List Stmt}{wi:TI}{g:TG}{tb:TS}{pos:Pos}(hp:PassesOwn (model X.prog X.w) X.A X.env X.xe)(hc:X.calm=true)(hi:PI X tg iter wi)(hg:PG X tg g)(hb:PSs X body tb)
  (hs:∀ x,foldedSetIterable iter X.env x=pure x:=by intro _;rfl):PS X (.For tg iter body [] pos) (GQ wi g tb):=by
 intro pins s σ H D I h
 refine wpAny_For (thn (hi pins s σ H _ I h) fun v s1 h1=>thn h1 fun itv s2 h2=>?_) hs
 obtain⟨it,fp,tn,J,H2,e,I2,T,st2,f2,W,⟨m0,w0⟩,turn⟩:=h2
 subst e
 have stat:∀{H':Hp},(∀ b∈fp,H' b=none)→∀ b∈fp,Y4 X pins H' b:=fun hn b hb=>⟨hn b hb,(f2 b hb).2⟩
 refine codeAny_forLoop_any (fun n s'=>∃ i σ' H',Inv X pins σ' H' s'∧tn i s'.heap∧(∀ b∈fp,H' b=none)∧W i n σ' H') ?_ m0 ⟨0,σ,H2,I2,st2,fun b hb=>(f2 b hb).1,w0⟩
 rintro n s3 ⟨i,σ3,H3,I3,st3,fr3,w3⟩
 rcases turn i n σ3 H3 w3 with⟨stop,qn⟩|⟨go,N,hN,step⟩
 ·refine wpAny_passesOwn hp (thn (T.done X rfl rfl rfl hc i pins s3 σ3 H3 X.xe I3 (stat fr3) st3 stop) fun r s4 zz=>?_)
  obtain⟨hr,I4⟩:=zz
  subst hr
  exact wpAny_execs_nil ⟨σ3,H3,I4,qn⟩
 ·refine wpAny_passesOwn hp (thn (T.item X rfl rfl rfl hc i pins s3 σ3 H3 X.xe I3 (stat fr3) st3 go) fun r s4 zz=>?_)
  obtain⟨u,hr,h4⟩:=zz
  subst hr
  refine wpAny_passesOwn hp (thn h4 fun _ s5 zz=>?_)
  obtain⟨x,H5,I5,r5,y5,st5,fr5⟩:=zz
  have I5':=I5.pinned (stat fr5) (T.obj _ _ st5)
  refine wpAny_passesOwn hp (thn (hg _ s5 σ3 H5 x u _ I5' r5 (step x H5 y5)) fun _ s6 zz=>?_)
  obtain⟨σ6,H6,I6,q6⟩:=zz
  refine wpAny_passesOwn hp (thn (hb _ s6 σ6 H6 _ I6 q6) fun f s7 q7=>?_)
  have again:∀{σ7:St} {H7:Hp},Inv X (pins++iN fp s5.heap) σ7 H7 s7→N σ7 H7→∃ m,m<n∧∃ i σ' H',Inv X pins σ' H' s7∧tn i s7.heap∧(∀ b∈fp,H' b=none)∧W i m σ' H':=fun{σ7 H7} I7 n7=>by
   obtain⟨m',hm,w7⟩:=hN σ7 H7 n7
   refine⟨m',hm,i+1,σ7,H7,I7.unpinned,T.keep _ _ _ st5 fun b hb o e=>(I7.pin (b,o) (Kh _ (Kh _ (E3 hb e)))).1,fun b hb=>?_,w7⟩
   obtain⟨o,e,d⟩:=T.obj _ _ st5 b hb
   exact(I7.pin (b,o) (Kh _ (Kh _ (E3 hb e)))).2.1
  cases f with
  | next=>obtain⟨σ7,H7,I7,n7⟩:=q7;exact again I7 n7
  | cont=>obtain⟨σ7,H7,I7,n7⟩:=q7;exact again I7 n7
  | brk=>obtain⟨σ7,H7,I7,q7⟩:=q7;exact⟨σ7,H7,I7.unpinned,q7⟩
  | ret v=>obtain⟨x7,σ7,H7,I7,r7,q7⟩:=q7;exact⟨x7,σ7,H7,I7.unpinned,r7,q7⟩
end
noncomputable abbrev R2:=V→V→Hp→VK→Prop
def OpR(X:Cx)(f:Value→Value→Sem Value)(r:R2):Prop :=
 ∀(pins:List (Addr × Obj)) (s:Shared) (σ:St) (H:Hp) (x y:V) (v u:Value) (Q:VK),Inv X pins σ H s→o7 x v→o7 y u→r x y H Q →
  wpAny (model X.prog X.w) X.A (f v u) (EP X pins σ Q) X.xe s
def UnR(X:Cx)(f:Value→Sem Value)(r:V→Hp→VK→Prop):Prop :=
 ∀(pins:List (Addr × Obj)) (s:Shared) (σ:St) (H:Hp) (x:V) (v:Value) (Q:VK),Inv X pins σ H s→o7 x v→r x H Q →
  wpAny (model X.prog X.w) X.A (f v) (EP X pins σ Q) X.xe s
def C3(X:Cx)(f:Value)(r:List V→Hp→VK→Prop):Prop :=
 ∀(pins:List (Addr × Obj)) (s:Shared) (σ:St) (H:Hp) (xs:List V) (us:List Value) (Q:VK),Inv X pins σ H s→i8 xs us→r xs H Q →
  wpAny (model X.prog X.w) X.A (call f us) (EP X pins σ Q) X.xe s
def tOp(r:R2)(ta tb:TE):TE:=fun σ H Q=>ta σ H fun x H1=>tb σ H1 fun y H2=>r x y H2 Q
def tUn(r:V→Hp→VK→Prop)(ta:TE):TE:=fun σ H Q=>ta σ H fun x H1=>r x H1 Q
def rI(C:Int→Int→Prop)(g:Int→Int→V):R2:=fun x y H Q=>∃ i j,x = .int i∧y = .int j∧C i j∧Q (g i j) H
def rI0(g:Int→Int→V):R2:=fun x y H Q=>∃ i j,x = .int i∧y = .int j∧Q (g i j) H
noncomputable def rU(g:Int→V):V→Hp→VK→Prop:=fun x H Q=>∃ i,x = .int i∧Q (g i) H
section
variable {X:Cx} {a b c:Expr} {ta tb tc:TE} {pos:Pos}
theorem DT(ha:PE X a ta)(hb:PE X b tb){pins:List (Addr × Obj)}{s:Shared}{σ:St}{H:Hp}{R:V→V→Hp→Prop}(I:Inv X pins σ H s)
  (h:ta σ H fun x H1=>tb σ H1 fun y H2=>R x y H2) {Q:Value→Shared→Prop} {f:Value→Value→Sem Value}
  (hf:∀ v u s2 x y H2,Inv X pins σ H2 s2→o7 x v→o7 y u→R x y H2→wpAny (model X.prog X.w) X.A (f v u) Q X.xe s2) :
  wpAny (model X.prog X.w) X.A (eval a X.env) (fun v s₁=>wpAny (model X.prog X.w) X.A (eval b X.env) (fun u s₂=>wpAny (model X.prog X.w) X.A (f v u) Q X.xe s₂) X.xe s₁) X.xe s:=by
 refine thn (ha pins s σ H _ I h) fun v s1 zz=>?_
 obtain⟨x,H1,I1,r1,q1⟩:=zz
 refine thn (hb pins s1 σ H1 _ I1 q1) fun u s2 zz=>?_
 obtain⟨y,H2,I2,r2,q2⟩:=zz
 exact hf v u s2 x y H2 I2 r1 r2 q2
theorem AZ{op:Operator}{r:R2}(ho:OpR X (binaryOp op) r)(ha:PE X a ta)(hb:PE X b tb):PE X (.BinOp a op b pos) (tOp r ta tb):=by
 intro pins s σ H Q I h
 exact wpAny_BinOp (DT ha hb I h fun v u s2 x y H2 I2 rx ry q=>ho pins s2 σ H2 x y v u Q I2 rx ry q)
theorem Fm{op:UnaryOp}{r:V→Hp→VK→Prop}(ho:UnR X (unaryOp op) r)(ha:PE X a ta):PE X (.UnaryOp op a pos) (tUn r ta):=by
 intro pins s σ H Q I h
 exact UnaryOp_ (thn (ha pins s σ H _ I h) fun v s1 ⟨x,H1,I1,r1,q1⟩=>ho pins s1 σ H1 x v Q I1 r1 q1)
theorem opI{f:Value→Value→Sem Value}{C:Int→Int→Prop}{g:Int→Int→Int}
  (rule:∀(i j:Int) (t u:Tok) (s:Shared) (Q:Value→Shared→Prop) (E:Value→Shared→Prop),C i j→Q (.int (g i j) s.toks) { s with toks:=s.toks+1 }→wpAny (model X.prog X.w) X.A (f (.int i t) (.int j u)) Q E s) :
  OpR X f (rI C fun i j=>.int (g i j)):=by
 intro pins s σ H x y v u Q I rx ry h
 obtain⟨i,j,rfl,rfl,hc,q⟩:=h
 obtain⟨t,rfl⟩:=rx
 obtain⟨t',rfl⟩:=ry
 exact rule i j t t' s _ _ hc ⟨.int (g i j),H,I.tok _,⟨_,rfl⟩,q⟩
theorem Fv{f:Value→Value→Sem Value}{g:Int→Int→Int}
  (rule:∀(i j:Int) (t u:Tok) (s:Shared) (Q:Value→Shared→Prop) (E:Value→Shared→Prop),Q (.int (g i j) s.toks) { s with toks:=s.toks+1 }→wpAny (model X.prog X.w) X.A (f (.int i t) (.int j u)) Q E s) :
  OpR X f (rI0 fun i j=>.int (g i j)):=by
 intro pins s σ H x y v u Q I rx ry h
 obtain⟨i,j,rfl,rfl,q⟩:=h
 obtain⟨t,rfl⟩:=rx
 obtain⟨t',rfl⟩:=ry
 exact rule i j t t' s _ _ ⟨.int (g i j),H,I.tok _,⟨_,rfl⟩,q⟩
theorem Fw{f:Value→Value→Sem Value}{g:Int→Int→Bool}
  (rule:∀(i j:Int) (t u:Tok) (s:Shared) (Q:Value→Shared→Prop) (E:Value→Shared→Prop),Q (.bool (g i j)) s→wpAny (model X.prog X.w) X.A (f (.int i t) (.int j u)) Q E s) :
  OpR X f (rI0 fun i j=>.bl (g i j)):=by
 intro pins s σ H x y v u Q I rx ry h
 obtain⟨i,j,rfl,rfl,q⟩:=h
 obtain⟨t,rfl⟩:=rx
 obtain⟨t',rfl⟩:=ry
 exact rule i j t t' s _ _ ⟨.bl (g i j),H,I,rfl,q⟩
def xi(i j:Int):Prop:=0≤j∧j≤1000000∧i.natAbs<2 ^ 64
theorem Dc:OpR X (binaryOp .Add) (rI0 fun i j=>.int (i+j)):=Fv fun _ _ _ _ _ _ _ q=>add_int q
theorem CW:OpR X (binaryOp .Sub) (rI0 fun i j=>.int (i - j)):=Fv fun _ _ _ _ _ _ _ q=>sub_int q
theorem CZ:OpR X (binaryOp .Mod) (rI (fun _ j=>0<j) fun i j=>.int (i % j)):=opI fun i j _ _ _ _ _ hc q=>by
 have h1:(0:Int)<j:=hc
 exact mod_int' (by omega) (by rw[Int.fmod_eq_emod_of_nonneg i (by omega)];exact q)
theorem CY:OpR X (binaryOp .Pow) (rI xi fun i j=>.int (i ^ j.toNat)):=opI fun _ _ _ _ _ _ _ hc q=>pow_int_small hc.1 hc.2.1 hc.2.2 q
theorem unI{f:Value→Sem Value}{g:Int→Int}
  (rule:∀(i:Int) (t:Tok) (s:Shared) (Q:Value→Shared→Prop) (E:Value→Shared→Prop),Q (.int (g i) s.toks) { s with toks:=s.toks+1 }→wpAny (model X.prog X.w) X.A (f (.int i t)) Q E s) :
  UnR X f (rU fun i=>.int (g i)):=by
 intro pins s σ H x v Q I rx h
 obtain⟨i,rfl,q⟩:=h
 obtain⟨t,rfl⟩:=rx
 exact rule i t s _ _ ⟨.int (g i),H,I.tok _,⟨_,rfl⟩,q⟩
theorem Ca:UnR X (unaryOp .USub) (rU fun i=>.int (-i)):=unI fun _ _ _ _ _ q=>neg_int q
end
noncomputable def Fe:V→V→Bool
 | .non,.non=>true|.non,.int _=>true|.int _,.non=>true|.non,.bl _=>true|.bl _,.non=>true|.non,.str _=>true|.str _,.non=>true
 | .int _,.int _=>true|.bl _,.bl _=>true|.str _,.str _=>true|.byt _,.byt _=>true
 | .int _,.str _=>true|.str _,.int _=>true|.bl _,.str _=>true|.str _,.bl _=>true
 | _,_=>false
def rEq:R2:=fun x y H Q=>Fe x y=true∧Q (.bl (decide (x=y))) H
def rNe:R2:=fun x y H Q=>Fe x y=true∧Q (.bl (!decide (x=y))) H
theorem qA{i j:Int}:decide (V.int i=V.int j)=(i == j):=by
 rw[Mq]
 simp
theorem wy{i j:Bool}:decide (V.bl i=V.bl j)=(i == j):=by
 rw[Mq]
 simp
theorem qz{i j:Str}:decide (V.str i=V.str j)=(i == j):=by
 rw[Mq]
 simp
theorem qB{i j:Array UInt8}:decide (V.byt i=V.byt j)=(i.toList == j.toList):=by
 rw[Mq]
 cases i
 cases j
 simp
section
variable {X:Cx} {a b c:Expr} {ta tb tc:TE} {pos:Pos}
theorem o6{pins:List (Addr × Obj)}{σ:St}{H:Hp}{s:Shared}{Q:VK}{k k':Bool}(I:Inv X pins σ H s)(q:Q (.bl k) H)(e:k=k'):EP X pins σ Q (.bool k') s:=by
 subst e
 exact⟨.bl k,H,I,rfl,q⟩
theorem Bb:OpR X (compareOp .Eq) rEq:=by
 intro pins s σ H x y v u Q I rx ry h
 obtain⟨hs,q⟩:=h
 cases x with
 | non =>
  cases rx
  cases y with
  | non=>cases ry;exact PySem.EqNone.eq_none_none (o6 I q (by simp))
  | bl j=>cases ry;exact PySem.EqNone.eq_none_bool (o6 I q (by simp))
  | int j=>obtain⟨t',rfl⟩:=ry;exact PySem.EqNone.eq_none_int (o6 I q (by simp))
  | str j=>obtain⟨t',rfl⟩:=ry;exact PySem.EqNone.eq_none_str (o6 I q (by simp))
  | _=>exact absurd (show false=true from hs) Ku
 | bl i =>
  cases rx
  cases y with
  | non=>cases ry;exact PySem.EqNone.eq_bool_none (o6 I q (by simp))
  | bl j=>cases ry;exact eq_bool (o6 I q wy)
  | str j=>obtain⟨t',rfl⟩:=ry;exact PySem.EqMixed.eq_bool_str (o6 I q (by simp))
  | _=>exact absurd (show false=true from hs) Ku
 | int i =>
  obtain⟨t,rfl⟩:=rx
  cases y with
  | non=>cases ry;exact PySem.EqNone.eq_int_none (o6 I q (by simp))
  | int j=>obtain⟨t',rfl⟩:=ry;exact eq_int (o6 I q qA)
  | str j=>obtain⟨t',rfl⟩:=ry;exact PySem.EqMixed.eq_int_str (o6 I q (by simp))
  | _=>exact absurd (show false=true from hs) Ku
 | str i =>
  obtain⟨t,rfl⟩:=rx
  cases y with
  | non=>cases ry;exact PySem.EqNone.eq_str_none (o6 I q (by simp))
  | bl j=>cases ry;exact PySem.EqMixed.eq_str_bool (o6 I q (by simp))
  | int j=>obtain⟨t',rfl⟩:=ry;exact PySem.EqMixed.eq_str_int (o6 I q (by simp))
  | str j=>obtain⟨t',rfl⟩:=ry;exact eq_str (o6 I q qz)
  | _=>exact absurd (show false=true from hs) Ku
 | byt i =>
  obtain⟨t,rfl⟩:=rx
  cases y with
  | byt j=>obtain⟨t',rfl⟩:=ry;exact PySem.W.eq_bytes (o6 I q qB)
  | _=>exact absurd (show false=true from hs) Ku
 | _=>cases y<;>exact absurd (show false=true from hs) Ku
theorem Ba:OpR X (compareOp .NotEq) rNe:=by
 intro pins s σ H x y v u Q I rx ry h
 obtain⟨hs,q⟩:=h
 cases x with
 | non =>
  cases rx
  cases y with
  | non=>cases ry;exact PySem.EqNone.ne_none_none (o6 I q (by simp))
  | bl j=>cases ry;exact PySem.EqNone.ne_none_bool (o6 I q (by simp))
  | int j=>obtain⟨t',rfl⟩:=ry;exact PySem.EqNone.ne_none_int (o6 I q (by simp))
  | str j=>obtain⟨t',rfl⟩:=ry;exact PySem.EqNone.ne_none_str (o6 I q (by simp))
  | _=>exact absurd (show false=true from hs) Ku
 | bl i =>
  cases rx
  cases y with
  | non=>cases ry;exact PySem.EqNone.ne_bool_none (o6 I q (by simp))
  | bl j=>cases ry;exact ne_bool (o6 I q (congrArg not wy))
  | str j=>obtain⟨t',rfl⟩:=ry;exact PySem.EqMixed.ne_bool_str (o6 I q (by simp))
  | _=>exact absurd (show false=true from hs) Ku
 | int i =>
  obtain⟨t,rfl⟩:=rx
  cases y with
  | non=>cases ry;exact PySem.EqNone.ne_int_none (o6 I q (by simp))
  | int j=>obtain⟨t',rfl⟩:=ry;exact ne_int (o6 I q (congrArg not qA))
  | str j=>obtain⟨t',rfl⟩:=ry;exact PySem.EqMixed.ne_int_str (o6 I q (by simp))
  | _=>exact absurd (show false=true from hs) Ku
 | str i =>
  obtain⟨t,rfl⟩:=rx
  cases y with
  | non=>cases ry;exact PySem.EqNone.ne_str_none (o6 I q (by simp))
  | bl j=>cases ry;exact PySem.EqMixed.ne_str_bool (o6 I q (by simp))
  | int j=>obtain⟨t',rfl⟩:=ry;exact PySem.EqMixed.ne_str_int (o6 I q (by simp))
  | str j=>obtain⟨t',rfl⟩:=ry;exact ne_str (o6 I q (congrArg not qz))
  | _=>exact absurd (show false=true from hs) Ku
 | byt i =>
  obtain⟨t,rfl⟩:=rx
  cases y with
  | byt j=>obtain⟨t',rfl⟩:=ry;exact PySem.W.ne_bytes (o6 I q (congrArg not qB))
  | _=>exact absurd (show false=true from hs) Ku
 | _=>cases y<;>exact absurd (show false=true from hs) Ku
theorem Ft:OpR X (compareOp .Lt) (rI0 fun i j=>.bl (decide (i<j))):=Fw fun _ _ _ _ _ _ _ q=>lt_int q
theorem Fu:OpR X (compareOp .Gt) (rI0 fun i j=>.bl (decide (j<i))):=Fw fun _ _ _ _ _ _ _ q=>gt_int q
theorem OpR.or{f:Value→Value→Sem Value}{r r':R2}(h:OpR X f r)(h':OpR X f r'):OpR X f (fun x y H Q=>r x y H Q∨r' x y H Q):=by
 intro pins s σ H x y v u Q I rx ry q
 rcases q with q|q
 ·exact h pins s σ H x y v u Q I rx ry q
 ·exact h' pins s σ H x y v u Q I rx ry q
theorem vD(b:Expr){op:CmpOp}(h:op ≠ .In:=by decide)(h2:op ≠ .NotIn:=by decide):behindInMarks op b=false:=by
 have e1:(op == CmpOp.In)=false:=by cases op<;>first|rfl|exact absurd rfl h
 have e2:(op == CmpOp.NotIn)=false:=by cases op<;>first|rfl|exact absurd rfl h2
 cases b<;>simp[behindInMarks,e1,e2]
theorem yP{op:CmpOp}{r:R2}(ho:OpR X (compareOp op) r)(ha:PE X a ta)(hb:PE X b tb)(hm:behindInMarks op b=false):PE X (.Compare a [op] [b] pos) (tOp r ta tb):=by
 intro pins s σ H Q I h
 exact wpAny_Compare1 (DT ha hb I h fun v u s2 x y H2 I2 rx ry q=>ho pins s2 σ H2 x y v u Q I2 rx ry q) hm
def EN(t:TE):TT:=fun σ H Q=>t σ H fun x H'=>∃ k,x = .bl k∧Q k H'
theorem yB{op:CmpOp}{r:R2}(ho:OpR X (compareOp op) r)(ha:PE X a ta)(hb:PE X b tb)(hm:behindInMarks op b=false):PT X (.Compare a [op] [b] pos) (EN (tOp r ta tb)):=by
 intro pins s σ H Q I h
 refine wpAny_isTrue_Compare1 (thn (ha pins s σ H _ I h) fun v s1 ⟨x,H1,I1,r1,q1⟩=>thn (hb pins s1 σ H1 _ I1 q1) fun u s2 ⟨y,H2,I2,r2,q2⟩ =>
  thn (ho pins s2 σ H2 x y v u _ I2 r1 r2 q2) fun c s3 ⟨z,H3,I3,r3,k,e,q3⟩=>?_) hm
 subst e
 cases r3
 exact wpAny_truthy_bool ⟨H3,I3,q3⟩
theorem jh:(sizeLine:Nat)<2 ^ 63:=by rw[sizeLine_eq];decide
theorem kl{x:V}{us:List Value}(r:i8 [x] us):∃ u,us=[u]∧o7 x u:=by
 cases r with
 | cons r1 r2=>cases r2;exact⟨_,rfl,r1⟩
theorem AU{x y:V}{us:List Value}(r:i8 [x,y] us):∃ u w',us=[u,w']∧o7 x u∧o7 y w':=by
 cases r with
 | cons r1 r2 =>
  cases r2 with
  | cons r3 r4=>cases r4;exact⟨_,_,rfl,r1,r3⟩
theorem wL:C3 X (.builtin "abs") (fun xs H Q=>∃ i,xs=[.int i]∧Q (.int (if i<0 then -i else i)) H):=by
 intro pins s σ H xs us Q I r h
 obtain⟨i,rfl,q⟩:=h
 obtain⟨u,rfl,t,rfl⟩:=kl r
 exact call_abs_int fun u tk=>⟨.int (if i<0 then -i else i),H,I.tok _,⟨_,rfl⟩,q⟩
theorem rY(hc:X.calm=true):C3 X (.builtin "max") (fun xs H Q=>∃ i j,xs=[.int i,.int j]∧Q (.int (if j > i then j else i)) H):=by
 intro pins s σ H xs us Q I r h
 obtain⟨i,j,rfl,q⟩:=h
 obtain⟨u,w',rfl,⟨t,rfl⟩,⟨t',rfl⟩⟩:=AU r
 refine max_two_ints (I.ok.hd hc) fun h' tk k=>⟨_,H,I.kept k,?_,q⟩
 by_cases hj:j > i
 ·rw[if_pos hj,if_pos hj];exact⟨_,rfl⟩
 ·rw[if_neg hj,if_neg hj];exact⟨_,rfl⟩
end
structure DZ(h:Heap)(x dx C:Addr)(mA:Str→Option Value):Prop where
 obj:h.get? x=some (PySem.W.instObj C dx)
 ns:h.Ns1 dx mA
 ne:dx≠x
theorem rG{h:Heap}{dx:Addr}{mA:Str→Option Value}(n:h.Ns1 dx mA):∃ od,h.get? dx=some od∧∀ name,PySem.W.lookIn name od=some (mA name):=by
 obtain⟨o,es,ep,ho,hd,hk,_,hm⟩:=n
 refine⟨o,ho,fun name=>?_⟩
 have e:=hm name
 unfold nsFind findBy at e
 rw[← Array.find?_toList]at e
 unfold PySem.W.lookIn
 rw[hd]
 dsimp only
 split
 ·rename_i y q
  rw[q]at e
  exact congrArg some e
 ·rename_i q
  rw[q]at e
  have a:es.toList.any (·.refKey)=false:=by
   rw[List.any_eq_false]
   intro y hy
   obtain⟨z,t,hkey⟩:=hk y (Array.mem_toList_iff.mp hy)
   simp[DictEntry.refKey,hkey]
  have a':¬ es.toList.any (·.refKey)=true:=by rw[a];exact Ku
  rw[if_neg a']
  exact congrArg some e
theorem DZ.look{h:Heap}{x dx C:Addr}{mA:Str→Option Value}(I:DZ h x dx C mA):∃ od,PySem.W.InstAt h x (PySem.W.instObj C dx) C (some od)∧∀ name,PySem.W.lookIn name od=some (mA name) :=
 let ⟨od,ho,hl⟩:=rG I.ns
 ⟨od,⟨I.obj,rfl,rfl,ho⟩,hl⟩
section
variable {prog:Program} {w:World} {A:Around} {E:Value→Shared→Prop} {s:Shared} {K:JB} {x dx C f:Addr} {mA:Str→Option Value} {name:Str} {v:Value}
end
section
variable {P:Program} {w:World} {H H':Hp} {h h':Heap} {a C dx:Addr} {fs fs':List (Str × V)}
theorem zF(hok:HOk P w H h)(e:H a=some (.ins C dx fs)):∃ mA,DZ h a dx C mA∧(∀ f,DY (fs.lookup f) (mA f))∧PySem.Within mA (fs.map (·.1))∧fs.length≤1000∧H dx=some (.own a):=by
 obtain⟨d,z,ne,ob,mA,n,r,q⟩:=(show B2 P w H h a (.ins C dx fs)from hok a _ e)
 exact⟨mA,⟨ob,n,ne⟩,r,q,z,d⟩
end
structure Cls(K:JB)(C:Addr):Prop where
 pg:PySem.W.plainGet K C Str.empty=true
 hd:PySem.W.hasDictIn K C=true
 po:PySem.W.plainOver K C=true
 sa:PySem.W.findIn K (.ref C) "__setattr__" = some (some (.builtin "object.__setattr__"))
theorem Cls.get{K:JB}{C:Addr}(c:Cls K C)(f:Str):PySem.W.plainGet K C f=true:=c.pg
section
variable {X:Cx} {pins:List (Addr × Obj)} {σ:St} {H:Hp} {s:Shared} {a C dx:Addr} {fs:List (Str × V)} {f:Str} {v:V} {A:Around} {E:Value→Shared→Prop}
end
section
variable {X:Cx} {o e value:Expr} {f:Str} {pos pos' tpos:Pos} {ta tv:TE}
end
section
variable {X:Cx} {pins:List (Addr × Obj)} {σ:St} {H:Hp} {s:Shared} {A:Around} {E:Value→Shared→Prop} {Q:Value→Shared→Prop} {c:Value} {b:Bool}
inductive bR (K:JB) (H:Hp):V→Value→Prop where
 | non:bR K H .non (.type "NoneType")
 | bl (x:Bool):bR K H (.bl x) (.type "bool")
 | int (i:Int):bR K H (.int i) (.type "int")
 | str (x:Str):bR K H (.str x) (.type "str")
 | flt (x:UInt64):bR K H (.flt x) (.type "float")
 | lst {a:Addr} {xs:List V} (e:H a=some (.lst xs)):bR K H (.ref a) (.type "list")
 | frz {a:Addr} {o:Obj} {xs:List V} (e:H a=some (.frz o (.lst xs))):bR K H (.ref a) (.type "list")
 | tup {a:Addr} {xs:List V} (e:H a=some (.tup xs)):bR K H (.ref a) (.type "tuple")
 | dK {a:Addr} {kvs:List (Key × V)} (e:H a=some (.dK kvs)):bR K H (.ref a) (.type "dict")
 | dT {a:Addr} {kvs:List (List Key × V)} (e:H a=some (.dT kvs)):bR K H (.ref a) (.type "dict")
 | ins {a C dx:Addr} {fs:List (Str × V)} (e:H a=some (.ins C dx fs)) (cl:Cls K C) (ha:PySem.W.findIn K (.ref C) "__class__" = some (some (.builtin "object.__class__")))
   (hn:PySem.W.specialIn K (.builtin "object.__class__") "__get__" = some (some (.builtin "getset_descriptor.__get__"))) (htk:PySem.W.takesIn K (.builtin "object.__class__")=some true)
   (hm:PySem.W.mroIn K C (.type "object")=some true):bR K H (.ref a) (.ref C)
theorem M0{x:V}{u t:Value}(I:Inv X pins σ H s)(rx:o7 x u)(ty:bR X.K H x t)(e:PySem.W.kitOne X.K t c=some b)(h:∀ tk,Q (.bool b) { s with toks:=tk }) :
  wpAny (model X.prog X.w) A (call (.builtin "isinstance") [u,c]) Q E s:=by
 cases ty with
 | non=>cases(show u=Value.none from rx);exact PySem.W.kia_one PySem.W.kitx_none I.kIn True.intro e (fun z=>nomatch z) h
 | bl y=>cases(show u=Value.bool y from rx);exact PySem.W.kia_one PySem.W.kitx_bool I.kIn True.intro e (fun z=>nomatch z) h
 | int i=>obtain⟨t,q⟩:=(show ∃ t,u=Value.int i t from rx);cases q;exact PySem.W.kia_one PySem.W.kitx_int I.kIn True.intro e (fun z=>nomatch z) h
 | str y=>obtain⟨t,q⟩:=(show ∃ t,u=Value.str y t from rx);cases q;exact PySem.W.kia_one PySem.W.kitx_str I.kIn True.intro e (fun z=>nomatch z) h
 | flt y=>obtain⟨t,q⟩:=(show ∃ t,u=Value.float y t from rx);cases q;exact PySem.W.kia_one PySem.W.kitx_float I.kIn True.intro e (fun z=>nomatch z) h
 | @lst a xs ea =>
  cases(show u=Value.ref a from rx)
  obtain⟨_,_,n,_,h1⟩:=(show B2 X.prog X.w H s.heap a (.lst xs)from I.hok a _ ea)
  exact PySem.W.kia_one PySem.W.kitx_list I.kIn ⟨_,h1,rfl⟩ e (fun z=>nomatch z) h
 | @frz a ob xs ea =>
  cases(show u=Value.ref a from rx)
  obtain⟨_,_,_,n,_,h1⟩:=(show B2 X.prog X.w H s.heap a (.frz ob (.lst xs))from I.hok a _ ea)
  exact PySem.W.kia_one PySem.W.kitx_list I.kIn ⟨_,h1,rfl⟩ e (fun z=>nomatch z) h
 | @tup a xs ea =>
  cases(show u=Value.ref a from rx)
  obtain⟨_,_,_,p⟩:=(show B2 X.prog X.w H s.heap a (.tup xs)from I.hok a _ ea)
  obtain⟨o,h1,h2,_⟩:=p
  exact PySem.W.kia_one PySem.W.kitx_tuple I.kIn ⟨o,h1,h2⟩ e (fun z=>nomatch z) h
 | @dK a kvs ea =>
  cases(show u=Value.ref a from rx)
  obtain⟨_,_,vs,_,p⟩:=(show B2 X.prog X.w H s.heap a (.dK kvs)from I.hok a _ ea)
  obtain⟨o,es,ep,h1,h2,_⟩:=p
  exact PySem.W.kia_one PySem.W.kitx_dict I.kIn ⟨o,h1,h2.1⟩ e (fun z=>nomatch z) h
 | @dT a kvs ea =>
  cases(show u=Value.ref a from rx)
  obtain⟨_,_,xs,_,o,es,ep,h1,h2,_⟩:=(show B2 X.prog X.w H s.heap a (.dT kvs)from I.hok a _ ea)
  exact PySem.W.kia_one PySem.W.kitx_dict I.kIn ⟨o,h1,h2.1⟩ e (fun z=>nomatch z) h
 | @ins a C dx fs ea cl ha hn htk hm =>
  cases(show u=Value.ref a from rx)
  obtain⟨mA,O,_⟩:=zF I.hok ea
  obtain⟨od,J,_⟩:=O.look
  exact PySem.W.kia_one (PySem.W.kitx_own (cl.get _) cl.hd ha hn htk hm) I.kIn J e (fun z=>nomatch z) h
end
structure F5(k:Nat)(A:Around):Prop where
 hd:A.handled=none
 dp:A.depth+3*k+5<recursionLimit
 un:A.units+16*k+200<cLine
theorem F5.mono{j k:Nat}{A:Around}(r:F5 k A)(h:j≤k):F5 j A:=⟨r.hd,by have:=r.dp;omega,by have:=r.un;omega⟩
theorem F5.deeper{k:Nat}{A:Around}(r:F5 (k+1) A)(env:Env):F5 k (A.deeper env) :=
 ⟨r.hd,by have:=r.dp;show A.depth+1+3*k+5<_;omega,by have:=r.un;show A.units+3+16*k+200<_;omega⟩
theorem F5.in1{k:Nat}{A:Around}(r:F5 (k+1) A):F5 k A.in1 :=
 ⟨r.hd,by have:=r.dp;show A.depth+3*k+5<_;omega,by have:=r.un;show A.units+1+16*k+200<_;omega⟩
theorem F5.depth{k:Nat}{A:Around}(r:F5 k A):A.depth<recursionLimit:=by have:=r.dp;omega
theorem F5.units{k:Nat}{A:Around}(r:F5 k A):A.units+64<cLine:=by have:=r.un;omega
def GN:TA:=fun _ H Q=>Q [] H
def EY(ta:TE)(tr:TA):TA:=fun σ H Q=>ta σ H fun x H1=>tr σ H1 fun xs H2=>Q (x :: xs) H2
section
variable {X:Cx} {e:Expr} {es:List Expr} {te:TE} {t:TA} {pos:Pos}
theorem CU:PA X [] GN:=fun _ _ _ _ H Q I h=>Calls.spliced_nil ⟨[],H,I,.nil,h⟩
theorem yT(ha:PE X e te)(hr:PA X es t)(hs:starEach (e :: es) X.env=(false,eval e X.env) :: starEach es X.env:=by rfl):PA X (e :: es) (EY te t):=by
 intro pos pins s σ H Q I h
 rw[hs]
 show wpAny _ _ (spliced ((false,eval e X.env) :: backTo pos (starEach es X.env))) _ _ s
 refine Calls.spliced_cons (thn (ha pins s σ H _ I h) fun u s1 zz=>?_)
 obtain⟨x,H1,I1,r1,q1⟩:=zz
 exact thn (hr pos pins s1 σ H1 _ I1 q1) fun us s2 ⟨xs,H2,I2,r2,q2⟩=>⟨x :: xs,H2,I2,.cons r1 r2,q2⟩
def GH(t:TA):TE:=fun σ H Q=>t σ H fun xs H1=>xs.length≤sizeLine∧∀ p,H1 p=none→Q (.ref p) (upd H1 p (.tup xs))
def GO(t:TA):TE:=fun σ H Q=>t σ H fun xs H1=>xs.length≤sizeLine∧∀ p,H1 p=none→Q (.ref p) (upd H1 p (.lst xs))
theorem CM{x1}(h:PA X es t):PE X (.Tuple es x1 pos) (GH t):=by
 intro pins s σ H Q I hq
 refine wpAny_Tuple_spliced (thn (h pos pins s σ H _ I hq) fun us s1 ⟨xs,H1,I1,r,z,q⟩=>⟨by rw[← r.length];exact z,?_⟩)
 have hf:H1 s1.heap.objs.size=none:=I1.hok.fresh (JY _)
 refine⟨.ref s1.heap.objs.size,upd H1 s1.heap.objs.size (.tup xs),I1.laid (t':=s1.toks) (fun b u e=>JL _ e) (JY _) ?_,rfl,q _ hf⟩
 exact⟨z,us,r,⟨_,Kk _ rfl,rfl,_,rfl⟩⟩
theorem vd(h:PA X es t):PE X (.List es pos) (GO t):=by
 intro pins s σ H Q I hq
 refine wpAny_List_spliced (thn (h pos pins s σ H _ I hq) fun us s1 ⟨xs,H1,I1,r,z,q⟩=>⟨by rw[← r.length];exact z,?_⟩)
 have hf:H1 s1.heap.objs.size=none:=I1.hok.fresh (JY _)
 refine⟨.ref s1.heap.objs.size,upd H1 s1.heap.objs.size (.lst xs),I1.laid (t':=s1.toks) (fun b u e=>JL _ e) (JY _) ?_,rfl,q _ hf⟩
 exact⟨z,us,0,r,Kk _ rfl⟩
end
noncomputable abbrev Sp:=List V→Hp→VK→XK→Prop
noncomputable abbrev CXT:=List Env→Hp→Shared→XK→Value→Shared→Prop
structure nS(P:Program)(w:World)(K:JB)(mg:Str→Option Value)(base:Heap)(A:Around)(outer:List Env)(s:Shared)(H:Hp):Prop where
 frames:A.frames=some outer
 mod:Mod K mg base
 bs:∀ b o,base.get? b=some o→s.heap.get? b=some o∧H b=none
 bsz:base.objs.size≤s.heap.objs.size
 funs:s.heap.FunFrames base outer
 frf:∀ b∈frs outer,H b=none
 hok:HOk P w H s.heap
 bare:AllBare s.gens
def CE(outer:List Env)(P:Program)(w:World)(H:Hp)(s:Shared)(Q:VK)(u:Value)(s':Shared):Prop :=
 ∃ v H',s'.os=s.os∧AllBare s'.gens∧Un (frs outer) [] H H' s.heap s'.heap∧HOk P w H' s'.heap∧o7 v u∧Q v H'
def CR(CX:CXT)(outer:List Env)(P:Program)(w:World)(H:Hp)(s:Shared)(Q:VK)(E:XK)(r:Result)(s':Shared):Prop :=
 match r with
 | .ok (.ret u)=>CE outer P w H s Q u s'
 | .ok _=>False
 | .error e=>CX outer H s E e s'
structure P1(P:Program)(w:World)(K:JB)(mg:Str→Option Value)(base:Heap)(CX:CXT)(k:Nat)(f:Addr)(fd:FuncData)(ps:List Str)(sp:Sp):Prop where
 len:∀ vs H Q E,sp vs H Q E→vs.length=ps.length
 run:∀(A:Around) (outer:List Env) (s:Shared) (H:Hp) (args:Args) (us:List Value) (vs:List V) (Q:VK) (E:XK),F5 k A→nS P w K mg base A outer s H→BindsTo s fd args (ps.zip us)→i8 vs us→sp vs H Q E →
  codeAny (model P w) A (.call (.ref f) args) (CR CX outer P w H s Q E) s
theorem P1.mono{P:Program}{w:World}{K:JB}{mg:Str→Option Value}{base:Heap}{CX:CXT}{j k:Nat}{f:Addr}{fd:FuncData}{ps:List Str}{sp:Sp}(F:P1 P w K mg base CX j f fd ps sp)(h:j≤k) :
  P1 P w K mg base CX k f fd ps sp:=⟨F.len,fun A outer s H args us vs Q E hr=>F.run A outer s H args us vs Q E (hr.mono h)⟩
theorem P1.imp{P:Program}{w:World}{K:JB}{mg:Str→Option Value}{base:Heap}{CX:CXT}{k:Nat}{f:Addr}{fd:FuncData}{ps:List Str}{sp sp':Sp}(F:P1 P w K mg base CX k f fd ps sp)
  (h:∀ vs H Q E,sp' vs H Q E→sp vs H Q E):P1 P w K mg base CX k f fd ps sp' :=
 ⟨fun vs H Q E q=>F.len vs H Q E (h _ _ _ _ q),fun A outer s H args us vs Q E hr he hb hv hs=>F.run A outer s H args us vs Q E hr he hb hv (h _ _ _ _ hs)⟩
theorem nS.in1{P:Program}{w:World}{K:JB}{mg:Str→Option Value}{base:Heap}{A:Around}{outer:List Env}{s:Shared}{H:Hp}(e:nS P w K mg base A outer s H) :
  nS P w K mg base A.in1 outer s H:=⟨e.frames,e.mod,e.bs,e.bsz,e.funs,e.frf,e.hok,e.bare⟩
section
variable {X:Cx} {pins:List (Addr × Obj)} {σ:St} {H:Hp} {s s':Shared}
theorem Inv.env0(I:Inv X pins σ H s):nS X.prog X.w X.K X.mg X.base X.A X.stack s H :=
 ⟨I.ok.frames,I.ok.mod,I.bs,JR I.ok.bsz I.sz,I.stack,I.stkFree,I.hok,I.bare⟩
theorem Inv.after{Q:VK}{u:Value}(I:Inv X pins σ H s)(h:CE X.stack X.prog X.w H s Q u s'):EP X pins σ Q u s':=by
 obtain⟨v,H',os,bare,un,hok,r,q⟩:=h
 obtain⟨hh,g,d,t,os'⟩:=s'
 obtain rfl:os'=s.os:=os
 exact⟨v,H',I.call (h':=hh) (g':=g) (d':=d) (t':=t) (ch:=[]) un hok bare (fun b z=>absurd z (by simp)),r,q⟩
end
def EZ(sp:Sp)(dvs:List V)(E:XK)(t:TA):TE:=fun σ H Q=>t σ H fun vs H1=>sp (vs++dvs) H1 Q E
def eW(K:JB)(fd:FuncData)(ps:List Str)(ds:List Value):Prop :=
 ∀(s:Shared) (us:List Value),K.In s.heap→(us++ds).length=ps.length→BindsTo s fd ⟨us,[]⟩ (ps.zip (us++ds))
theorem eW.all{K:JB}{fd:FuncData}{ps:List Str}(h:∀ us:List Value,us.length=ps.length→bindArgs fd ⟨us,[]⟩=pure (ps.zip us)):eW K fd ps []:=fun s us _ hl=>by
 rw[LB]at hl ⊢
 exact .of_eq (h us hl)
def jL(CX:CXT)(X:Cx)(E:XK):Prop:=∀(pins:List (Addr × Obj)) (σ:St) (H:Hp) (s:Shared) (e:Value) (s':Shared),Inv X pins σ H s→CX X.stack H s E e s'→X.xe e s'
section
variable {X:Cx} {CX:CXT} {k:Nat} {f C:Addr} {fd:FuncData} {ps:List Str} {sp:Sp} {dvs:List V} {ds:List Value} {E:XK} {x m:Str} {p pos apos:Pos} {e o:Expr} {es:List Expr} {ta:TE} {t:TA}
theorem Cr{pins:List (Addr × Obj)}{σ:St}{H:Hp}{s:Shared}{Q:VK}{us:List Value}{vs:List V}(F:P1 X.prog X.w X.K X.mg X.base CX k f fd ps sp)(hr:F5 k X.A)(hb:eW X.K fd ps ds)(hd:i8 dvs ds)(hx:jL CX X E)
  (I:Inv X pins σ H s) (r:i8 vs us) (h:sp (vs++dvs) H Q E):wpAny (model X.prog X.w) X.A (call (.ref f) us) (EP X pins σ Q) X.xe s:=by
 have r2:i8 (vs++dvs) (us++ds):=r.append hd
 have hl:(us++ds).length=ps.length:=by rw[← r2.length];exact F.len _ _ _ _ h
 refine wpAny_call (codeAny_mono (F.run X.A X.stack s H ⟨us,[]⟩ (us++ds) (vs++dvs) Q E hr I.env0 (hb s us I.kIn hl) r2 h) fun r s' hq=>?_)
 cases r with
 | error e=>exact hx pins σ H s e s' I hq
 | ok fl =>
  cases fl with
  | ret u=>exact I.after hq
  | next=>exact False.elim hq
  | brk=>exact False.elim hq
  | cont=>exact False.elim hq
theorem yQ(F:P1 X.prog X.w X.K X.mg X.base CX k f fd ps sp)(hr:F5 k X.A)(hg:Gl X x)(hm:X.mg x=some (.ref f))(hk:PySem.W.keepIn X.K (.ref f)=true)(hb:eW X.K fd ps ds)(hd:i8 dvs ds)(hx:jL CX X E)
  (ha:PA X (e :: es) t) (hdb:(x == ("__debug__" : Str))=false:=by decide) (he:starEach (e :: es) X.env=(false,eval e X.env) :: starEach es X.env:=by rfl) (hpl:(backTo pos (starEach es X.env)).any (·.1)=false:=by rfl) :
  PE X (.Call (.Name x p) (e :: es) [] pos) (EZ sp dvs E t):=by
 intro pins s σ H Q I h
 refine wpAny_Call_Name_kw (qe I hg hm ?_ hdb)
 refine PySem.W.callWith_K (h₀:=X.base) I.ok.mod.kin hk (thn (ha pos pins s σ H _ I h) fun us s1 ⟨vs,H1,I1,r,q⟩=>⟨I1.kIn,?_⟩) he hpl
 exact Cr F hr hb hd hx I1 r q
end
section
variable {X:Cx} {CX:CXT} {k:Nat} {f C:Addr} {fd:FuncData} {ps ks:List Str} {sp:Sp} {E:XK} {x m:Str} {p pos apos kpos:Pos} {e o:Expr} {es:List Expr} {kws:List Keyword} {te ta:TE} {t tk:TA} {nm:Option Str}
variable {g:List Value→List Value→List Value} {gV:List V→List V→List V}
end
structure e8(N P:List Str)(sc:Scope):Prop where
 kind:sc.kind = .function
 co:sc.isCoroutine=false
 gen:sc.isGenerator=false
 nd:N.Nodup
 pre:N.take P.length=P
 par:∀ x∈P,sc.names.lookup x=some .local∨sc.names.lookup x=some .cell
 nofree:∀ y∈sc.names,y.2 ≠ .free
theorem gE{kindOf:Str→Option NameKind}{x:Str}:∀{binds:List (Str × Value)} {m:Str→Option Value},(∀ v,(x,v)∉binds)→bindL kindOf binds m x=m x
 | [],_,_=>rfl
 | (n,v) :: r,m,h=>by
  unfold bindL
  rw[gE fun w hw=>h w (JF _ hw)]
  split
  ·have:x≠n:=by rintro rfl;exact h v JH
   simp[this]
  ·rfl
theorem gH{kindOf:Str→Option NameKind}{x:Str}:∀{binds:List (Str × Value)} {m:Str→Option Value},(∀ v,(x,v)∉binds)→bindC kindOf binds m x=m x
 | [],_,_=>rfl
 | (n,v) :: r,m,h=>by
  unfold bindC
  rw[gH fun w hw=>h w (JF _ hw)]
  split
  ·rfl
  ·have:x≠n:=by rintro rfl;exact h v JH
   simp[this]
theorem gG{kindOf:Str→Option NameKind}{x:Str}{v:Value}:∀{P:List Str} {vs:List Value} {i:Nat} {m:Str→Option Value},P.Nodup→P[i]? = some x→vs[i]? = some v→kindOf x=some .local →
  bindL kindOf (P.zip vs) m x=some v
 | [],_,_,_,_,h,_,_=>by simp at h
 | _ :: _,[],_,_,_,_,h,_=>by simp at h
 | p :: P,w :: vs,0,m,nd,h1,h2,hk=>by
  simp at h1 h2;subst h1;subst h2
  show bindL kindOf ((p,w) :: P.zip vs) m p=_
  unfold bindL
  rw[gE fun v hv=>(Mr.mp nd).1 (Lq hv).1,if_pos hk]
  simp
 | p :: P,w :: vs,i+1,m,nd,h1,h2,hk=>by
  show bindL kindOf ((p,w) :: P.zip vs) m x=_
  unfold bindL
  exact gG (i:=i) (Mr.mp nd).2 (by simpa using h1) (by simpa using h2) hk
theorem gJ{kindOf:Str→Option NameKind}{x:Str}{v:Value}:∀{P:List Str} {vs:List Value} {i:Nat} {m:Str→Option Value},P.Nodup→P[i]? = some x→vs[i]? = some v→kindOf x≠some .local →
  bindC kindOf (P.zip vs) m x=some v
 | [],_,_,_,_,h,_,_=>by simp at h
 | _ :: _,[],_,_,_,_,h,_=>by simp at h
 | p :: P,w :: vs,0,m,nd,h1,h2,hk=>by
  simp at h1 h2;subst h1;subst h2
  show bindC kindOf ((p,w) :: P.zip vs) m p=_
  unfold bindC
  rw[gH fun v hv=>(Mr.mp nd).1 (Lq hv).1,if_neg hk]
  simp
 | p :: P,w :: vs,i+1,m,nd,h1,h2,hk=>by
  show bindC kindOf ((p,w) :: P.zip vs) m x=_
  unfold bindC
  exact gJ (i:=i) (Mr.mp nd).2 (by simpa using h1) (by simpa using h2) hk
noncomputable def start(N:List Str)(vs:List V):St:=vs.map some++LA (N.length - vs.length) none
noncomputable def lO(CX:CXT)(P:Program)(w:World)(K:JB)(mg:Str→Option Value)(base:Heap)(N:List Str)(qual:Str)(scope:Scope)(f:Addr)(cd:Value)(A:Around)(outer:List Env)(s:Shared)(H:Hp)(E:XK):Cx where
 prog:=P
 w:=w
 K:=K
 mg:=mg
 base:=base
 A:=A.deeper (envOfC qual scope s.heap.objs.size f cd)
 N:=N
 s₀:=s
 H₀:=H
 env:=envOfC qual scope s.heap.objs.size f cd
 outer:=outer
 stack:=envOfC qual scope s.heap.objs.size f cd :: outer
 ex:=[]
 calm:=true
 fn:=fun _=>true
 pn:=[]
 xe:=fun e s'=>wpAny (model P w) (A.deeper (envOfC qual scope s.heap.objs.size f cd)) (leaving (envOfC qual scope s.heap.objs.size f cd) e) (fun _ s''=>CX outer H s E e s'') (fun e' s''=>CX outer H s E e' s'') s'
theorem lY{sc:Scope}{n:Nat}{x:Str}(h:sc.names.lookup x=some .cell):∃ c,(cellsFrom n sc.names []).lookup x=some c:=by
 have q:=PySem.W.cellsFrom_some sc.names n [] (.inl h)
 exact Option.isSome_iff_exists.mp q
theorem rN{CX:CXT}{P:Program}{w:World}{K:JB}{mg:Str→Option Value}{base:Heap}{N ps:List Str}{qual:Str}{scope:Scope}{f:Addr}{cd:Value}{A:Around}{outer:List Env}{s s1:Shared}{H:Hp}{E:XK}{us:List Value}{vs:List V}
  (S:e8 N ps scope) (hd:A.handled=none) (e0:nS P w K mg base A outer s H) (hl:vs.length=ps.length) (r:i8 vs us)
  (x:InCallC s s.heap.objs.size (bindL (envOfC qual scope s.heap.objs.size f cd).kindOf (ps.zip us) fun _=>none) (cellsFrom (s.heap.objs.size+1) scope.names []) (bindC (envOfC qual scope s.heap.objs.size f cd).kindOf (ps.zip us) fun _=>none) s1) :
  Inv (lO CX P w K mg base N qual scope f cd A outer s H E) [] (start N vs) H s1:=by
 have hpl:ps.length≤N.length:=by have:=congrArg LL S.pre;rw[JX]at this;omega
 obtain⟨h1,tk,rfl,hk⟩:=x.done
 have noA:∀ b:Addr,b∉(lO CX P w K mg base N qual scope f cd A outer s H E).ex:=fun b z=>absurd (show b∈([]:List Addr)from z) (by simp)
 refine⟨⟨e0.mod,S.kind,rfl,rfl,JY _,fun y z c h1 h2=>?_,fun y hy=>?_,fun y c _ h=>?_,fun _=>hd,Around.frames_deeper e0.frames,.inr ⟨rfl,rfl⟩,fun b z=>absurd z (noA b),e0.bs,e0.bsz,fun b _ _=>noA b,fun b z=>absurd z (noA b),e0.funs,e0.frf⟩,
  rfl,e0.bare,Un.kept hk,⟨_,x.toInCall.ns,fun i y v h1 h2 h3=>?_⟩,fun y c h=>⟨_,x.cell y c h⟩,e0.hok.fresh (JY _),fun y c h=>?_,fun p hp=>absurd (show p∈([]:List (Addr × Obj))from hp) (by simp),e0.hok.kept hk,?_⟩
 ·exact name_of_addr x.apart (PySem.mem_of_lookup h1) (PySem.mem_of_lookup h2)
 ·have hy:scope.names.lookup y=some .cell∨scope.names.lookup y=some .free:=hy
  rcases hy with hy|hy
  ·exact lY hy
  ·exact absurd rfl (S.nofree _ (PySem.mem_of_lookup hy))
 ·exact NP (x.above y c (PySem.mem_of_lookup h))
 ·have hi:i<vs.length:=by
   unfold start at h2
   by_cases hi:i<vs.length
   ·exact hi
   ·rw[KH (by simpa using hi)]at h2
    rw[Lk]at h2
    split at h2<;>cases h2
  have ha:vs[i]? = some v:=by
   unfold start at h2
   rw[Lc (by simpa using hi),Ki]at h2
   cases e:vs[i]? with
   | none=>rw[e]at h2;cases h2
   | some a=>rw[e]at h2;cases h2;rfl
  obtain⟨u,hu,rv⟩:=r.get ha
  have hp:ps[i]? = some y:=by
   rw[← S.pre,LM (by omega)];exact h1
  have ndP:ps.Nodup:=by rw[← S.pre];exact S.nd.sublist (List.take_sublist _ _)
  refine⟨u,rv,?_⟩
  rcases S.par y (Kd hp)with k|k
  ·exact .inl ⟨k,gG ndP hp hu k⟩
  ·obtain⟨c,e⟩:=lY (n:=s.heap.objs.size+1) k
   refine .inr ⟨.inl k,c,e,?_⟩
   have q:=x.cell y c e
   rw[gJ ndP hp hu (by show scope.names.lookup y≠_;rw[k];decide)]at q
   exact q
 ·exact e0.hok.fresh (NP (x.above y c (PySem.mem_of_lookup h)))
 ·unfold start
  show _=N.length
  rw[JQ,JD,LZ]
  omega
theorem FW{CX:CXT}{P:Program}{w:World}{K:JB}{mg:Str→Option Value}{base:Heap}{k:Nat}{f:Addr}{name qual:Str}{params:Arguments}{body:List Stmt}{scope:Scope}{dV kV doc pm cdv ct oc:Value}{an od:Option Addr}
  {osl:Array (Option Value)} {N ps:List Str} {sp:Sp} (lk:K.lookup f=some ⟨oc,od,.func (PySem.W.fnOf name qual params body scope dV kV doc pm an cdv ct),osl⟩) (hcd:PySem.W.codeIn K cdv qual=true) (S:e8 N ps scope)
  (len:∀ vs H Q E,sp vs H Q E→vs.length=ps.length)
  (hbody:∀(A:Around) (outer:List Env) (s:Shared) (H:Hp) (vs:List V) (Q:VK) (E:XK),F5 k (A.deeper (envOfC qual scope s.heap.objs.size f cdv))→sp vs H Q E →
   ∃ t,PSs (lO CX P w K mg base N qual scope f cdv A outer s H E) body t∧t { nx:=fun _ H'=>Q .non H',rt:=Q } (start N vs) H) :
  P1 P w K mg base CX (k+1) f (PySem.W.fnOf name qual params body scope dV kV doc pm an cdv ct) ps sp:=by
 refine⟨len,fun A outer s H args us vs Q E hr e0 hb r hsp=>?_⟩
 have hl:=len _ _ _ _ hsp
 have KX:K.In s.heap:=e0.mod.kin.keeps fun b o e=>(e0.bs b o e).1
 have lim:s.heap.NoLimit:=e0.mod.nolimit.keeps fun b o e=>(e0.bs b o e).1
 have hkind:∀ y∈ps.zip us,scope.names.lookup y.1=some .local∨(scope.names.lookup y.1=some .cell∧((cellsFrom (s.heap.objs.size+1) scope.names []).lookup y.1).isSome=true):=fun⟨n,v⟩ hy=>by
  rcases S.par n (Lq hy).1 with q|q
  ·exact .inl q
  ·exact .inr ⟨q,PySem.W.cellsFrom_some _ _ _ (.inl q)⟩
 refine codeAny_call_function hr.depth (KX _ _ lk) rfl S.co S.gen rfl (PySem.W.codeRec_of KX hcd) (hb _ _ _ _ ?_)
 refine wpAny_newFunctionEnv_cells S.kind hkind fun env he s1 x=>?_
 subst he
 refine⟨lim.keeps x.toInCall.keep,codeAny_func ?_⟩
 obtain⟨t,ht,hq⟩:=hbody A outer s H vs Q E (hr.deeper _) hsp
 have I:Inv (lO CX P w K mg base N qual scope f cdv A outer s H E) [] (start N vs) H s1:=rN S hr.hd e0 hl r x
 refine wpAny_mono (ht [] s1 (start N vs) H _ I hq) (fun fl s' hs=>?_) fun e s' hs=>hs
 have fin:∀{σ':St} {H':Hp} {v:V} {u:Value},Inv (lO CX P w K mg base N qual scope f cdv A outer s H E) [] σ' H' s'→o7 v u→Q v H'→CE outer P w H s Q u s' :=
  fun{σ' H' v u} J rv q=>⟨v,H',J.os,J.bare,J.base,J.hok,rv,q⟩
 cases fl with
 | ret u =>
  obtain⟨v,σ',H',J,rv,q⟩:=hs
  exact fin J rv q
 | next =>
  obtain⟨σ',H',J,q⟩:=hs
  exact fin (v:=V.non) (u:=Value.none) J rfl q
 | brk =>
  obtain⟨_,_,_,q⟩:=hs
  exact False.elim q
 | cont =>
  obtain⟨_,_,_,q⟩:=hs
  exact False.elim q
section
variable {X:Cx} {x:Str} {p pos:Pos} {e:Expr} {es:List Expr} {t:TA} {id T:String} {r:List V→Hp→VK→Prop}
def tCB(r:List V→Hp→VK→Prop)(t:TA):TE:=fun σ H Q=>t σ H fun vs H1=>r vs H1 Q
theorem vj(hc:C3 X (.builtin id) r)(hg:Gl X x)(hm:X.mg x=none)(hv:bootBuiltins x=some (.builtin id))(ha:PA X (e :: es) t)(hn:x ≠ "__name__" := by decide)(hdb:(x == ("__debug__" : Str))=false:=by decide)
  (he:starEach (e :: es) X.env=(false,eval e X.env) :: starEach es X.env:=by rfl) (hpl:(backTo pos (starEach es X.env)).any (·.1)=false:=by rfl):PE X (.Call (.Name x p) (e :: es) [] pos) (tCB r t):=by
 intro pins s σ H Q I h
 refine wpAny_Call_Name_kw (aX I hg hm hv ?_ hn hdb)
 exact PyProof.Rows.callWith_builtin1 (thn (ha pos pins s σ H _ I h) fun us s1 ⟨vs,H1,I1,r1,q1⟩=>hc pins s1 σ H1 vs us Q I1 r1 q1) he hpl
theorem gn(hc:C3 X (.type T) r)(hg:Gl X x)(hm:X.mg x=none)(hv:bootBuiltins x=some (.type T))(ha:PA X (e :: es) t)(hn:x ≠ "__name__" := by decide)(hdb:(x == ("__debug__" : Str))=false:=by decide)
  (he:starEach (e :: es) X.env=(false,eval e X.env) :: starEach es X.env:=by rfl) (hpl:(backTo pos (starEach es X.env)).any (·.1)=false:=by rfl):PE X (.Call (.Name x p) (e :: es) [] pos) (tCB r t):=by
 intro pins s σ H Q I h
 refine wpAny_Call_Name_kw (aX I hg hm hv ?_ hn hdb)
 exact PyProof.Rows.callWith_type1 (thn (ha pos pins s σ H _ I h) fun us s1 ⟨vs,H1,I1,r1,q1⟩=>hc pins s1 σ H1 vs us Q I1 r1 q1) he hpl
end
end L2
namespace HT
open PySem PyProof.Rows
section
open PySem.SeqAt
open PySem.AutoSeq1 (wpAny_loadPart')
open PySem.MeetsSeq PySem.MeetsSeq2 PySem.MeetsSeq3
end
section
variable {prog:Program} {w:World} {A:Around} {E:Value→Shared→Prop} {s:Shared}
theorem zT{t b:Addr}{vs ws:List Value}{Q:Value→Shared→Prop}(ht:IsTup s.heap t vs.toArray)(hb:IsTup s.heap b ws.toArray)(hv:vs≠[])
  (h1:ws=[]→Q (.ref t) s) (h2:ws≠[]→Q (.ref s.heap.objs.size) { s with heap:=s.heap.push { cls:=.type "tuple",data:=.seq (vs++ws).toArray } })
  (hsz:vs.length+ws.length≤sizeLine):wpAny (model prog w) A (binaryOp .Add (.ref t) (.ref b)) Q E s:=by
 obtain⟨⟨cls,dd,data,sl⟩,ho,hc,n,hd⟩:=id ht
 obtain⟨⟨cls2,dd2,data2,sl2⟩,ho2,hc2,n2,hd2⟩:=id hb
 simp only at hc hd hc2 hd2
 subst hc hd hc2 hd2
 have e:vs.toArray++ws.toArray=(vs++ws).toArray:=by simp
 by_cases hw:ws=[]
 ·exact concat_meets ⟨_,ho,rfl⟩ ⟨_,ho2,rfl⟩ noFill_tuple_add seq_tuple_add PySem.F.slot_tuple_add PySem.F.entry_tuple_add (PySem.F.args_tuple_add_2 _ _)
   (tuple_addW1 t b vs.toArray ws.toArray n n2 dd dd2 sl sl2 (by simpa using hv) (by simp[hw])) ⟨ho,ho2,h1 hw⟩
 ·refine concat_meets ⟨_,ho,rfl⟩ ⟨_,ho2,rfl⟩ noFill_tuple_add seq_tuple_add PySem.F.slot_tuple_add PySem.F.entry_tuple_add (PySem.F.args_tuple_add_2 _ _)
   (tuple_addW2 t b vs.toArray ws.toArray n n2 dd dd2 sl sl2 (by simpa using hv) (by simpa using hw) (by rw[Ko,Ko];exact hsz)) ⟨ho,ho2,?_⟩
  rw[e]
  exact h2 hw
noncomputable def sIx(n d:Nat):Option Int→Nat
 | none=>d
 | some v=>if v<0 then(v+(n:Int)).toNat else min v.toNat n
theorem uJ(n d:Nat):sIx n d none=d:=rfl
theorem iF(n d k:Nat):sIx n d (some (k:Int))=min k n:=by
 show(if (k:Int)<0 then((k:Int)+(n:Int)).toNat else min (k:Int).toNat n)=min k n
 rw[if_neg (by omega),MG]
theorem Co(n d:Nat)(hd:d≤n)(o:Option Int):sIx n d o≤n:=by
 cases o with
 | none=>exact hd
 | some v =>
  show(if v<0 then(v+(n:Int)).toNat else min v.toNat n)≤n
  by_cases hv:v<0
  ·rw[if_pos hv];omega
  ·rw[if_neg hv];exact Mg _ _
theorem qJ(v:Int)(n d:Nat):(if v<0 then max (v+(n:Int)) 0 else min v (n:Int))=((sIx n d (some v):Nat):Int):=by
 show(if v<0 then max (v+(n:Int)) 0 else min v (n:Int))=(((if v<0 then(v+(n:Int)).toNat else min v.toNat n):Nat):Int)
 by_cases hv:v<0
 ·simp only[if_pos hv];omega
 ·simp only[if_neg hv];omega
theorem nP(lo hi:Option Int)(n:Nat):Builtin.Slice.sliceAdjust lo hi 1 (n:Int)=(((sIx n 0 lo:Nat):Int),((sIx n n hi:Nat):Int)):=by
 have h1:¬ ((1:Int)<0):=by omega
 unfold Builtin.Slice.sliceAdjust
 simp only[h1,if_false]
 refine Prod.ext ?_ ?_
 ·cases lo with
  | none=>rfl
  | some v=>exact qJ v n 0
 ·cases hi with
  | none=>rfl
  | some v=>exact qJ v n n
theorem mX(i j:Nat):Builtin.Slice.slicePlaces (i:Int) (j:Int) 1=j - i:=by
 unfold Builtin.Slice.slicePlaces
 have h1:(1:Int) > 0:=by omega
 simp only[h1,if_true,Int.ediv_one]
 split<;>omega
theorem dw{v:Value}{o:Option Int}{Q:Option Int→Shared→Prop}(p:IsPart v o)(h:Q o s):wpAny (model prog w) A (Builtin.Slice.slicePartIndex v) Q E s:=by
 cases p with
 | none=>exact slicePart_none h
 | int i t=>exact slicePart_int h
theorem aO{sl:Addr}{vl vu:Value}{lo hi:Option Int}{n:Nat}{Q:Int × Int × Nat→Shared→Prop}(hs:s.heap.IsSliceOf sl vl vu .none)(pl:IsPart vl lo)(pu:IsPart vu hi)
  (h:Q (((sIx n 0 lo:Nat):Int),1,sIx n n hi - sIx n 0 lo) s):wpAny (model prog w) A (Builtin.Slice.sliceApplied (.ref sl) (pure (n:Int))) Q E s:=by
 obtain⟨os,hos,hcs,hds⟩:=id hs
 unfold Builtin.Slice.sliceApplied Builtin.Slice.sliceFields
 refine JC (JC (wpAny_field hos hds (x:=vl) rfl (JC (wpAny_field hos hds (x:=vu) rfl (JC (wpAny_field hos hds (x:=.none) rfl (JZ ?_)))))))
 refine JC (slicePart_none ?_)
 show wpAny _ _ (if ((1:Int) == 0)=true then _ else _) _ _ s
 rw[if_neg (by decide)]
 refine JC (dw pl (JC (dw pu (JC (JZ ?_)))))
 show wpAny _ _ (match Builtin.Slice.sliceAdjust lo hi 1 (n:Int)with|(lo,hi)=>pure (lo,(1:Int),Builtin.Slice.slicePlaces lo hi 1)) _ _ s
 rw[nP lo hi n]
 show wpAny _ _ (pure (((sIx n 0 lo:Nat):Int),(1:Int),Builtin.Slice.slicePlaces ((sIx n 0 lo:Nat):Int) ((sIx n n hi:Nat):Int) 1)) _ _ s
 rw[mX]
 exact JZ h
theorem uZ(xs:Array Value)(i k:Nat):((Mm k).filterMap fun(m:Nat)=>xs[((i:Int)+(m:Int)*1).toNat]?).toArray=((xs.toList.drop i).take k).toArray:=by
 have e:(fun(m:Nat)=>xs[((i:Int)+(m:Int)*1).toNat]?)=fun m=>xs[i+m]?:=by
  funext m
  have:((i:Int)+(m:Int)*1).toNat=i+m:=by omega
  rw[this]
 rw[e]
 have:=pick_run xs i k
 rw[List.filterMap_map]at this
 have e2:((fun x=>xs[x]?) ∘ fun x=>i+x)=fun m=>xs[i+m]?:=rfl
 rw[e2]at this
 rw[this]
theorem aA{t sl:Addr}{items:Array Value}{vl vu:Value}{lo hi:Option Int}{Q:Value→Shared→Prop}(ht:IsTup s.heap t items)(hs:s.heap.IsSliceOf sl vl vu .none)(pl:IsPart vl lo)(pu:IsPart vu hi)
  (hw:¬ (sIx items.size 0 lo=0∧sIx items.size items.size hi=items.size))
  (h:Q (.ref s.heap.objs.size) { s with heap:=s.heap.push { cls:=.type "tuple",data:=.seq ((items.toList.drop (sIx items.size 0 lo)).take (sIx items.size items.size hi - sIx items.size 0 lo)).toArray } })
  (hsz:items.size≤sizeLine):wpAny (model prog w) A (getItem (.ref t) (.ref sl)) Q E s:=by
 have htake:sizeOk (.seq ((items.toList.drop (sIx items.size 0 lo)).take (sIx items.size items.size hi - sIx items.size 0 lo)).toArray):=by
  show((items.toList.drop (sIx items.size 0 lo)).take (sIx items.size items.size hi - sIx items.size 0 lo)).toArray.size≤sizeLine
  rw[Ko,JX,Kr,Array.length_toList]
  omega
 have hj:sIx items.size items.size hi≤items.size:=Co _ _ (JY _) hi
 obtain⟨os,hos,hcs,hds⟩:=id hs
 have hTs:s.TypeIs (.ref sl) "slice" := ⟨os,hos,hcs⟩
 unfold getItem
 try with_reducible refine wpAny_holding ?_
 first|refine JC (JZ ?_)|skip
 refine JC (wpAny_sequenceKey ht.typeIs (by decide) ?_)
 refine JC (wpAny_callSpecial?_slot (name:=Str.ofString "__getitem__") ht.typeIs PyProof.Rows.slot_tuple_getitem
  (wpAny_call_entry PyProof.Rows.slot_tuple_getitem ht.typeIs entry_tuple_getitem ?_ (args_tuple_getitem _ _)))
 show wpAny _ _ (Builtin.Tuple.tupleItemsOf (.ref t) >>= _) _ _ s
 refine JC (tupleItemsOf_ ht ?_)
 refine JC (wpAny_typeOf hTs ?_)
 rw[if_pos (by decide)]
 refine JC (aO hs pl pu ?_)
 have hno:¬ ((((sIx items.size 0 lo:Nat):Int) == 0 && (1:Int) == 1 && (sIx items.size items.size hi - sIx items.size 0 lo) == items.size)=true):=by
  intro q
  rw[LG,LG]at q
  have q1:((sIx items.size 0 lo:Nat):Int)=0:=eq_of_beq q.1.1
  have q2:sIx items.size items.size hi - sIx items.size 0 lo=items.size:=eq_of_beq q.2
  exact hw ⟨by omega,by omega⟩
 show wpAny _ _ (if (((sIx items.size 0 lo:Nat):Int) == 0 && (1:Int) == 1 && (sIx items.size items.size hi - sIx items.size 0 lo) == items.size)=true then _ else _) _ _ s
 rw[if_neg hno,uZ]
 first
  | exact JC (m:=Builtin.Tuple.tupleExact _) (wpAny_newObj_type (JZ ⟨_,rfl,JZ h⟩) htake)
  | exact JC (m:=Builtin.Tuple.tupleExact _) (wpAny_newObj_type (JC (JZ (JZ ⟨_,rfl,JZ h⟩))) htake)
  | exact JC (JC (m:=Builtin.Tuple.tupleExact _) (wpAny_newObj_type (JZ (JZ ⟨_,rfl,JZ h⟩)) htake))
  | exact JC (JC (m:=Builtin.Tuple.tupleExact _) (wpAny_newObj_type (JZ ⟨_,rfl,JZ h⟩) htake))
end
end HT
namespace L2
open PySem PySem.Spec PyProof.Rows
noncomputable abbrev TO:=St→Hp→(Option Int→Hp→Prop)→Prop
def PO(X:Cx)(e:Option Expr)(t:TO):Prop :=
 ∀(pins:List (Addr × Obj)) (s:Shared) (σ:St) (H:Hp) (Q:Option Int→Hp→Prop),Inv X pins σ H s→t σ H Q →
  wpAny (model X.prog X.w) X.A (evalPart e X.env) (fun u s'=>∃ o H',Inv X pins σ H' s'∧IsPart u o∧Q o H') X.xe s
def yk:TO:=fun _ H Q=>Q none H
def EO(t:TE):TO:=fun σ H Q=>t σ H fun x H1=>∃ i,x = .int i∧Q (some i) H1
theorem nv{ns:List Int}:∀{us:List Value},i8 (ns.map V.int) us→IntsAre us ns:=by
 induction ns with
 | nil=>intro us r;rw[Lw]at r;cases r;exact .nil
 | cons n ns ih =>
  intro us r
  rw[Ky]at r
  cases r with
  | cons r1 r2 =>
   obtain⟨t,e⟩:=r1
   subst e
   exact .cons n t (ih r2)
section
variable {X:Cx} {e:Expr} {te:TE} {lo hi:Option Expr} {tl th:TO} {pos p2:Pos}
theorem yH:PO X none yk:=by
 intro pins s σ H Q I h
 rw[evalPart_none]
 exact JZ ⟨none,H,I,.none,h⟩
theorem yG(h:PE X e te):PO X (some e) (EO te):=by
 intro pins s σ H Q I hw
 rw[evalPart_some]
 refine thn (h pins s σ H _ I hw) fun u s1 zz=>?_
 obtain⟨x,H1,I1,r1,q1⟩:=zz
 obtain⟨i,rfl,q⟩:=q1
 obtain⟨t,rfl⟩:=r1
 exact⟨some i,H1,I1,.int i t,q⟩
def SlR(X:Cx)(r:V→Option Int→Option Int→Hp→VK→Prop):Prop :=
 ∀(pins:List (Addr × Obj)) (s:Shared) (σ:St) (H:Hp) (x:V) (v vl vu:Value) (lo hi:Option Int) (sl:Addr) (Q:VK),Inv X pins σ H s→o7 x v→s.heap.IsSliceOf sl vl vu .none→IsPart vl lo→IsPart vu hi→r x lo hi H Q →
  ∃ T id,typeLookup (.type T) "__getitem__" = pure (some (.builtin id))∧s.TypeIs v T∧wpAny (model X.prog X.w) X.A (getItem v (.ref sl)) (EP X pins σ Q) X.xe s
theorem SlR.or{r r':V→Option Int→Option Int→Hp→VK→Prop}(h:SlR X r)(h':SlR X r'):SlR X (fun x lo hi H Q=>r x lo hi H Q∨r' x lo hi H Q):=by
 intro pins s σ H x v vl vu lo hi sl Q I rx hs pl pu q
 rcases q with q|q
 ·exact h pins s σ H x v vl vu lo hi sl Q I rx hs pl pu q
 ·exact h' pins s σ H x v vl vu lo hi sl Q I rx hs pl pu q
def tSl(r:V→Option Int→Option Int→Hp→VK→Prop)(te:TE)(tl th:TO):TE:=fun σ H Q=>te σ H fun x H1=>tl σ H1 fun l H2=>th σ H2 fun u H3=>r x l u H3 Q
theorem vc{r:V→Option Int→Option Int→Hp→VK→Prop}(hr:SlR X r)(he:PE X e te)(hl:PO X lo tl)(hu:PO X hi th):PE X (.Subscript e (.Slice lo hi none p2) pos) (tSl r te tl th):=by
 intro pins s σ H Q I h
 refine Subscript_ (thn (he pins s σ H _ I h) fun v s1 zz=>?_)
 obtain⟨x,H1,I1,r1,q1⟩:=zz
 refine wpAny_Slice (thn (hl pins s1 σ H1 _ I1 q1) fun vl s2 ⟨l,H2,I2,pl,q2⟩=>thn (hu pins s2 σ H2 _ I2 q2) fun vu s3 zz=>?_)
 obtain⟨u,H3,I3,pu,q3⟩:=zz
 rw[evalPart_none]
 refine JZ ?_
 have I4:Inv X pins σ H3 { s3 with heap:=s3.heap.push { cls:=.type "slice",data:=.fields #[vl,vu,.none] } }:=I3.kept (t':=s3.toks) fun b ob q=>JL _ q
 obtain⟨T,id,hT,ht,hg⟩:=hr pins { s3 with heap:=s3.heap.push { cls:=.type "slice",data:=.fields #[vl,vu,.none] } } σ H3 x v vl vu l u s3.heap.objs.size Q I4 r1 (Heap.IsSliceOf.new ..) pl pu q3
 show wpAny (model X.prog X.w) X.A (subscriptTail e (.Slice lo hi none p2) v (.ref s3.heap.objs.size)) (EP X pins σ Q) X.xe { s3 with heap:=s3.heap.push { cls:=.type "slice",data:=.fields #[vl,vu,.none] } }
 exact tail_any (ops:=[.ref s3.heap.objs.size,v]) ht hT hg (by with_unfolding_all rfl)
noncomputable def lP(xs:List V)(lo hi:Option Int):List V:=(xs.drop (HT.sIx xs.length 0 lo)).take (HT.sIx xs.length xs.length hi - HT.sIx xs.length 0 lo)
theorem bJ(xs:List V)(lo hi:Option Int):(lP xs lo hi).length≤xs.length:=by
 unfold lP
 rw[JX,Kr]
 omega
noncomputable def GS(K:JB):V→Option Int→Option Int→Hp→VK→Prop:=fun x lo hi H Q=>∃ a xs,x = .ref a∧SqT K H a xs ∧
 ¬ (HT.sIx xs.length 0 lo=0∧HT.sIx xs.length xs.length hi=xs.length)∧∀ p,H p=none→Q (.ref p) (upd H p (.tup (lP xs lo hi)))
theorem Cj:SlR X (GS X.K):=by
 intro pins s σ H x v vl vu lo hi sl Q I rx hs pl pu h
 obtain⟨a,xs,rfl,hx,hw,q⟩:=h
 cases rx
 obtain⟨its,r,ht,hz⟩:=I.tuple hx
 have hlen:its.toArray.size=xs.length:=by rw[Ko];exact r.length.symm
 refine⟨"tuple",_,PyProof.Rows.slot_tuple_getitem.lookup,ht.typeIs,?_⟩
 refine HT.aA ht hs pl pu (by rw[hlen];exact hw) ?_ (by rw[hlen];exact hz)
 rw[hlen]
 refine⟨.ref s.heap.objs.size,_,I.laid (t':=s.toks) (o:=.tup (lP xs lo hi)) (fun b ob q=>JL _ q) (JY _) ?_,rfl,q _ (I.hok.fresh (JY _))⟩
 exact⟨JR (bJ xs lo hi) hz,_,(r.drop (HT.sIx xs.length 0 lo)).take (HT.sIx xs.length xs.length hi - HT.sIx xs.length 0 lo),IsTup.new _ _⟩
def Fi(K:JB):R2:=fun x y H Q=>∃ a b xs ys,x = .ref a∧y = .ref b∧SqT K H a xs∧SqT K H b ys∧xs≠[]∧xs.length+ys.length≤sizeLine ∧
 (ys=[]→Q (.ref a) H)∧(ys≠[]→∀ p,H p=none→Q (.ref p) (upd H p (.tup (xs++ys))))
theorem i8.nil_iff{xs:List V}{us:List Value}(r:i8 xs us):us=[]↔xs=[]:=by
 cases r with
 | nil=>simp
 | cons _ _=>simp
theorem yX:OpR X (binaryOp .Add) (Fi X.K):=by
 intro pins s σ H x y v u Q I rx ry h
 obtain⟨a,b,xs,ys,rfl,rfl,ha,hb,hx,hz,q1,q2⟩:=h
 cases rx
 cases ry
 obtain⟨its,r1,p1,_⟩:=I.tuple ha
 obtain⟨its2,r2,p2,_⟩:=I.tuple hb
 refine HT.zT p1 p2 (fun z=>hx (r1.nil_iff.mp z)) (fun z=>⟨.ref a,H,I,rfl,q1 (r2.nil_iff.mp z)⟩) (fun z=>?_) (by rw[← r1.length,← r2.length];exact hz)
 refine⟨.ref s.heap.objs.size,_,I.laid (t':=s.toks) (o:=.tup (xs++ys)) (fun b ob q=>JL _ q) (JY _) ?_,rfl,q2 (fun w=>z (r2.nil_iff.mpr w)) _ (I.hok.fresh (JY _))⟩
 exact⟨by rw[JQ];exact hz,_,r1.append r2,IsTup.new _ _⟩
end
noncomputable def ixN(n:Nat)(i:Int):Option Nat:=if 0≤i then(if i<n then some i.toNat else none)else if -(n:Int)≤i then some (i+n).toNat else none
noncomputable def atI{α:Type}(xs:List α)(i:Int):Option α:=(ixN xs.length i).bind fun j=>xs[j]?
theorem qp{n:Nat}{i:Int}{j:Nat}(h:ixN n i=some j):seqIndex? i n=some j∧j<n∧-(n:Int)≤i∧i<n:=by
 unfold ixN at h
 by_cases h0:0≤i
 ·rw[if_pos h0]at h
  by_cases h1:i<n
  ·rw[if_pos h1]at h
   have e:i.toNat=j:=Option.some.inj h
   exact⟨by rw[seqIndex_of h0 h1,e],by omega,by omega,h1⟩
  ·rw[if_neg h1]at h;cases h
 ·rw[if_neg h0]at h
  by_cases h1:-(n:Int)≤i
  ·rw[if_pos h1]at h
   have e:(i+n).toNat=j:=Option.some.inj h
   exact⟨by rw[seqIndex_neg (by omega) h1,e],by omega,h1,by omega⟩
  ·rw[if_neg h1]at h;cases h
theorem qL{α:Type}{xs:List α}{i:Int}{v:α}(h:atI xs i=some v):∃ j,seqIndex? i xs.length=some j∧xs[j]? = some v∧j<xs.length∧-(xs.length:Int)≤i∧i<xs.length:=by
 unfold atI at h
 cases e:ixN xs.length i with
 | none=>rw[e]at h;cases h
 | some j =>
  rw[e]at h
  obtain⟨h1,h2,h3,h4⟩:=qp e
  exact⟨j,h1,h,h2,h3,h4⟩
def jK(b:Expr):Prop:=∀ o i,subscripted b false o i=operate [o,i] (getItem o i)
def IxR(X:Cx)(r:R2):Prop :=
 ∀(value slice:Expr) (pins:List (Addr × Obj)) (s:Shared) (σ:St) (H:Hp) (x y:V) (v u:Value) (Q:VK),Inv X pins σ H s→o7 x v→o7 y u→r x y H Q →
  subscripted slice false v u=operate [v,u] (getItem v u)→wpAny (model X.prog X.w) X.A (subscriptTail value slice v u) (EP X pins σ Q) X.xe s
def MtR(X:Cx)(id:String)(r:V→List V→Hp→VK→Prop):Prop :=
 ∀(pins:List (Addr × Obj)) (s:Shared) (σ:St) (H:Hp) (x:V) (xs:List V) (v:Value) (us:List Value) (Q:VK),Inv X pins σ H s→o7 x v→i8 xs us→r x xs H Q →
  wpAny (model X.prog X.w) X.A (call (.builtin id) (v :: us)) (EP X pins σ Q) X.xe s
section
variable {X:Cx} {a b:Expr} {ta tb:TE} {pos:Pos}
theorem IxR.or{r r':R2}(h:IxR X r)(h':IxR X r'):IxR X (fun x y H Q=>r x y H Q∨r' x y H Q):=by
 intro value slice pins s σ H x y v u Q I rx ry q hs
 rcases q with q|q
 ·exact h value slice pins s σ H x y v u Q I rx ry q hs
 ·exact h' value slice pins s σ H x y v u Q I rx ry q hs
theorem MtR.or{id:String}{r r':V→List V→Hp→VK→Prop}(h:MtR X id r)(h':MtR X id r'):MtR X id (fun x xs H Q=>r x xs H Q∨r' x xs H Q):=by
 intro pins s σ H x xs v us Q I rx rs q
 rcases q with q|q
 ·exact h pins s σ H x xs v us Q I rx rs q
 ·exact h' pins s σ H x xs v us Q I rx rs q
theorem Fo{r:R2}(hr:IxR X r)(ha:PE X a ta)(hb:PE X b tb)(hs:jK b):PE X (.Subscript a b pos) (tOp r ta tb):=by
 intro pins s σ H Q I h
 exact Subscript_ (DT ha hb I h fun v u s2 x y H2 I2 rx ry q=>hr a b pins s2 σ H2 x y v u Q I2 rx ry q (hs _ _))
def GW(K:JB):R2:=fun x y H Q=>∃ p xs i v,x = .ref p∧y = .int i∧SqL K H p xs∧atI xs i=some v∧Q v H
def GV(K:JB):R2:=fun x y H Q=>∃ p xs i v,x = .ref p∧y = .int i∧SqT K H p xs∧atI xs i=some v∧Q v H
theorem zy:IxR X (GW X.K):=by
 intro value slice pins s σ H x y v u Q I rx ry h hs
 obtain⟨p,xs,i,z,rfl,rfl,hq,he,q⟩:=h
 cases rx
 obtain⟨t,rfl⟩:=ry
 obtain⟨its,r,pl,hz⟩:=I.list hq
 obtain⟨j,h1,h2,h3,h4,h5⟩:=qL he
 obtain⟨w,ew,rw'⟩:=r.get h2
 have hl:=r.length
 have hn:=jh
 have fin:EP X pins σ Q w s:=⟨z,H,I,rw',q⟩
 by_cases h0:0≤i
 ·have hj:i.toNat=j:=by
   rw[seqIndex_of h0 h5]at h1
   exact Option.some.inj h1
  exact item_listR pl.isList h0 (by omega) (by rw[hj];simpa using ew) fin hs
 ·have hj:(i+(its.toArray.size:Int)).toNat=j:=by
   rw[seqIndex_neg (by omega) h4]at h1
   rw[Ko,← hl]
   exact Option.some.inj h1
  exact subscriptTail_builtinR (x:=w) pl.isList.typeIs slot_list_getitem.lookup
   (wpAny_getItem_list_neg (Q:=fun r s'=>r=w∧EP X pins σ Q r s') pl.isList (by omega) (by rw[Ko]<;>omega) (by omega) (by rw[hj];simpa using ew) ⟨rfl,fin⟩) hs
theorem Dx:IxR X (GV X.K):=by
 intro value slice pins s σ H x y v u Q I rx ry h hs
 obtain⟨p,xs,i,z,rfl,rfl,hq,he,q⟩:=h
 cases rx
 obtain⟨t,rfl⟩:=ry
 obtain⟨its,r,pl,hz⟩:=I.tuple hq
 obtain⟨j,h1,h2,h3,h4,h5⟩:=qL he
 obtain⟨w,ew,rw'⟩:=r.get h2
 have hl:=r.length
 have hn:=jh
 have fin:EP X pins σ Q w s:=⟨z,H,I,rw',q⟩
 exact subscriptTail_builtinR (x:=w) pl.typeIs slot_tuple_getitem.lookup
  (getItem_tuple (j:=j) (Q:=fun r s'=>r=w∧EP X pins σ Q r s') pl (by omega) (by omega) (by rw[Ko,← hl];exact h1) (by simpa using ew) ⟨rfl,fin⟩) hs
theorem nj(its:List Value)(n j:Nat)(u:Value):Obj.mapSeq (·.setIfInBounds j u) { cls:=.type "list",data:=.seq its.toArray n } = { cls:=.type "list",data:=.seq (its.set j u).toArray n }:=by
 simp[Obj.mapSeq]
theorem Inv.lst{pins:List (Addr × Obj)}{σ:St}{H:Hp}{s:Shared}{p:Addr}{xs:List V}(I:Inv X pins σ H s)(h:H p=some (.lst xs)) :
  ∃(its:List Value) (n:Nat),i8 xs its∧s.heap.get? p=some { cls:=.type "list",data:=.seq its.toArray n }∧xs.length≤sizeLine:=by
 obtain⟨z,its,n,r,e⟩:=I.hok p _ h
 exact⟨its,n,r,e,z⟩
theorem Inv.lstUpd{pins:List (Addr × Obj)}{σ:St}{H:Hp}{s:Shared}{p:Addr}{xs ys:List V}{its its':List Value}{n n':Nat}{f:Obj→Obj}(I:Inv X pins σ H s)(h:H p=some (.lst xs))
  (ho:s.heap.get? p=some { cls:=.type "list",data:=.seq its.toArray n }) (hf:f { cls:=.type "list",data:=.seq its.toArray n } = { cls:=.type "list",data:=.seq its'.toArray n' }) (r:i8 ys its') (hz:ys.length≤sizeLine) (t:Nat) :
  Inv X pins σ (upd H p (.lst ys)) { s with heap:=s.heap.update p f,toks:=t }:=by
 have e:(s.heap.update p f).get? p=some { cls:=.type "list",data:=.seq its'.toArray n' }:=by
  rw[MX f ho (by rw[hf]<;>rfl),hf]
 refine I.write (x:=p) (e:=p) (by rw[h];trivial) (.inl rfl) (fun b u hb q=>(MS _ _ (Ne.symm hb)).trans q) ⟨_,e⟩ ?_
 exact⟨hz,its',n',r,e⟩
noncomputable def Fh:V→V→V→Hp→(Hp→Prop)→Prop:=fun o i v H Q=>∃ p xs k j,o = .ref p∧i = .int k∧H p=some (.lst xs)∧ixN xs.length k=some j∧Q (upd H p (.lst (xs.set j v)))
theorem uw:GA X Fh:=by
 intro pins s σ H o i v ov iv u Q I ro ri rv h
 obtain⟨p,xs,k,j,rfl,rfl,hp,hj,q⟩:=h
 cases ro
 obtain⟨t,rfl⟩:=ri
 obtain⟨its,n,r,ho,hz⟩:=I.lst hp
 obtain⟨h1,h2,h3,h4⟩:=qp hj
 have hl:=r.length
 have hn:=jh
 have I':Inv X pins σ (upd H p (.lst (xs.set j v))) { s with heap:=s.heap.update p (Obj.mapSeq (·.setIfInBounds j u)) } :=
  I.lstUpd hp ho (nj its n j u) (r.set rv j) (by rw[List.length_set];exact hz) s.toks
 by_cases h0:0≤k
 ·have hk:k.toNat=j:=by
   rw[seqIndex_of h0 h4]at h1
   exact Option.some.inj h1
  exact PySem.W.ki_setAt ho h0 (by omega) (by rw[Ko,← hl];exact h4) (by rw[hk];exact⟨_,I',q⟩)
 ·have hk:(k+(its.toArray.size:Int)).toNat=j:=by
   rw[seqIndex_neg (by omega) h3]at h1
   rw[Ko,← hl]
   exact Option.some.inj h1
  exact PySem.W.ki_setBack ho (by omega) (by rw[Ko,← hl];exact h3) (by omega) (by rw[hk];exact⟨_,I',q⟩)
theorem gQ(lo hi:Option Int)(n:Nat):(sliceBounds lo hi none n).1=((HT.sIx n 0 lo:Nat):Int)∧(sliceBounds lo hi none n).2.1=((HT.sIx n n hi:Nat):Int)∧(sliceBounds lo hi none n).2.2=1:=by
 refine⟨?_,?_,rfl⟩
 ·cases lo with
  | none=>simp[sliceBounds,HT.sIx]
  | some i =>
   simp only[sliceBounds,HT.sIx,NV,show(1:Int) > 0 by decide,if_true]
   by_cases h:i<0
   ·simp only[h,if_true]<;>omega
   ·simp only[h,if_false]<;>omega
 ·cases hi with
  | none=>simp[sliceBounds,HT.sIx]
  | some i =>
   simp only[sliceBounds,HT.sIx,NV,show(1:Int) > 0 by decide,if_true]
   by_cases h:i<0
   ·simp only[h,if_true]<;>omega
   ·simp only[h,if_false]<;>omega
theorem eY(its:List Value)(lo hi:Option Int):slicePick its.toArray lo hi none=((its.drop (HT.sIx its.length 0 lo)).take (HT.sIx its.length its.length hi - HT.sIx its.length 0 lo)).toArray:=by
 obtain⟨h1,h2,h3⟩:=gQ lo hi its.toArray.size
 unfold slicePick
 rw[h1,h2,h3]
 simp only[sliceRange_one,pick_run,Ko]<;>rfl
noncomputable def GU(K:JB):V→Option Int→Option Int→Hp→VK→Prop:=fun x lo hi H Q=>∃ a xs,x = .ref a∧SqL K H a xs∧∀ p,H p=none→Q (.ref p) (upd H p (.lst (lP xs lo hi)))
theorem yo:SlR X (GU X.K):=by
 intro pins s σ H x v vl vu lo hi sl Q I rx hs pl pu h
 obtain⟨a,xs,rfl,hx,q⟩:=h
 cases rx
 obtain⟨its,r,ht,hz⟩:=I.list hx
 have hlen:=r.length
 refine⟨"list",_,slot_list_getitem.lookup,ht.isList.typeIs,?_⟩
 refine wpAny_getItem_list_slice ht.isList hs pl pu .none (by simp) ?_ (by rw[Ko]<;>omega)
 rw[eY,← hlen]
 refine⟨.ref s.heap.objs.size,_,I.laid (t':=s.toks) (o:=.lst (lP xs lo hi)) (fun b ob q=>JL _ q) (JY _) ?_,rfl,q _ (I.hok.fresh (JY _))⟩
 exact⟨JR (bJ xs lo hi) hz,_,0,(r.drop (HT.sIx xs.length 0 lo)).take (HT.sIx xs.length xs.length hi - HT.sIx xs.length 0 lo),Kk _ rfl⟩
theorem jE:C3 X (.builtin "len") (fun xs H Q=>∃ p ys,xs=[.ref p]∧(SqL X.K H p ys∨SqT X.K H p ys)∧Q (.int ys.length) H):=by
 intro pins s σ H xs us Q I r h
 obtain⟨p,ys,rfl,hq,q⟩:=h
 obtain⟨u,rfl,rx⟩:=kl r
 cases rx
 have hn:=jh
 rcases hq with hq|hq
 ·obtain⟨its,r',pl,hz⟩:=I.list hq
  have hlen:=r'.length
  exact Calls.call_len_list pl.isList (by simp only[Ko]<;>omega) ⟨.int ys.length,H,I.tok _,⟨s.toks+1,by rw[Ko,hlen]⟩,q⟩
 ·obtain⟨its,r',pl,hz⟩:=I.tuple hq
  have hlen:=r'.length
  exact len_tuple pl (by simp only[Ko]<;>omega) ⟨.int ys.length,H,I.tok _,⟨s.toks+1,by rw[Ko,hlen]⟩,q⟩
theorem C3.or{f:Value}{r r':List V→Hp→VK→Prop}(h:C3 X f r)(h':C3 X f r'):C3 X f (fun xs H Q=>r xs H Q∨r' xs H Q):=by
 intro pins s σ H xs us Q I rs q
 rcases q with q|q
 ·exact h pins s σ H xs us Q I rs q
 ·exact h' pins s σ H xs us Q I rs q
theorem jD:C3 X (.type "list") (fun xs H Q=>∃ p ys,xs=[.ref p]∧(SqL X.K H p ys∨SqT X.K H p ys)∧∀ l,H l=none→Q (.ref l) (upd H l (.lst ys))):=by
 intro pins s σ H xs us Q I r h
 obtain⟨p,ys,rfl,hq,q⟩:=h
 obtain⟨u,rfl,rx⟩:=kl r
 cases rx
 have fin:∀(its:List Value),i8 ys its→ys.length≤sizeLine→∀(h':Heap) (c':Nat),(∀ b o',s.heap.get? b=some o'→h'.get? b=some o') →
   h'.get? s.heap.objs.size=some { cls:=.type "list",dict:=none,data:=.seq its.toArray c',slots:=#[] }→EP X pins σ Q (.ref s.heap.objs.size) { s with heap:=h' }:=fun its r' hz h' c' kp e =>
  ⟨.ref s.heap.objs.size,_,I.laid (t':=s.toks) kp (JY _) (show B2 X.prog X.w _ h' _ (.lst ys)from⟨hz,its,c',r',e⟩),rfl,q _ (I.hok.fresh (JY _))⟩
 rcases hq with hq|hq
 ·obtain⟨its,r',pl,hz⟩:=I.list hq
  have hlen:=r'.length
  obtain⟨o,ho,hc,n,hd⟩:=pl.isList
  exact call_list_seq p (.inl rfl) ho hc hd (fun h' c' kp e=>fin its r' hz h' c' kp e) (by simp only[Ko]<;>omega)
 ·obtain⟨its,r',pl,hz⟩:=I.tuple hq
  have hlen:=r'.length
  obtain⟨o,ho,hc,n,hd⟩:=pl
  exact call_list_seq p (.inr rfl) ho hc hd (fun h' c' kp e=>fin its r' hz h' c' kp e) (by simp only[Ko]<;>omega)
theorem fk:C3 X (.type "tuple") (fun xs H Q=>∃ p ys,xs=[.ref p]∧((SqL X.K H p ys∧∀ l,H l=none→Q (.ref l) (upd H l (.tup ys)))∨(SqT X.K H p ys∧Q (.ref p) H))):=by
 intro pins s σ H xs us Q I r h
 obtain⟨p,ys,rfl,h⟩:=h
 obtain⟨u,rfl,rx⟩:=kl r
 cases rx
 rcases h with⟨hq,q⟩|⟨hq,q⟩
 ·obtain⟨its,r',pl,hz⟩:=I.list hq
  have hlen:=r'.length
  refine call_tuple_list pl.isList (fun h' kp=>?_) (by simp only[Ko]<;>omega)
  have I1:Inv X pins σ H { s with heap:=h' }:=I.kept (t':=s.toks) kp
  have I2:Inv X pins σ (upd H h'.objs.size (.tup ys)) { s with heap:=h'.push { cls:=.type "tuple",data:=.seq its.toArray } } :=
   I1.laid (t':=s.toks) (fun b o e=>JL _ e) (JY _) (show B2 X.prog X.w _ _ _ (.tup ys)from⟨hz,its,r',IsTup.new _ _⟩)
  exact⟨.ref h'.objs.size,_,I2,rfl,q _ (I1.hok.fresh (JY _))⟩
 ·obtain⟨its,r',pl,hz⟩:=I.tuple hq
  exact call_tuple_same pl ⟨.ref p,H,I,rfl,q⟩
def tyV(K:JB)(T:String)(x:V)(H:Hp):Prop:=match x with
 | .str _=>T = "str"
 | .int _=>T = "int"
 | .ref p=>(T = "list" ∧ ∃ xs,SqL K H p xs)∨(T = "tuple" ∧ ∃ o,K.lookup p=some o∧o.cls = .type "tuple" ∧ o.dict=none) ∨
   (T = "dict" ∧ ((∃ kvs,H p=some (.dK kvs)) ∨ ∃ kvs,H p=some (.dT kvs)))∨(T = "set" ∧ ∃ S n,H p=some (.set S n))
 | _=>False
theorem Cb{pins:List (Addr × Obj)}{σ:St}{H:Hp}{s:Shared}{T:String}{x:V}{v:Value}(I:Inv X pins σ H s)(r:o7 x v)(ty:tyV X.K T x H) :
  s.TypeIs v T∧∀ a,v = .ref a→∃ ob,s.heap.get? a=some ob∧ob.dict=none:=by
 cases x with
 | str z =>
  obtain⟨t,rfl⟩:=r
  cases(show T = "str" from ty)
  exact⟨typeIs_str s z t,fun _ e=>nomatch e⟩
 | int i =>
  obtain⟨t,rfl⟩:=r
  cases(show T = "int" from ty)
  exact⟨typeIs_int s i t,fun _ e=>nomatch e⟩
 | ref p =>
  cases r
  rcases ty with⟨rfl,xs,hq⟩|⟨rfl,o,hk,hc,hd⟩|⟨rfl,hk⟩|⟨rfl,S,n,hk⟩
  ·obtain⟨its,_,pl,_⟩:=I.list hq
   refine⟨pl.isList.typeIs,fun a e=>?_⟩
   cases e
   obtain⟨o,n,e,c,hd,_⟩:=pl
   exact⟨o,e,hd⟩
  ·refine⟨⟨o,I.kIn p o hk,hc⟩,fun a e=>?_⟩
   cases e
   exact⟨o,I.kIn _ o hk,hd⟩
  ·have z:∃ o,s.heap.get? p=some o∧o.ExactDict:=by
    rcases hk with⟨kvs,hk⟩|⟨kvs,hk⟩
    ·obtain⟨_,_,_,_,o,_,_,e,ex,_⟩:=I.hok p _ hk
     exact⟨o,e,ex⟩
    ·obtain⟨_,_,_,_,o,_,_,e,ex,_⟩:=I.hok p _ hk
     exact⟨o,e,ex⟩
   obtain⟨o,e,ex⟩:=z
   refine⟨⟨o,e,ex.1⟩,fun a e2=>?_⟩
   cases e2
   exact⟨o,e,ex.2.1⟩
  ·obtain⟨o,_,_,_,e,ex,_⟩:=I.hok p _ hk
   refine⟨⟨o,e,ex.1⟩,fun a e2=>?_⟩
   cases e2
   exact⟨o,e,ex.2.1⟩
 | _=>exact False.elim ty
def tBM(K:JB)(T:String)(r:V→List V→Hp→VK→Prop)(to:TE)(t:TA):TE:=fun σ H Q=>to σ H fun x H1=>tyV K T x H1∧t σ H1 fun xs H2=>r x xs H2 Q
variable {o e:Expr} {es:List Expr} {to:TE} {t:TA} {name:Str} {apos cpos:Pos} {T id:String} {r:V→List V→Hp→VK→Prop}
theorem Fp(pa:PlainAttrs T)(slot:Slot T name id)(hty:typeOf (.builtin id)=pure (.type "method_descriptor"))(hm:MtR X id r)(ho:PE X o to)(ha:PA X (e :: es) t)
  (hbase:attributeBase o name X.env (eval o X.env)=eval o X.env:=by rfl)
  (hfew:((backTo cpos (starEach (e :: es) X.env)).all (fun x=>!x.1) && (backToKw cpos (keywordEach [] X.env)).all (fun x=>x.1.isSome)
   && decide ((e :: es).length+([]:List Keyword).length+(if ([]:List Keyword).isEmpty then 0 else 1)<30))=true:=by rfl)
  (hline:(apos.endLine == cpos.line)=true:=by rfl) (hs:starEach (e :: es) X.env=(false,eval e X.env) :: starEach es X.env:=by rfl) (hplain:(backTo cpos (starEach es X.env)).any (·.1)=false:=by rfl) :
  PE X (.Call (.Attribute o name apos) (e :: es) [] cpos) (tBM X.K T r to t):=by
 intro pins s σ H Q I h
 refine wpAny_Call_method_late hbase hfew hline rfl (thn (ho pins s σ H _ I h) fun v s1 zz=>?_)
 obtain⟨x,H1,I1,r1,ty,q1⟩:=zz
 obtain⟨h1,h2⟩:=Cb I1 r1 ty
 refine⟨T,id,pa,slot,hty,h1,h2,?_⟩
 have hA:=ha cpos pins s1 σ H1 _ I1 q1
 rw[hs]at hA ⊢
 refine Calls.callWith_builtin (by show(false || (backTo cpos (starEach es X.env)).any (·.1))=false;rw[hplain]<;>rfl) (Calls.evalArgs_plain ?_)
 exact thn hA fun us s2 ⟨vs,H2,I2,r2,q2⟩=>hm pins s2 σ H2 x vs v us Q I2 r1 r2 q2
end
def MtM(X:Cx)(id:String)(r:V→List V→Hp→VK→Prop):Prop :=
 ∀(pins:List (Addr × Obj)) (s:Shared) (σ:St) (H:Hp) (x:V) (xs:List V) (v:Value) (us:List Value) (Q:VK),Inv X pins σ H s→o7 x v→i8 xs us→r x xs H Q →
  wpAny (model X.prog X.w) X.A (call (.builtin id) (v :: us)) (EP X pins σ Q) X.xe s
theorem i8.one{x:V}{us:List Value}(h:i8 [x] us):∃ u,us=[u]∧o7 x u:=by
 cases h with|cons r t=>cases t;exact⟨_,rfl,r⟩
theorem i8.two{x y:V}{us:List Value}(h:i8 [x,y] us):∃ u v,us=[u,v]∧o7 x u∧o7 y v:=by
 cases h with|cons r t=>cases t with|cons q t2=>cases t2;exact⟨_,_,rfl,r,q⟩
theorem i8.zero:∀{us:List Value},i8 [] us→us=[]
 | _,.nil=>rfl
theorem i8.reverse{xs:List V}{us:List Value}(h:i8 xs us):i8 xs.reverse us.reverse:=by
 induction h with
 | nil=>exact .nil
 | cons r t ih=>rw[NI,NI];exact i8.append ih (.cons r .nil)
section
variable {X:Cx} {pins:List (Addr × Obj)} {σ:St} {H:Hp} {s:Shared} {l b:Addr} {xs ys zs:List V}
theorem Inv.lset{its its':List Value}{n:Nat}{f:Array Value→Array Value}{t':Nat}(I:Inv X pins σ H s)(hH:H l=some (.lst xs))
  (e:s.heap.get? l=some { cls:=.type "list",data:=.seq its.toArray n }) (hf:f its.toArray=its'.toArray) (hv:i8 ys its') (hz:ys.length≤sizeLine) :
  Inv X pins σ (upd H l (.lst ys)) { s with heap:=s.heap.update l (Obj.mapSeq f),toks:=t' }:=by
 have q:=PySem.IsL.update e f
 rw[hf]at q
 refine I.write (x:=l) (e:=l) (by rw[hH];exact trivial) (.inl rfl) (fun b' u hb hu=>(MS s.heap (Obj.mapSeq f) (Ne.symm hb)).trans hu) ⟨_,q⟩ ?_
 exact⟨hz,its',_,hv,q⟩
theorem Inv.lnew{its:List Value}{t':Nat}(I:Inv X pins σ H s)(hv:i8 ys its)(hz:ys.length≤sizeLine) :
  Inv X pins σ (upd H s.heap.objs.size (.lst ys)) { s with heap:=s.heap.push { cls:=.type "list",data:=.seq its.toArray },toks:=t' } :=
 I.laid (fun _ _ q=>JL _ q) (JY _) ⟨hz,its,0,hv,Kk _ rfl⟩
theorem Inv.fresh(I:Inv X pins σ H s):H s.heap.objs.size=none:=I.hok.fresh (JY _)
theorem Inv.lstM(I:Inv X pins σ H s)(hH:H l=some (.lst xs)):xs.length≤sizeLine∧∃(its:List Value) (n:Nat),i8 xs its∧xs.length=its.length∧s.heap.get? l=some { cls:=.type "list",data:=.seq its.toArray n }:=by
 obtain⟨z,its,n,r,e⟩:=I.hok l _ hH
 exact⟨z,its,n,r,r.length,e⟩
end
section
variable {X:Cx}
noncomputable def pN:V→List V→Hp→VK→Prop:=fun x vs H Q=>∃ l xs y,x = .ref l∧vs=[y]∧H l=some (.lst xs)∧xs.length<sizeLine∧Q .non (upd H l (.lst (xs++[y])))
theorem gq:MtM X "list.append" pN:=by
 intro pins s σ H x vs v us Q I rx rv h
 obtain⟨l,xs,y,rfl,rfl,hH,hz,q⟩:=h
 cases rx
 obtain⟨u,rfl,ru⟩:=rv.one
 obtain⟨z,its,n,r,hl,e⟩:=I.lstM hH
 refine call_meets F.slot_list_append ⟨_,e,rfl⟩ F.entry_list_append (F.args_list_append_2 _ _) (PySem.list_append l its.toArray n u (by rw[Ko];omega)) ⟨e,?_⟩
 refine⟨.non,_,I.lset (its':=its++[u]) hH e (by simp) (r.append (.cons ru .nil)) ?_,rfl,q⟩
 rw[JQ,KQ]
 omega
end
section
variable {prog:Program} {w:World} {A:Around} {E:Value→Shared→Prop} {s:Shared}
end
section
variable {X:Cx}
end
end L2
namespace Att
open PySem PySem.W PySem.Calls PyProof.Rows
theorem bP{P:Params}{h:Heap}:∀(ns:List Int) (vs:List Value),WellAll P h vs (ns.map WData.int)→IntsAre vs ns:=by
 intro ns
 induction ns with
 | nil =>
  intro vs w
  rw[Lw]at w
  cases w
  exact .nil
 | cons n ns ih =>
  intro vs w
  rw[Ky]at w
  cases w with
  | cons a b =>
   cases a
   exact .cons _ _ (ih _ b)
theorem qT{l:OpenLaw}{n:Nat}(hn:l.most=some n){P:Params}{h:Heap}{args:List WData}{vals:List Value}
  (hpre:l.row.toRowW.claim.pre args=true) (hwl:WellAll P h vals args) :
  ∃ a vs ns,vals=[Value.ref a]∧args=[WData.list (ns.map WData.int)]∧h.get? a=some { cls:=.type "list",data:=.seq vs.toArray }∧IntsAre vs ns∧ns.length≤n:=by
 have hsh:WShape.hasAll [] args [.list .int]=true:=(pre_splitW hpre).1
 have hc:l.pre.holds [] { args:=args } = true:=(pre_splitW hpre).2
 obtain⟨d,r,rfl,h1,h2⟩:=hasAllW_cons hsh
 obtain rfl:=hasAllW_nil h2
 obtain⟨xs,rfl,h3⟩:=hasW_list h1
 obtain⟨ns,rfl⟩:=items_int h3
 have hlen:ns.length≤n:=by
  unfold OpenLaw.pre at hc
  have h4:(WTm.not (.lt (.lit (.int (n:Int))) (.len (.arg 0)))).holds [] { args:=[.list (ns.map .int)] } = true:=by
   have h4:=(holds_andW hc).1
   rw[hn]at h4
   exact h4
  have h5:=condW_of h4 (w_not (w_lt w_lit (w_len_list (w_arg rfl))))
  rw[JD]at h5
  refine Nat.le_of_not_lt fun q=>?_
  have q':(n:Int)<((ns.length:Nat):Int):=by omega
  first
   | (rw[decide_eq_true q']at h5;exact absurd h5 (by decide))
   | (simp at h5;omega)
 cases hwl with
 | cons w1 w2 =>
  cases w2
  cases w1 with
  | list ho hall=>exact⟨_,_,ns,rfl,rfl,ho,bP ns _ hall,hlen⟩
theorem qY(l:OpenLaw)(args:List WData):l.row.toRowW.claim.post args (.bool true) args=true :=
 postW_of (r:=l.row.toRowW) (X:=(true == true))
  (show WShape.has [] (.bool true) .bool=true by first|rfl|decide|simp[WShape.has,WShape.arms,WShape.armsAll])
  (show(WTm.eq .res (.lit (.bool true))).value [] { args:=args,res:=some (.bool true),after:=args } = some (.bool (true == true))from w_eq_bool (w_res rfl) w_lit) rfl
theorem mh{l:OpenLaw}{n:Nat}{q:Program}{loose:List Str}{XP:(Str→Option Value)→Heap→Prop}{YP:World→Heap→Prop}{d:DefRec}
  (hn:l.most=some n) (hdf:d.params.defaults=[])
  (call:∀(w:World) (s₀ s₁:Shared) (mg mb:Str→Option Value) (fa:Addr) (o:Obj) (pm cd doc:Value) (a:Addr) (vs:List Value) (ns:List Int),
   Ground q loose [] XP w s₀ mg mb s₁.heap→YP w s₁.heap →
   s₁.heap.get? fa=some o→o.data = .func (docDef d.name d.params d.body d.scope pm cd doc)→s₁.heap.CodeRec cd d.name→mg d.name=some (.ref fa) →
   s₁.heap.get? a=some { cls:=.type "list",data:=.seq vs.toArray }→IntsAre vs ns→ns.length≤n→s₁.gens = #[] →
   codeAny (model l.prog w) callerA (.call (.ref fa) ⟨[.ref a],[]⟩) (fun r s'=>r = .ok (.ret (.bool true))∧OldK s₁.heap s'.heap∧s'.os=s₁.os∧AllBare s'.gens) s₁) :
  WalkO q loose XP YP l.row.toRowW d [] (fun f vs=>PySem.call f vs):=by
 intro w s₀ s₁ mg mb G Y fa o pm cd doc dV kV ho hd hcd hD hmg hg args vals as hpre hlay hrd hwl hlo
 obtain rfl:dV = .none:=Dflts.none hD hdf
 obtain rfl:kV = .none:=Dflts.noKw hD
 obtain⟨a,vs,ns,rfl,rfl,hobj,hints,hlen⟩:=qT hn hpre hwl
 refine enter_call (codeAny_mono (call w s₀ s₁ mg mb fa o pm cd doc a vs ns G Y ho (fd_plain hd) hcd hmg hobj hints hlen hg) fun r s' hq=>?_)
 obtain⟨rfl,h2,h3,h4⟩:=hq
 exact⟨.inl ⟨.bool true,.bool true,[],rfl,fun _=>rfl,.bool true,qY l _,fun _=>⟨List.Pairwise.nil,fun _ hm=>(nomatch hm)⟩⟩,h2,h3,h4⟩
section
variable {prog:Program} {w:World} {A:Around} {E:Value→Shared→Prop} {s:Shared} {K:Frag}
end
end Att
namespace L2
open PySem PySem.Spec PyProof.Rows
theorem gf:∀{vs:List Value} {ns:List Int},IntsAre vs ns→i8 (ns.map V.int) vs
 | _,_,.nil=>.nil
 | _,_,.cons n t h=>.cons ⟨t,rfl⟩ (gf h)
def rZ(H:Hp):Prop:=∀ b,H b=none ∨ ∃ o xs,H b=some (.frz o (.lst xs))
theorem vN{P:Program}{w:World}{K:JB}{mg mb:Str→Option Value}{CX:CXT}{k:Nat}{fa a:Addr}{fd:FuncData}{x:Str}{sp:Sp}{s₁:Shared}{vs:List Value}{ns:List Int}
  (KX:K.In s₁.heap) (hns:s₁.heap.Ns mainGlobals mg) (hb:s₁.heap.Ns builtinsNs mb) (hbb:∀ x:Str,x ≠ "__name__" → mb x=bootBuiltins x) (hlim:s₁.heap.NoLimit) (hsee:s₁.heap.NoSeer) (hg:s₁.gens = #[])
  (ha:s₁.heap.get? a=some { cls:=.type "list",data:=.seq vs.toArray }) (hi:IntsAre vs ns) (hl:ns.length≤sizeLine) (hr:F5 k callerA)
  (F:∀ base:Heap,K.In base→base.Ns mainGlobals mg→base.NoSeer→P1 P w K mg base CX k fa fd [x] sp) (hbind:∀(s:Shared) (u:Value),BindsTo s fd ⟨[u],[]⟩ [(x,u)])
  (hsp:∀ H:Hp,rZ H→SqL K H a (ns.map V.int)→sp [.ref a] H (fun v _=>v = .bl true) fun _ _ _=>False)
  (hCX:∀ H e s',CX [] H s₁ (fun _ _ _=>False) e s'→False) :
  codeAny (model P w) callerA (.call (.ref fa) ⟨[.ref a],[]⟩) (fun r s'=>r = .ok (.ret (.bool true))∧OldK s₁.heap s'.heap∧s'.os=s₁.os∧AllBare s'.gens) s₁:=by
 have rv:=gf hi
 have lenV:=hi.length
 have core:∀ H:Hp,rZ H→SqL K H a (ns.map V.int)→HOk P w H s₁.heap→(∀ b,H b≠none→b=a)→(H a≠none→K.lookup a=none) →
   codeAny (model P w) callerA (.call (.ref fa) ⟨[.ref a],[]⟩) (fun r s'=>r = .ok (.ret (.bool true))∧OldK s₁.heap s'.heap∧s'.os=s₁.os∧AllBare s'.gens) s₁:=by
  intro H hO hS hok hA hK
  have base_of:∀{b:Addr} {o:Obj},s₁.heap.get? b=some o→H b=none→(jj s₁.heap H).get? b=some o:=fun e n=>vS e n
  have noA:∀{b:Addr} {o:Obj} {es:Array DictEntry} {ep:Nat},s₁.heap.get? b=some o→o.data = .dict es ep→H b=none:=fun{b o es ep} e d=>by
   cases q:H b with
   | none=>rfl
   | some u =>
    have e':b=a:=hA b (by rw[q];simp)
    subst e'
    rw[ha]at e;cases e
    have d':Data.seq vs.toArray _=Data.dict es ep:=d
    cases d'
  have noM:∀{b:Addr} {o:Obj},s₁.heap.get? b=some o→o.cls = .type "module" → H b=none:=fun{b o} e d=>by
   cases q:H b with
   | none=>rfl
   | some u =>
    have e':b=a:=hA b (by rw[q];simp)
    subst e'
    rw[ha]at e;cases e
    have d':Value.type "list" = Value.type "module" := d
    exact absurd d' (by decide)
  have nsK:∀{b:Addr} {m:Str→Option Value},s₁.heap.Ns b m→(jj s₁.heap H).Ns b m:=fun{b m} ⟨o,es,ep,e,d,r⟩=>⟨o,es,ep,base_of e (noA e d),d,r⟩
  have hKb:K.In (jj s₁.heap H):=fun b o e=>base_of (KX b o e) (by
   cases q:H b with
   | none=>rfl
   | some u =>
    have e':b=a:=hA b (by rw[q];simp)
    subst e'
    rw[hK (by rw[q];simp)]at e;cases e)
  have hM:Mod K mg (jj s₁.heap H):=⟨hKb,nsK hns,⟨mb,nsK hb,hbb⟩,let ⟨mc,h1,h2⟩:=hlim;⟨mc,nsK h1,h2⟩⟩
  have e0:nS P w K mg (jj s₁.heap H) callerA [] s₁ H:=⟨rfl,hM,fun b o e=>zl e,NQ (rO _ _),trivial,fun b hb=>absurd (show b∈([]:List Addr)from hb) (by simp),hok,.of_eq hg⟩
  refine codeAny_mono ((F _ hKb (nsK hns) (let ⟨s1,s2,s3,s4⟩:=hsee;⟨let ⟨mc,h1,h2⟩:=s1;⟨mc,nsK h1,h2⟩,let ⟨mc,h1,h2⟩:=s2;⟨mc,nsK h1,h2⟩,let ⟨mc,h1,h2⟩:=s3;⟨mc,nsK h1,h2⟩,let ⟨mc,bm,ob,h1,h2,h3,h4,h5⟩:=s4;⟨mc,bm,ob,nsK h1,h2,base_of h3 (noM h3 h4),h4,h5⟩⟩)).run callerA [] s₁ H ⟨[.ref a],[]⟩ [.ref a] [.ref a] _ _ hr e0 (hbind s₁ (.ref a)) (.cons rfl .nil) (hsp H hO hS)) fun r s' h=>?_
  cases r with
  | error e=>exact(hCX H e s' h).elim
  | ok fl =>
   cases fl with
   | next=>exact False.elim h
   | brk=>exact False.elim h
   | cont=>exact False.elim h
   | ret u =>
    obtain⟨v,H',os,bare,un,hok',r',q⟩:=h
    have q':v = .bl true:=q
    subst q'
    obtain rfl:u=Value.bool true:=r'
    refine⟨rfl,OldK.of_keep fun b o e=>?_,os,bare⟩
    cases q:H b with
    | none=>exact un.keep b o e q (by intro z;exact absurd (show b∈([]:List Addr)from z) (by simp)) (by simp)
    | some u =>
     rcases hO b with z|⟨ob,xs,z⟩
     ·rw[q]at z;cases z
     ·have z2:=un.frzs b ob _ z
      obtain⟨e1,_⟩:=hok b _ z
      obtain⟨e2,_⟩:=hok' b _ z2
      rw[e]at e1;cases e1
      exact e2
 cases hk:K.lookup a with
 | some o =>
  have e:=KX a o hk
  rw[ha]at e
  cases e
  refine core (fun _=>none) (fun _=>.inl rfl) (.inr ⟨_,vs.toArray,_,hk,rfl,rfl,rfl,by rw[Ko,lenV];exact hl,by simpa using rv⟩) (fun b u z=>by have z':(none:Option HO)=some u:=z;cases z') (fun b z=>absurd rfl z) fun z=>absurd rfl z
 | none =>
  refine core (fun b=>if b=a then some (.frz { cls:=.type "list",data:=.seq vs.toArray } (.lst (ns.map V.int)))else none) (fun b=>?_) (.inl (.inr ⟨{ cls:=.type "list",data:=.seq vs.toArray },if_pos rfl⟩)) (fun b u z=>?_) (fun b z=>?_) fun _=>hk
  ·by_cases hb:b=a
   ·exact .inr ⟨_,_,if_pos hb⟩
   ·exact .inl (if_neg hb)
  ·by_cases hb:b=a
   ·have z':=(if_pos hb).symm.trans z
    cases z'
    subst hb
    exact⟨ha,by rw[JD];exact hl,vs,_,rv,ha⟩
   ·have z':=(if_neg hb).symm.trans z
    cases z'
  ·by_cases hb:b=a
   ·exact hb
   ·exact absurd (if_neg hb) z
theorem yj{l:PySem.W.OpenLaw}{n k:Nat}{q:Program}{loose:List Str}{XP:(Str→Option Value)→Heap→Prop}{YP:World→Heap→Prop}{d:DefRec}{K:Params→JB}{CX:World→CXT}{sp:World→Sp}{x:Str}
  (hq:PyProof.Rows.importsNone q=true) (hn:l.most=some n) (hn2:n≤sizeLine) (hdf:d.params.defaults=[]) (hr:F5 k callerA)
  (hY:∀(w:World) (h:Heap),YP w h→(K w.params).In h)
  (F:∀(w:World) (mg:Str→Option Value) (fa:Addr) (h:Heap),(K w.params).In h→h.Ns mainGlobals mg→mg d.name=some (.ref fa) →
   ∃ fd:FuncData,(∀(s:Shared) (u:Value),BindsTo s fd ⟨[u],[]⟩ [(x,u)]) ∧
    ∀ base:Heap,(K w.params).In base→base.Ns mainGlobals mg→base.NoSeer→P1 l.prog w (K w.params) mg base (CX w) k fa fd [x] (sp w))
  (hsp:∀(w:World) (H:Hp) (a:Addr) (ns:List Int),ns.length≤n→rZ H→SqL (K w.params) H a (ns.map V.int)→sp w [.ref a] H (fun v _=>v = .bl true) fun _ _ _=>False)
  (hCX:∀(w:World) (H:Hp) (s:Shared) (e:Value) (s':Shared),CX w [] H s (fun _ _ _=>False) e s'→False) :
  PySem.W.WalkO q loose XP YP l.row.toRowW d [] (fun f vs=>PySem.call f vs):=by
 refine Att.mh hn hdf fun w s₀ s₁ mg mb fa o pm cd doc a vs ns G Y ho hd hcd hmg hobj hints hlen hg=>?_
 have KX:=hY w _ Y
 obtain⟨fd,hb,hF⟩:=F w mg fa _ KX G.T.g hmg
 exact vN KX G.T.g G.T.b G.T.builtins G.T.nolimit (G.T.seer hq) hg hobj hints (JR hlen hn2) hr hF hb (fun H hO hS=>hsp w H a ns hlen hO hS) fun H e s'=>hCX w H s₁ e s'
theorem ud{l:PySem.W.OpenLaw}{n k:Nat}{q:Program}{loose:List Str}{XP:(Str→Option Value)→Heap→Prop}{YP:World→Heap→Prop}{d:DefRec}{K:Params→JB}{CX:CXT}{sp:JB→Sp}{x:Str}
  (hq:PyProof.Rows.importsNone q=true) (hn:l.most=some n) (hn2:n≤sizeLine) (hdf:d.params.defaults=[]) (hr:F5 k callerA)
  (hY:∀(w:World) (h:Heap),YP w h→(K w.params).In h)
  (F:∀(w:World) (mg:Str→Option Value) (fa:Addr) (h:Heap),(K w.params).In h→h.Ns mainGlobals mg→mg d.name=some (.ref fa) →
   ∃ fd:FuncData,(∀(s:Shared) (u:Value),BindsTo s fd ⟨[u],[]⟩ [(x,u)]) ∧
    ∀ base:Heap,(K w.params).In base→base.Ns mainGlobals mg→base.NoSeer→P1 l.prog w (K w.params) mg base CX k fa fd [x] (sp (K w.params)))
  (hsp:∀(K:JB) (H:Hp) (a:Addr) (ns:List Int),ns.length≤n→rZ H→SqL K H a (ns.map V.int)→sp K [.ref a] H (fun v _=>v = .bl true) fun _ _ _=>False)
  (hCX:∀(H:Hp) (s:Shared) (e:Value) (s':Shared),CX [] H s (fun _ _ _=>False) e s'→False) :
  PySem.W.WalkO q loose XP YP l.row.toRowW d [] (fun f vs=>PySem.call f vs) :=
 yj (K:=K) (CX:=fun _=>CX) (sp:=fun w=>sp (K w.params)) hq hn hn2 hdf hr hY F (fun w H a ns h1 h2 h3=>hsp (K w.params) H a ns h1 h2 h3) fun _ H s e s'=>hCX H s e s'
noncomputable def O3(s:Stmt):Arguments:=match s with
 | .FunctionDef _ a _ _ _ _ _ _ _ _=>a
 | _=>{ posonlyargs:=[],args:=[],vararg:=none,kwonlyargs:=[],kw_defaults:=[],kwarg:=none,defaults:=[] }
noncomputable def G7(s:Stmt):List Stmt:=match s with
 | .FunctionDef _ _ b _ _ _ _ _ _ _=>b
 | _=>[]
noncomputable def d8(s:Stmt):Scope:=match s with
 | .FunctionDef _ _ _ _ _ _ sc _ _ _=>sc
 | _=>{ kind:=.function,names:=[],isGenerator:=false,isCoroutine:=false }
abbrev CX0:CXT:=fun _ _ _ _ _ _=>False
abbrev E0:XK:=fun _ _ _=>False
theorem Fs{X:Cx}:jL CX0 X E0:=fun _ _ _ _ _ _ _ h=>h.elim
section
variable {P:Program} {w:World} {K:JB} {mg:Str→Option Value} {base:Heap}
end
section
variable {X:Cx}
end
theorem Hf{A B:Prop}(h:A):if true=true then A else B:=by
 rw[if_pos rfl]
 exact h
end L2
end
namespace RM
open Rat
noncomputable def bl(n:Nat):Nat:=n.log2+1
theorem av(n:Nat):n<2 ^ bl n:=Nat.lt_log2_self
theorem S3{n k:Nat}(h:n<2 ^ k)(hk:0<k):bl n≤k:=by
 unfold bl
 rcases Ny n with h0|h0
 ·subst h0;rw[Nat.log2_zero];omega
 ·have:=(Nm (Nn.mp h0)).mpr h
  omega
theorem wQ(n:Nat):0<bl n:=Nat.succ_pos _
theorem jF{m n:Nat}(h:m≤n):bl m≤bl n:=S3 (Kz h (av n)) (wQ n)
theorem Y2(m n:Nat):bl (m*n)≤bl m+bl n:=by
 refine S3 ?_ (Nat.add_pos_left (wQ m) _)
 rw[Ob]
 exact MP (av m) (av n)
theorem DS(m n:Nat):bl (m+n)≤max (bl m) (bl n)+1:=by
 refine S3 ?_ (Nat.succ_pos _)
 have h1:=av m
 have h2:=av n
 have e1:2 ^ bl m≤2 ^ max (bl m) (bl n):=Kw (by decide) (MY _ _)
 have e2:2 ^ bl n≤2 ^ max (bl m) (bl n):=Kw (by decide) (MQ _ _)
 rw[Ma]
 omega
noncomputable def sz(q:Rat):Nat:=max (bl q.num.natAbs) (bl q.den)
theorem P5(q:Rat):bl q.num.natAbs≤sz q:=MY _ _
theorem K8(q:Rat):bl q.den≤sz q:=MQ _ _
theorem AW{q:Rat}{n:Nat}(h1:bl q.num.natAbs≤n)(h2:bl q.den≤n):sz q≤n:=Mn.mpr ⟨h1,h2⟩
theorem Dh(a b:Int):(divInt a b).num.natAbs≤a.natAbs:=by
 rw[num_divInt]
 rcases Int.lt_trichotomy b 0 with h|h|h
 ·rw[Mz h]
  refine JR (ME _ _) ?_
  simp
 ·subst h;simp
 ·rw[MT h,Int.one_mul]
  exact ME _ _
theorem DH(a b:Int)(hb:b≠0):(divInt a b).den≤b.natAbs:=by
 rw[den_divInt,if_neg hb]
 exact Lr _ _
theorem G8(a b:Int)(hb:b≠0):sz (divInt a b)≤max (bl a.natAbs) (bl b.natAbs) :=
 AW (JR (jF (Dh a b)) (MY _ _)) (JR (jF (DH a b hb)) (MQ _ _))
theorem y9(q:Rat):(q.den:Int)≠0:=by have:=q.den_nz;omega
theorem jG(q r:Rat):q+r=divInt (q.num*r.den+r.num*q.den) (q.den*r.den):=by
 conv=>lhs;rw[← num_divInt_den q,← num_divInt_den r]
 rw[divInt_add_divInt _ _ (y9 q) (y9 r)]
theorem ni(q r:Rat):q*r=divInt (q.num*r.num) (q.den*r.den):=by
 conv=>lhs;rw[← num_divInt_den q,← num_divInt_den r]
 rw[divInt_mul_divInt]
theorem wq(q r:Rat):q / r=divInt (q.num*r.den) (q.den*r.num):=by
 rw[div_def]
 conv=>lhs;rw[← num_divInt_den q,← num_divInt_den r]
 rw[inv_divInt,divInt_mul_divInt]
theorem eB(a b:Int):(a+b).natAbs≤a.natAbs+b.natAbs:=NJ a b
theorem W1(q r:Rat):sz (q+r)≤sz q+sz r+1:=by
 rw[jG]
 have hb:((q.den:Int)*(r.den:Int))≠0:=Le (y9 q) (y9 r)
 refine JR (G8 _ _ hb) (Mn.mpr ⟨?_,?_⟩)
 ·refine JR (jF (eB _ _)) (JR (DS _ _) ?_)
  rw[KS,KS]
  have h1:=Y2 q.num.natAbs (r.den:Int).natAbs
  have h2:=Y2 r.num.natAbs (q.den:Int).natAbs
  have a1:=P5 q
  have a2:=P5 r
  have a3:=K8 q
  have a4:=K8 r
  simp only[JU]at h1 h2 ⊢
  omega
 ·rw[KS]
  have h1:=Y2 (q.den:Int).natAbs (r.den:Int).natAbs
  have a3:=K8 q
  have a4:=K8 r
  simp only[JU]at h1 ⊢
  omega
theorem F7(q r:Rat):sz (q*r)≤sz q+sz r:=by
 rw[ni]
 have hb:((q.den:Int)*(r.den:Int))≠0:=Le (y9 q) (y9 r)
 refine JR (G8 _ _ hb) (Mn.mpr ⟨?_,?_⟩)
 ·rw[KS]
  have h1:=Y2 q.num.natAbs r.num.natAbs
  have a1:=P5 q
  have a2:=P5 r
  omega
 ·rw[KS]
  have h1:=Y2 (q.den:Int).natAbs (r.den:Int).natAbs
  have a3:=K8 q
  have a4:=K8 r
  simp only[JU]at h1 ⊢
  omega
theorem D9(q:Rat):sz (-q)=sz q:=by
 unfold sz
 rw[MI,MJ,Lm]
theorem W0(q r:Rat):sz (q - r)≤sz q+sz r+1:=by
 rw[MA]
 have:=W1 q (-r)
 rw[D9]at this
 exact this
theorem aL(q r:Rat)(hr:r≠0):sz (q / r)≤sz q+sz r:=by
 rw[wq]
 have hn:r.num≠0:=fun h=>hr (Ms.mp h)
 have hb:((q.den:Int)*r.num)≠0:=Le (y9 q) hn
 refine JR (G8 _ _ hb) (Mn.mpr ⟨?_,?_⟩)
 ·rw[KS]
  have h1:=Y2 q.num.natAbs (r.den:Int).natAbs
  have a1:=P5 q
  have a4:=K8 r
  simp only[JU]at h1 ⊢
  omega
 ·rw[KS]
  have h1:=Y2 (q.den:Int).natAbs r.num.natAbs
  have a3:=K8 q
  have a2:=P5 r
  simp only[JU]at h1 ⊢
  omega
theorem uk(q:Rat){n:Nat}(hn:0<n)(h1:q.num.natAbs<2 ^ n)(h2:q.den<2 ^ n):sz q≤n:=AW (S3 h1 hn) (S3 h2 hn)
theorem bT:sz 0=1:=by decide
theorem dm:sz 1=1:=by decide
theorem lH(a b:Nat)(h:b≠0):Ll a b=Ll b (a % b):=by
 rw[MB,Nat.gcd_rec,MB]
theorem O2{a g:Int}(h:g ∣ a):a.fdiv g=a / g:=by
 obtain⟨c,rfl⟩:=h
 by_cases hg:g=0
 ·subst hg;simp
 ·rw[Int.mul_fdiv_cancel_left _ hg,Int.mul_ediv_cancel_left _ hg]
theorem Dm(a b:Int)(hb:b≠0)(share:Int)(hs:share=if b<0 then -((Ll a.natAbs b.natAbs:Nat):Int)else((Ll a.natAbs b.natAbs:Nat):Int)) :
  a.fdiv share=(divInt a b).num∧b.fdiv share=((divInt a b).den:Int):=by
 have hg:Ll a.natAbs b.natAbs=Ow b a:=by unfold Ow;exact MB _ _
 have da:((Ow b a:Nat):Int) ∣ a:=Int.gcd_dvd_right b a
 have db:((Ow b a:Nat):Int) ∣ b:=Int.gcd_dvd_left b a
 rw[hg]at hs
 rw[num_divInt,den_divInt,if_neg hb]
 by_cases h:b<0
 ·rw[if_pos h]at hs
  subst hs
  rw[O2 (Int.neg_dvd.mpr da),O2 (Int.neg_dvd.mpr db),Mz h]
  refine⟨?_,?_⟩
  ·rw[Int.ediv_neg,Int.neg_one_mul,Np da]
  ·rw[Int.ediv_neg,← Np db]
   have e:-b=((b.natAbs:Nat):Int):=by omega
   rw[e]
   norm_cast
 ·rw[if_neg h]at hs
  subst hs
  have hp:0<b:=by omega
  rw[O2 da,O2 db,MT hp,Int.one_mul]
  refine⟨rfl,?_⟩
  have e:b=((b.natAbs:Nat):Int):=by omega
  conv=>lhs;rw[e]
  norm_cast
theorem FF(q r:Rat):decide (q.num*(r.den:Int)<r.num*(q.den:Int))=decide (q<r):=by
 by_cases h:q<r
 ·rw[decide_eq_true h,decide_eq_true ((Ov q r).mp h)]
 ·rw[decide_eq_false h,decide_eq_false (fun z=>h ((Ov q r).mpr z))]
end RM
namespace L2
open PySem PySem.Spec PyProof.Rows
section
variable {prog:Program} {w:World} {A:Around} {R:Result→Shared→Prop} {s:Shared}
noncomputable def pz(ifs:List Expr)(env:Env):Sem Bool:=forIn ifs true fun c r=>if r=true then do let ok ← isTrue c env (eval c env);pure (ForInStep.yield ok)else pure (ForInStep.yield r)
theorem jA{elt target iter:Expr}{ifs:List Expr}{scope:Scope}{pos:Pos}{it acc:Value}{env:Env}(I:Nat→Shared→Prop)
  (turn:∀ n s,I n s→wpAny (model prog w) A (pyNext it) (fun r s₁=>match r with
   | none=>R (.ok .next) s₁
   | some v=>wpAny (model prog w) A (letOwnedTupleGo target it v) (fun _ s₁'=>wpAny (model prog w) A (assign target env v) (fun _ s₂=>wpAny (model prog w) A (pz ifs env) (fun ok s₂'=>if ok=true then wpAny (model prog w) A (eval elt env) (fun x s₃ =>
     wpAny (model prog w) A (call (.builtin "list.append") [acc,x]) (fun _ s₄=>∃ m,m<n∧I m s₄) (notedBy (model prog w) A env fun e s'=>R (.error e) s') s₃)
     (notedBy (model prog w) A env fun e s'=>R (.error e) s') s₂' else ∃ m,m<n∧I m s₂') (notedBy (model prog w) A env fun e s'=>R (.error e) s') s₂) (notedBy (model prog w) A env fun e s'=>R (.error e) s') s₁') (notedBy (model prog w) A env fun e s'=>R (.error e) s') s₁) (notedBy (model prog w) A env fun e s'=>R (.error e) s') s)
  (n:Nat) (h:I n s) :
  codeAny (model prog w) A (.compLoop (.ListComp elt [⟨target,iter,ifs,0⟩] scope pos) 0 it acc env) R s:=by
 refine codeAny_loop rfl I (fun n s hI=>?_) n h
 show wpAny _ _ ((compTurn (.ListComp elt [⟨target,iter,ifs,0⟩] scope pos) 0 it acc env).onRaise (fun x=>do noteFrame x env;theTreesLotGoes x)) _ _ s
 refine wpAny_noted ?_
 rw[compTurn_list]
 refine JC (wpAny_standAt (JC (wpAny_mono (turn n s hI) (fun r s₁ h₁=>?_) fun _ _ h'=>h')))
 cases r with
 | none=>exact JZ h₁
 | some v =>
  refine JC (wpAny_mono h₁ (fun _ s₁' h₁'=>?_) fun _ _ h'=>h')
  refine JC (wpAny_mono h₁' (fun _ s₂ h₂=>JC (wpAny_mono h₂ (fun ok s₂' h₃=>?_) fun _ _ h'=>h')) fun _ _ h'=>h')
  cases ok with
  | true =>
   refine JC (JC (wpAny_mono h₃ (fun x s₃ h₄=>JC (wpAny_mono h₄ (fun _ s₄ h₅=>JZ (JZ ⟨rfl,h₅⟩)) fun _ _ h'=>h')) fun _ _ h'=>h'))
  | false=>exact JC (JZ (JZ ⟨rfl,h₃⟩))
end
def br(X:Cx)(ifs:List Expr)(t:TT):Prop :=
 ∀(pins:List (Addr × Obj)) (s:Shared) (σ:St) (H:Hp) (Q:Bool→Hp→Prop),Inv X pins σ H s→t σ H Q→wpAny (model X.prog X.w) X.A (pz ifs X.env) (TP X pins σ Q) X.xe s
def GF:TT:=fun _ H Q=>Q true H
theorem uY{X:Cx}:br X [] GF:=fun pins s σ H Q I q=>JZ ⟨H,I,q⟩
theorem uX{X:Cx}{c:Expr}{t:TT}(h:PT X c t):br X [c] t:=fun pins s σ H Q I q=>wpAny_tests_one (h pins s σ H Q I q)
noncomputable def S1(cells:List (Str × Addr)):List (Str × NameKind)→List (Str × Addr)→List (Str × Addr)
 | [],acc=>acc
 | (n,k) :: r,acc=>if k == .free then S1 cells r ((n,(cells.lookup n).getD 0) :: acc)else S1 cells r acc
theorem Y1{env:Env}:∀(names:List (Str × NameKind)) (acc:List (Str × Addr)),(∀ n,(n,NameKind.free)∈names→∃ c,env.cells.lookup n=some c) →
  (forIn names acc (fun(x:Str × NameKind) (cs:List (Str × Addr))=>if (x.2 == NameKind.free)=true then(do let a ← cellOf env x.1;pure (ForInStep.yield ((x.1,a) :: cs)))else pure (ForInStep.yield cs)):Sem (List (Str × Addr)))=pure (S1 env.cells names acc)
 | [],acc,_=>rfl
 | (n,k) :: r,acc,h=>by
  rw[MZ]
  unfold S1
  by_cases hk:(k == NameKind.free)=true
  ·have e:k = .free:=by cases k<;>first|rfl|(exact absurd hk (by decide))
   subst e
   obtain⟨c,hc⟩:=h n JH
   rw[if_pos hk,if_pos hk]
   have e1:cellOf env n=pure c:=by unfold cellOf;rw[hc]
   rw[e1,pure_bind,pure_bind,hc]
   exact Y1 r _ fun m hm=>h m (JF _ hm)
  ·rw[if_neg hk,if_neg hk,pure_bind]
   exact Y1 r _ fun m hm=>h m (JF _ hm)
theorem lW{scope:Scope}{env:Env}(h:∀ n,(n,NameKind.free)∈scope.names→∃ c,env.cells.lookup n=some c):closureFor scope env=pure (S1 env.cells scope.names []):=by
 have:=Y1 (env:=env) scope.names [] h
 unfold closureFor
 first
  | (simp only[]at this ⊢;rw[← this];simp only[bind_pure];rfl)
  | (rw[← this];rfl)
  | (simp only[bind_pure,pure_bind];exact this)
theorem O7{cells:List (Str × Addr)}{x:Str}{c:Addr}:∀(names:List (Str × NameKind)) (acc:List (Str × Addr)),(∀ n,(n,NameKind.free)∈names→∃ c,cells.lookup n=some c)→(∀ y d,acc.lookup y=some d→cells.lookup y=some d)→(S1 cells names acc).lookup x=some c→cells.lookup x=some c
 | [],acc,_,ha,h=>ha x c h
 | (n,k) :: r,acc,hn,ha,h=>by
  unfold S1 at h
  by_cases hk:(k == NameKind.free)=true
  ·rw[if_pos hk]at h
   have e:k = .free:=by cases k<;>first|rfl|(exact absurd hk (by decide))
   subst e
   obtain⟨d,hd⟩:=hn n JH
   refine O7 r _ (fun m hm=>hn m (JF _ hm)) (fun y e hy=>?_) h
   rw[LH]at hy
   split at hy
   ·rename_i hz
    have hz':y=n:=by simpa using hz
    subst hz'
    rw[hd]at hy ⊢
    cases hy;rfl
   ·exact ha y e hy
  ·rw[if_neg hk]at h
   exact O7 r _ (fun m hm=>hn m (JF _ hm)) ha h
theorem U6{cells:List (Str × Addr)}{x:Str}:∀(names:List (Str × NameKind)) (acc:List (Str × Addr)),((x,NameKind.free)∈names ∨ ∃ c,acc.lookup x=some c)→∃ c,(S1 cells names acc).lookup x=some c
 | [],acc,h=>by
  rcases h with h|h
  ·cases h
  ·exact h
 | (n,k) :: r,acc,h=>by
  unfold S1
  by_cases hk:(k == NameKind.free)=true
  ·rw[if_pos hk]
   refine U6 r _ ?_
   by_cases hx:x=n
   ·right;rw[LH];simp[hx]
   ·rcases h with h|⟨c,h⟩
    ·rcases JJ.mp h with z|z
     ·injection z with z1 _;exact absurd z1 hx
     ·exact .inl z
    ·right
     refine⟨c,?_⟩
     rw[LH]
     have:(x == n)=false:=by simpa using hx
     rw[this];exact h
  ·rw[if_neg hk]
   refine U6 r _ ?_
   rcases h with h|h
   ·rcases JJ.mp h with z|z
    ·injection z with _ z2
     subst z2
     exact absurd rfl hk
    ·exact .inl z
   ·exact .inr h
theorem bF{scope:Scope}{env:Env}{x:Str}{k:NameKind}(h:(relabel scope env).names.lookup x=some k)(hk:k = .cell∨k = .free)(hcell:∀ y∈scope.names,y.2 ≠ .cell):(x,NameKind.free)∈scope.names:=by
 have go:∀(l:List (Str × NameKind)),(∀ y∈l,y.2 ≠ .cell)→(l.map fun(n,k)=>if (k == NameKind.free && env.scope.kind == .function && env.kindOf n == some .cell)=true then(n,NameKind.cell)else(n,k)).lookup x=some k→(x,NameKind.free)∈l:=by
  intro l
  induction l with
  | nil=>intro _ h;cases h
  | cons p r ih =>
   intro hl h
   obtain⟨n,j⟩:=p
   rw[Ky,LH]at h
   by_cases hj:j = .free
   ·subst hj
    by_cases hx:x=n
    ·subst hx;exact JH
    ·refine JF _ (ih (fun y hy=>hl y (JF _ hy)) ?_)
     have e:∀ b:Bool,(x == (if b=true then(n,NameKind.cell)else(n,NameKind.free)).1)=false:=fun b=>by cases b<;>simpa using hx
     dsimp only at h
     rw[e]at h
     exact h
   ·have e:(j == NameKind.free)=false:=by simpa using hj
    have hc:=hl (n,j) JH
    dsimp only at h
    rw[e]at h
    simp only[Oq,LP,if_false]at h
    by_cases hx:x=n
    ·have:(x == n)=true:=by simpa using hx
     rw[this]at h
     have h':j=k:=by simpa using h
     subst h'
     rcases hk with z|z
     ·exact absurd z hc
     ·exact absurd z hj
    ·have:(x == n)=false:=by simpa using hx
     rw[this]at h
     exact JF _ (ih (fun y hy=>hl y (JF _ hy)) h)
 exact go scope.names hcell h
noncomputable def cxF(X:Cx)(scope:Scope)(cl:List (Str × Addr))(N':List Str)(s3:Shared)(H3:Hp)(C:Addr)(fp:List Addr)(pins:List (Addr × Obj)):Cx :=
 { X with N:=N',s₀:=s3,H₀:=H3,env:=compEnvC scope cl C X.env,outer:=X.stack,ex:=fp,fn:=fun _=>false,pn:=X.pn++pins,xe:=fun _ _=>False }
noncomputable def jC(n:Nat)(caps:List Nat)(σ:St):St:=LA n none++caps.map fun i=>(σ[i]?).getD none
def mB(n:Nat)(caps:List Nat)(wi:TI)(g:TG)(tc:TT)(te:TE):TE:=fun σ H Q=>wi σ H fun J H1=>∀ D,H1 D=none→∃ W:Nat→Nat→Hp→Prop,(∃ m,W 0 m (upd H1 D (.lst [])))∧∀ i m H,W i m H →
 (J.stop i H∧Q (.ref D) H)∨(J.go i H∧∀ x H',J.yld i H x H'→g x (jC n caps σ) H' fun σ2 H2=>tc σ2 H2 fun b H2'=>if b=true then te σ2 H2' fun v H3=>∃ ys,H3 D=some (.lst ys)∧ys.length<sizeLine∧∃ m',m'<m∧W (i+1) m' (upd H3 D (.lst (ys++[v])))else ∃ m',m'<m∧W (i+1) m' H2')
section
variable {X:Cx} {elt tg iter:Expr} {scope:Scope} {cl:List (Str × Addr)} {tgs cps:List Str} {caps:List Nat} {wi:TI} {g:TG} {tc:TT} {te:TE} {pos:Pos} {ifs:List Expr}
def xh(s3:Shared)(H3:Hp)(fp:List Addr)(cl:List (Str × Addr))(x:Str)(v:V):Prop :=
 ∃(u:Value) (c:Addr) (o:Obj),o7 v u∧cl.lookup x=some c∧s3.heap.get? c=some o∧o.data = .cell (some u)∧H3 c=none∧c∉fp
theorem Inv.reset{pins pins':List (Addr × Obj)}{σ0 σ':St}{H3 H':Hp}{s3 s':Shared}{fp:List Addr}{C:Addr}(I:Inv (cxF X scope cl (tgs++cps) s3 H3 C fp pins) pins' σ' H' s')
  (hsc:∀ x∈cps,(relabel scope X.env).names.lookup x=some .cell∨(relabel scope X.env).names.lookup x=some .free) (hl:caps.length=cps.length)
  (hc:∀(j:Nat) (x:Str) (v:V),cps[j]? = some x→(caps.map fun i=>(σ0[i]?).getD none)[j]? = some (some v)→xh s3 H3 fp cl x v) :
  Inv (cxF X scope cl (tgs++cps) s3 H3 C fp pins) pins' (jC tgs.length caps σ0) H' s':=by
 obtain⟨m,hn,_⟩:=I.loc
 refine⟨I.ok,I.os,I.bare,I.base,⟨m,hn,fun i x v e1 e2 e3=>?_⟩,I.cell,I.free,I.freeC,I.pin,I.hok,by simp[jC,cxF,hl]⟩
 have e1:(tgs++cps)[i]? = some x:=e1
 unfold jC at e2
 rw[Mi]at e1 e2
 rw[LZ]at e2
 by_cases hi:i<tgs.length
 ·rw[if_pos hi]at e2
  rw[Lk]at e2
  split at e2<;>cases e2
 ·rw[if_neg hi]at e1 e2
  obtain⟨u,c,o,r,h1,h2,h3,h4,h5⟩:=hc (i - tgs.length) x v e1 e2
  obtain⟨sl,k⟩:=I.base.any h2 h4 h5
  refine⟨u,r,.inr ⟨?_,c,h1,_,k,h3⟩⟩
  rcases hsc x (Kd e1)with z|z
  ·exact .inl z
  ·exact .inr z
theorem lV{pins:List (Addr × Obj)}{σ0:St}{σ:St}{H3:Hp}{s3:Shared}{fp:List Addr}{it D C:Addr}{tn:Nat→Heap→Prop}{J:It}{h₁:Heap}{tk:Nat}{m:Str→Option Value}{R:Result→Shared→Prop}{Qd:Hp→Prop}
  (hc:X.calm=true) (hcell:∀ x∈scope.names,x.2 ≠ .cell) (hkind:scope.kind = .function)
  (hcl:∀ x c,cl.lookup x=some c→X.env.cells.lookup x=some c) (hhas:∀ x,(x,NameKind.free)∈scope.names→∃ c,cl.lookup x=some c)
  (hsc:∀ x∈cps,(relabel scope X.env).names.lookup x=some .cell∨(relabel scope X.env).names.lookup x=some .free) (hl:caps.length=cps.length)
  (hcap:∀(j:Nat) (x:Str) (v:V),cps[j]? = some x→(caps.map fun i=>(σ0[i]?).getD none)[j]? = some (some v)→xh s3 H3 fp cl x v)
  (hg:∀ cl s3 H3 C fp pins,PG (cxF X scope cl (tgs++cps) s3 H3 C fp pins) tg g) (hq:∀ cl s3 H3 C fp pins,br (cxF X scope cl (tgs++cps) s3 H3 C fp pins) ifs tc) (he:∀ cl s3 H3 C fp pins,PE (cxF X scope cl (tgs++cps) s3 H3 C fp pins) elt te)
  (I3:Inv X pins σ H3 s3) (T:nQ X.prog X.w X.K tg J fp it tn) (st3:tn 0 s3.heap) (f3:∀ b∈fp,Y4 X pins H3 b) (hC:C=s3.heap.objs.size) (hn:h₁.Ns C m) (hk:∀ b o,s3.heap.get? b=some o→h₁.get? b=some o)
  (W:Nat→Nat→Hp→Prop) (m0:Nat) (w0:W 0 m0 H3)
  (turn:∀ i m H,W i m H→(J.stop i H∧Qd H)∨(J.go i H∧∀ x H',J.yld i H x H'→g x (jC tgs.length caps σ0) H' fun σ2 H2=>tc σ2 H2 fun b H2'=>if b=true then te σ2 H2' fun v H3=>∃ ys,H3 D=some (.lst ys)∧ys.length<sizeLine∧∃ m',m'<m∧W (i+1) m' (upd H3 D (.lst (ys++[v])))else ∃ m',m'<m∧W (i+1) m' H2'))
  (hR:∀ s' H' σ',Inv (cxF X scope cl (tgs++cps) s3 H3 C fp pins) [] σ' H' s'→Qd H'→R (.ok .next) s') :
  codeAny (model X.prog X.w) X.A (.compStart (.ListComp elt [⟨tg,iter,ifs,0⟩] scope pos) 0 (.ref it) (.ref D) (compEnvC scope cl C X.env)) R { s3 with heap:=h₁,toks:=tk }:=by
 have lt3:∀ b∈fp,b<s3.heap.objs.size:=fun b hb=>by
  obtain⟨o,e,_⟩:=T.obj 0 _ st3 b hb
  exact Ke e
 have ok':(cxF X scope cl (tgs++cps) s3 H3 C fp pins).Ok:={
  mod:=I3.ok.mod
  kind:=hkind
  glob:=I3.ok.glob
  blt:=I3.ok.blt
  above:=NQ hC.symm
  inj:=fun x y c e e'=>I3.ok.inj x y c (hcl x c e) (hcl y c e')
  has:=fun x h=>by
   rcases h with h|h
   ·exact hhas x (bF h (.inl rfl) hcell)
   ·exact hhas x (bF h (.inr rfl) hcell)
  cab:=fun x c h=>by cases h
  hd:=fun _=>I3.ok.hd hc
  frames:=I3.ok.frames
  stk:=.inl rfl
  exf:=fun b hb=>⟨fun z=>by
   have z':b=C:=z
   have h1:=lt3 b hb
   rw[z',hC]at h1
   exact Ly _ h1,fun x c e=>(f3 b hb).2.2.2.2.1 x c (hcl x c e)⟩
  bs:=fun b o e=>I3.bs b o e
  bsz:=JR I3.ok.bsz I3.sz
  noex:=fun b o e hb=>by
   obtain⟨_,_,_,q,_⟩:=f3 b hb
   rcases q with q|q
   ·exact I3.ok.noex b o e q
   ·have h1:=Ke e
    exact absurd (JN (JN h1 I3.ok.bsz) q) (Ly _)
  exfs:=fun b hb z=>by
   obtain⟨_,q1,q2,_⟩:=f3 b hb
   rcases JJ.mp (I3.stkSub b z)with y|y
   ·exact q1 y
   ·exact q2 y
  funs:=I3.stack
  frf:=I3.stkFree }
 have J0:Inv (cxF X scope cl (tgs++cps) s3 H3 C fp pins) [] (LA (tgs++cps).length none) H3 { s3 with heap:=h₁,toks:=tk }:={
  ok:=ok'
  os:=rfl
  bare:=I3.bare
  base:=Un.kept hk
  loc:=⟨m,hn,fun i x v _ e _=>by
   rw[Lk]at e
   split at e<;>cases e⟩
  cell:=fun x c e=>by
   obtain⟨v,o,ho,hd⟩:=I3.cell x c (hcl x c e)
   exact⟨v,o,hk c o ho,hd⟩
  free:=I3.hok.fresh (NQ hC.symm)
  freeC:=fun x c e=>I3.freeC x c (hcl x c e)
  pin:=fun p hp=>by
   have hp':p∈X.pn++pins:=by simpa[cxF]using hp
   obtain⟨a1,a2,a3,a4,a5⟩:=I3.pin p hp'
   refine⟨hk _ _ a1,a2,fun z=>?_,fun z=>?_,a5⟩
   ·have z':p.1=C:=z
    have h1:=Ke a1
    rw[z',hC]at h1
    exact Ly _ h1
   ·rcases JJ.mp (I3.stkSub _ z)with y|y
    ·exact a3 y
    ·exact a4 y
  hok:=I3.hok.kept hk
  len:=by simp[cxF] }
 have stat:∀{H':Hp},(∀ b∈fp,H' b=none)→∀ b∈fp,Y4 (cxF X scope cl (tgs++cps) s3 H3 C fp pins) [] H' b:=fun hn b hb=>by
  obtain⟨_,_,_,_,_,q⟩:=f3 b hb
  exact⟨hn b hb,(ok'.exf b hb).1,ok'.exfs b hb,.inl hb,(ok'.exf b hb).2,fun p hp=>q p (by simpa[cxF]using hp)⟩
 have loop:codeAny (model X.prog X.w) X.A (.compLoop (.ListComp elt [⟨tg,iter,ifs,0⟩] scope pos) 0 (.ref it) (.ref D) (compEnvC scope cl C X.env)) R { s3 with heap:=h₁,toks:=tk }:=by
  refine jA (fun n s'=>∃ i σ' H',Inv (cxF X scope cl (tgs++cps) s3 H3 C fp pins) [] σ' H' s'∧tn i s'.heap∧(∀ b∈fp,H' b=none)∧W i n H') ?_ m0
   ⟨0,_,H3,J0,T.keep _ _ _ st3 fun b hb o e=>hk b o e,fun b hb=>(f3 b hb).1,w0⟩
  rintro n s4 ⟨i,σ4,H4,I4,st4,fr4,w4⟩
  rcases turn i n H4 w4 with⟨stop,qn⟩|⟨go,step⟩
  ·refine thn (T.done (cxF X scope cl (tgs++cps) s3 H3 C fp pins) rfl rfl rfl hc i [] s4 σ4 H4 _ I4 (stat fr4) st4 stop) fun r s5 zz=>?_
   obtain⟨hr,I5⟩:=zz
   subst hr
   exact hR s5 H4 σ4 I5 qn
  ·refine thn (T.item (cxF X scope cl (tgs++cps) s3 H3 C fp pins) rfl rfl rfl hc i [] s4 σ4 H4 _ I4 (stat fr4) st4 go) fun r s5 zz=>?_
   obtain⟨u,hr,h5⟩:=zz
   subst hr
   refine thn h5 fun _ s6 zz=>?_
   obtain⟨x,H6,I6,r6,y6,st6,fr6⟩:=zz
   have I6w:=I6.reset hsc hl hcap
   have I6':=I6w.pinned (stat fr6) (T.obj _ _ st6)
   refine wpAny_mono (hg cl s3 H3 C fp pins _ s6 _ H6 x u _ I6' r6 (step x H6 y6)) (fun _ s7 ⟨σ7,H7,I7,q7⟩=>?_) fun _ _ z=>z.elim
   refine wpAny_mono (hq cl s3 H3 C fp pins _ s7 σ7 H7 _ I7 q7) (fun b s7' ⟨H7',I7',q7'⟩=>?_) fun _ _ z=>z.elim
   cases b with
   | false =>
    obtain⟨m',hm,w8⟩:=q7'
    refine⟨m',hm,i+1,σ7,H7',I7'.unpinned,T.keep _ _ _ st6 fun b hb o e=>(I7'.pin (b,o) (Kh _ (Kh _ (E3 hb e)))).1,fun b hb=>?_,w8⟩
    obtain⟨o,e,d⟩:=T.obj _ _ st6 b hb
    exact(I7'.pin (b,o) (Kh _ (Kh _ (E3 hb e)))).2.1
   | true =>
    refine wpAny_mono (he cl s3 H3 C fp pins _ s7' σ7 H7' _ I7' q7') (fun v s8 ⟨y,H8,I8,r8,q8⟩=>?_) fun _ _ z=>z.elim
    obtain⟨ys,hy,hz,m',hm,w8⟩:=q8
    refine wpAny_mono (gq (X:=cxF X scope cl (tgs++cps) s3 H3 C fp pins) _ s8 σ7 H8 (.ref D) [y] (.ref D) [v] (fun _ H9=>W (i+1) m' H9) I8 rfl (.cons r8 .nil) ⟨D,ys,y,rfl,rfl,hy,hz,w8⟩) (fun _ s9 ⟨_,H9,I9,_,w9⟩=>?_) fun _ _ z=>z.elim
    refine⟨m',hm,i+1,σ7,H9,I9.unpinned,T.keep _ _ _ st6 fun b hb o e=>(I9.pin (b,o) (Kh _ (Kh _ (E3 hb e)))).1,fun b hb=>?_,w9⟩
    obtain⟨o,e,d⟩:=T.obj _ _ st6 b hb
    exact(I9.pin (b,o) (Kh _ (Kh _ (E3 hb e)))).2.1
 exact codeAny_compStart_list loop (T.self _ 0 _ _ _ (T.keep _ _ _ st3 fun b hb o e=>hk b o e) loop)
theorem gB(hc:X.calm=true)(hcell:∀ x∈scope.names,x.2 ≠ .cell)(hkind:scope.kind = .function)(hnames:∀ x∈scope.names,x.2 = .local→scope.names.lookup x.1=some .local)
  (hfr:∀ x∈scope.names,x.2 = .free→x.1∈cps) (hN:caps.map (fun i=>X.N[i]?)=cps.map some) (hX:∀ x∈cps,X.env.scope.names.lookup x=some .cell∧scope.names.lookup x=some .free)
  (hsc:∀ x∈cps,(relabel scope X.env).names.lookup x=some .cell∨(relabel scope X.env).names.lookup x=some .free)
  (hi:PI X tg iter wi) (hg:∀ cl s3 H3 C fp pins,PG (cxF X scope cl (tgs++cps) s3 H3 C fp pins) tg g) (hq:∀ cl s3 H3 C fp pins,br (cxF X scope cl (tgs++cps) s3 H3 C fp pins) ifs tc) (he:∀ cl s3 H3 C fp pins,PE (cxF X scope cl (tgs++cps) s3 H3 C fp pins) elt te)
  (hs:∀ x,foldedSetIterable iter X.env x=pure x) {use:Option (Value→Sem Unit)} {Qf:Value→Shared→Prop} {pins:List (Addr × Obj)} {s:Shared} {σ:St} {H:Hp} {Q:VK} (I:Inv X pins σ H s) (h:mB tgs.length caps wi g tc te σ H Q)
  (hU:∀(D C:Addr) (s':Shared) (H4:Hp) (m4:Str→Option Value),s'.heap.Ns C m4→Y4 X pins H4 C→(∀ h',Heap.SameBut C s'.heap h'→Inv X pins σ H4 { s' with heap:=h' })→Q (.ref D) H4→compPost (model X.prog X.w) X.A X.xe use Qf (.ref D) C (.ok .next) s') :
  wpAny (model X.prog X.w) X.A (comprehension (.ListComp elt [⟨tg,iter,ifs,0⟩] scope pos) scope X.env (firstIterPos [⟨tg,iter,ifs,0⟩] pos) (newList []) false (eval iter X.env) use) Qf X.xe s:=by
 have hl:caps.length=cps.length:=by
  have:=congrArg LL hN
  simpa using this
 have hcells:∀ n,(n,NameKind.free)∈scope.names→∃ c,X.env.cells.lookup n=some c:=fun n hn=>I.ok.has n (.inl (hX n (hfr _ hn rfl)).1)
 refine wpAny_comprehension_free (use:=use) rfl hs (lW hcells) hkind hnames (thn (hi pins s σ H _ I h) fun v s1 h1=>thn h1 fun itv s2 h2=>?_)
 obtain⟨it,fp,tn,J,H',e,I2,T,st2,f2,hW⟩:=h2
 subst e
 refine wpAny_newObj_type (hd:=by size_fits) (wpAny_newFunctionEnv hcell (by intro y hy;simp at hy) (fun h₁ hns₁ hsb₁=>?_) hkind)
 dsimp only at hns₁ hsb₁ ⊢
 have I3:=I2.lnew (ys:=[]) (its:=[]) (t':=s2.toks) .nil (KU _)
 obtain⟨W,⟨m0,w0⟩,turn⟩:=hW _ I2.fresh
 have st3:tn 0 (s2.heap.push { cls:=.type "list",data:=.seq ([]:List Value).toArray }):=T.keep _ _ _ st2 fun b hb o e=>JL _ e
 have f3:∀ b∈fp,Y4 X pins (upd H' s2.heap.objs.size (.lst [])) b:=fun b hb=>by
  obtain⟨q0,q⟩:=f2 b hb
  obtain⟨o,e,_⟩:=T.obj 0 _ st2 b hb
  exact⟨by rw[g6 (KG (Ke e))];exact q0,q⟩
 have old:∀ b o,(s2.heap.push { cls:=.type "list",data:=.seq ([]:List Value).toArray }).get? b=some o→h₁.get? b=some o:=fun b o e =>
  hsb₁.extBut b o (KG (Ke e)) (JL _ e)
 have hcap:∀(j:Nat) (x:Str) (v:V),cps[j]? = some x→(caps.map fun i=>(σ[i]?).getD none)[j]? = some (some v) →
   xh { s2 with heap:=s2.heap.push { cls:=.type "list",data:=.seq ([]:List Value).toArray },toks:=s2.toks } (upd H' s2.heap.objs.size (.lst [])) fp (S1 X.env.cells scope.names []) x v:=fun j x v ex ev=>by
  have hx:=hX x (Kd ex)
  have hj:(caps.map (fun i=>X.N[i]?))[j]? = some (some x):=by rw[hN,Ki,ex];rfl
  rw[Ki]at ev hj
  cases hcj:caps[j]? with
  | none=>rw[hcj]at ev;cases ev
  | some i =>
   rw[hcj]at ev hj
   have ev':(σ[i]?).getD none=some v:=by simpa using ev
   have hj':X.N[i]? = some x:=by simpa using hj
   have es:σ[i]? = some (some v):=by
    cases q:σ[i]? with
    | none=>rw[q]at ev';cases ev'
    | some w=>rw[q]at ev';rw[show w=some v by simpa using ev']
   obtain⟨m,hn,hlook⟩:=I3.loc
   obtain⟨u,ru,lk⟩:=hlook i x v hj' es (.inr (.inl hx.1))
   rcases lk with⟨k1,_⟩|⟨_,c,hc1,o,ho,hd⟩
   ·have k1':X.env.scope.names.lookup x=some .local:=k1
    rw[hx.1]at k1';cases k1'
   ·have hmem:(x,NameKind.free)∈scope.names:=by
     have hlk:=hx.2
     have go:∀ l:List (Str × NameKind),l.lookup x=some .free→(x,NameKind.free)∈l:=by
      intro l
      induction l with
      | nil=>intro z;cases z
      | cons p r ih =>
       intro z
       obtain⟨n,k⟩:=p
       rw[LH]at z
       split at z
       ·rename_i q;have q':x=n:=by simpa using q
        have z':k = .free:=by simpa using z
        rw[q',z'];exact JH
       ·exact JF _ (ih z)
     exact go _ hlk
    obtain⟨c',hc'⟩:=U6 (cells:=X.env.cells) scope.names [] (.inl hmem)
    have:=O7 scope.names [] hcells (fun y d z=>by cases z) hc'
    rw[hc1]at this
    cases this
    refine⟨u,c,o,ru,hc',ho,hd,I3.freeC x c hc1,fun hb=>?_⟩
    exact(f3 c hb).2.2.2.2.1 x c hc1 rfl
 refine lV (s3:={ s2 with heap:=s2.heap.push { cls:=.type "list",data:=.seq ([]:List Value).toArray },toks:=s2.toks }) (Qd:=fun H=>Q (.ref s2.heap.objs.size) H) (tk:=s2.toks+([]:List (Str × Value)).length) (cl:=S1 X.env.cells scope.names [])
  hc hcell hkind (fun x c z=>O7 scope.names [] hcells (fun y d z=>by cases z) z) (fun x z=>U6 scope.names [] (.inl z)) hsc hl hcap hg hq he I3 T st3 f3 rfl hns₁ old W m0 w0 turn fun s' H4 σ4 I4 q4=>?_
 obtain⟨m4,hn4,_⟩:=I4.loc
 have hCfree:H4 _=none:=I4.free
 have nC:∀ b u,H4 b=some u→b≠(s2.heap.push { cls:=.type "list",data:=.seq ([]:List Value).toArray }).objs.size:=fun b u e z=>by
  rw[z]at e
  have:=e.symm.trans hCfree
  cases this
 have lt:∀ b o,(s2.heap.push { cls:=.type "list",data:=.seq ([]:List Value).toArray }).get? b=some o→b≠(s2.heap.push { cls:=.type "list",data:=.seq ([]:List Value).toArray }).objs.size:=fun b o e=>KG (Ke e)
 have ub:=I4.base
 have fC:Y4 X pins H4 (s2.heap.push { cls:=.type "list",data:=.seq ([]:List Value).toArray }).objs.size:=I3.fpOk (JY _) hCfree
 refine hU _ _ s' H4 m4 hn4 fC (fun h' hsb=>?_) q4
 have un:Un (frs X.stack) fp (upd H' s2.heap.objs.size (.lst [])) H4 (s2.heap.push { cls:=.type "list",data:=.seq ([]:List Value).toArray }) h':={
  keep:=fun b o e n x y=>(hsb.2 b (lt b o e)).trans (ub.keep b o e n x y)
  slot:=fun b o e n x y=>let ⟨q,z⟩:=ub.slot b o e n x y;⟨q,(hsb.2 b (lt b o e)).trans z⟩
  free:=ub.free
  there:=fun b o e y=>let ⟨q,z⟩:=ub.there b o e y;⟨q,(hsb.2 b (lt b o e)).trans z⟩
  tups:=ub.tups
  frzs:=ub.frzs
  tbls:=ub.tbls }
 refine I3.call' (s':={ s' with heap:=h' }) I4.os un (fun b u e=>?_) I4.bare fun b hb=>?_
 ·refine(I4.hok b u e).stay (fun c v hcv q=>(hsb.2 c ?_).trans q) (fun _ q=>q) fun _ _ q=>q
  rcases hcv with z|z
  ·rw[z];exact nC b u e
  ·exact nC c _ z
 ·obtain⟨q0,q1,q2,q3,q4,q5⟩:=f3 b hb
  exact⟨q3,q1,q4,q5⟩
theorem vh(hc:X.calm=true)(hcell:∀ x∈scope.names,x.2 ≠ .cell)(hkind:scope.kind = .function)(hnames:∀ x∈scope.names,x.2 = .local→scope.names.lookup x.1=some .local)
  (hfr:∀ x∈scope.names,x.2 = .free→x.1∈cps) (hN:caps.map (fun i=>X.N[i]?)=cps.map some) (hX:∀ x∈cps,X.env.scope.names.lookup x=some .cell∧scope.names.lookup x=some .free)
  (hsc:∀ x∈cps,(relabel scope X.env).names.lookup x=some .cell∨(relabel scope X.env).names.lookup x=some .free)
  (hi:PI X tg iter wi) (hg:∀ cl s3 H3 C fp pins,PG (cxF X scope cl (tgs++cps) s3 H3 C fp pins) tg g) (hq:∀ cl s3 H3 C fp pins,br (cxF X scope cl (tgs++cps) s3 H3 C fp pins) ifs tc) (he:∀ cl s3 H3 C fp pins,PE (cxF X scope cl (tgs++cps) s3 H3 C fp pins) elt te)
  (hs:∀ x,foldedSetIterable iter X.env x=pure x:=by intro _;rfl):PE X (.ListComp elt [⟨tg,iter,ifs,0⟩] scope pos) (mB tgs.length caps wi g tc te):=by
 intro pins s σ H Q I h
 rw[eval_ListComp]
 exact gB hc hcell hkind hnames hfr hN hX hsc hi hg hq he hs I h fun D C s' H4 m4 hn4 fC hI q4=>⟨m4,hn4,fun h' hsb=>⟨.ref D,H4,hI h' hsb,rfl,q4⟩⟩
def PU(X:Cx)(i:Nat)(x:Str)(pos':Pos)(e:Expr)(te:TE):Prop:=∀(pins:List (Addr × Obj)) (s:Shared) (σ:St) (H:Hp) (Q:VK),Inv X pins σ H s→te σ H Q →
 wpAny (model X.prog X.w) X.A (evalThenUse e X.env (assign (.Name x pos') X.env)) (fun _ s'=>∃ v H',Inv X pins (σ.set i (some v)) H' s'∧Q v H') X.xe s
theorem PU.imp{X:Cx}{i:Nat}{x:Str}{pos':Pos}{e:Expr}{t t':TE}(h:PU X i x pos' e t)(f:∀ σ H Q,t' σ H Q→t σ H Q):PU X i x pos' e t':=fun pins s σ H Q I q=>h pins s σ H Q I (f σ H Q q)
theorem yE{i:Nat}{x:Str}{pos' pos:Pos}{e:Expr}{te:TE}(h:PU X i x pos' e te)(hs:swapsWith e (some (.Name x pos')) pos.line X.env=pure true):PS X (.Assign [.Name x pos'] e pos) (Cf te (vY i)):=by
 intro pins s σ H D I q
 rw[exec_Assign_Name_used _ _ _ _ hs]
 refine JC (wpAny_standAt (JC (thn (h pins s σ H _ I q) fun _ s1 ⟨v,H1,I1,q1⟩=>JZ ?_)))
 exact⟨_,H1,I1,q1⟩
theorem uU(hc:X.calm=true)(hcell:∀ x∈scope.names,x.2 ≠ .cell)(hkind:scope.kind = .function)(hnames:∀ x∈scope.names,x.2 = .local→scope.names.lookup x.1=some .local)
  (hfr:∀ x∈scope.names,x.2 = .free→x.1∈cps) (hN:caps.map (fun i=>X.N[i]?)=cps.map some) (hX:∀ x∈cps,X.env.scope.names.lookup x=some .cell∧scope.names.lookup x=some .free)
  (hsc:∀ x∈cps,(relabel scope X.env).names.lookup x=some .cell∨(relabel scope X.env).names.lookup x=some .free)
  (hi:PI X tg iter wi) (hg:∀ cl s3 H3 C fp pins,PG (cxF X scope cl (tgs++cps) s3 H3 C fp pins) tg g) (hq:∀ cl s3 H3 C fp pins,br (cxF X scope cl (tgs++cps) s3 H3 C fp pins) ifs tc) (he:∀ cl s3 H3 C fp pins,PE (cxF X scope cl (tgs++cps) s3 H3 C fp pins) elt te)
  {i:Nat} {x:Str} {pos':Pos} (hNd:X.N.Nodup) (hxi:X.N[i]? = some x) (hx:Loc X.env.scope x) (hf:X.fn x=true∨X.env.scope.names.lookup x=some .local)
  (hs:∀ x,foldedSetIterable iter X.env x=pure x:=by intro _;rfl):PU X i x pos' (.ListComp elt [⟨tg,iter,ifs,0⟩] scope pos) (mB tgs.length caps wi g tc te):=by
 intro pins s σ H Q I h
 refine JC (thn (gB (use:=some (assign (.Name x pos') X.env)) (Qf:=fun _ s'=>∃ v H',Inv X pins (σ.set i (some v)) H' s'∧Q v H') hc hcell hkind hnames hfr hN hX hsc hi hg hq he hs I h fun D C s' H4 m4 hn4 fC hI q4=>?_) fun _ s1 z=>JZ z)
 have I4:Inv X pins σ H4 s':=hI s'.heap (Heap.SameBut.refl _ _)
 show wpAny _ _ (assign (.Name x pos') X.env (.ref D)) _ _ s'
 refine wpAny_assign_Name (gg (v:=.ref D) I4 hNd hxi hx rfl (fun s2 I2 ⟨a,hsb,ha⟩=>?_) hf)
 have hac:C≠a:=by
  rcases ha with ha|ha
  ·rw[ha];exact fC.2.1
  ·exact Ne.symm (fC.2.2.2.2.1 x a ha)
 refine⟨m4,hn4.sameBut hsb hac,fun h' hs'=>⟨.ref D,H4,?_,q4⟩⟩
 exact I2.turned (t':=s2.toks) (fun b o hb e=>hs'.extBut b o hb e) fC.1 fC.2.1 fC.2.2.2.1 fC.2.2.2.2.1 fC.2.2.2.2.2
end
end L2
namespace L2
open PySem
noncomputable def SI:Bool→Heap→Addr→Addr→Nat→Prop
 | true,h,it,a,i=>h.IsListIter it a i
 | false,h,it,a,i=>h.IsTupleIter it a i
noncomputable def SS:Bool→Heap→Addr→Array Value→Prop
 | true,h,a,xs=>h.IsList a xs
 | false,h,a,xs=>h.IsTuple a xs
theorem SI.at{k:Bool}{h h':Heap}{it a:Addr}{i:Nat}(x:SI k h it a i)(f:∀ o,h.get? it=some o→h'.get? it=some o):SI k h' it a i:=by
 cases k<;>(obtain⟨o,e,r⟩:=x;exact⟨o,f o e,r⟩)
theorem SS.at{k:Bool}{h h':Heap}{a:Addr}{xs:Array Value}(x:SS k h a xs)(f:∀ o,h.get? a=some o→h'.get? a=some o):SS k h' a xs:=by
 cases k<;>(obtain⟨o,e,r⟩:=x;exact⟨o,f o e,r⟩)
theorem SI.obj{k:Bool}{h:Heap}{it a:Addr}{i:Nat}(x:SI k h it a i):∃ o,h.get? it=some o∧∀ v,o.data ≠ .cell v:=by
 cases k<;>(obtain⟨o,e,c,d⟩:=x;exact⟨o,e,fun v z=>by rw[d]at z;cases z⟩)
theorem SS.obj{k:Bool}{h:Heap}{a:Addr}{xs:Array Value}(x:SS k h a xs):∃ o,h.get? a=some o:=by
 cases k<;>(obtain⟨o,e,_⟩:=x;exact⟨o,e⟩)
section
variable {prog:Program} {w:World} {A:Around} {E:Value→Shared→Prop} {s:Shared}
theorem qR{p t:Addr}{n:Nat}{xs:Array Value}{v:Value}{Q:Value→Shared→Prop}(hp:s.heap.IsTupleIter p t n)(ht:s.heap.IsTuple t xs)(hv:xs[n]? = some v)
  (q:∀ h',h'.IsTupleIter p t (n+1)→Heap.SameBut p s.heap h'→Q v { s with heap:=h' }):wpAny (model prog w) A (Builtin.SmallTypes.nextOf (.ref p)) Q E s:=by
 obtain⟨ob,e1,e2,e3⟩:=id hp
 obtain⟨ot,f1,_,cap,f2⟩:=ht
 unfold Builtin.SmallTypes.nextOf
 refine JC (wpAny_callSpecial?_slot (name:=Str.ofString "__next__") hp.typeIs F.slot_tuple_iterator_next (wpAny_call_entry F.slot_tuple_iterator_next hp.typeIs F.entry_tuple_iterator_next ?_ (F.args_tuple_iterator_next_1 _)))
 show wpAny _ _ (field (.ref p) 0 >>= _) _ _ s
 refine JC (wpAny_field e1 e3 (x:=.ref t) rfl ?_)
 show wpAny _ _ (if (Value.ref t == Value.none)=true then _ else _) _ _ s
 rw[if_neg (fun z:(Value.ref t == Value.none)=true=>nomatch z)]
 show wpAny _ _ (field (.ref p) 1 >>= _) _ _ s
 refine JC (wpAny_field e1 e3 (x:=.int n 0) rfl ?_)
 show wpAny _ _ (seqItems? (.ref t) >>= _) _ _ s
 refine JC (wpAny_seqItems f1 f2 ?_)
 simp only[MG,hv]
 refine JC (wpAny_setField e1 e3 (by simp) (JZ ⟨v,rfl,JZ (q _ ⟨_,MX _ e1 (Obj.isFreed_of_fields (Obj.data_mapFields e3 _)),(Obj.cls_mapFields ..).trans e2,?_⟩ (Heap.SameBut.update ..))⟩))
 rw[Obj.data_mapFields e3];simp[rawInt]
theorem ug{p t:Addr}{n:Nat}{xs:Array Value}{Q:Value→Shared→Prop}(hA:A.handled=none)(hp:s.heap.IsTupleIter p t n)(ht:s.heap.IsTuple t xs)(hv:xs[n]? = none)
  (q:∀ h' e,Heap.ExtBut p s.heap h'→(∃ o,h'.get? e=some o∧o.cls = .type "StopIteration")→E (.ref e) { s with heap:=h' }):wpAny (model prog w) A (Builtin.SmallTypes.nextOf (.ref p)) Q E s:=by
 obtain⟨ob,e1,e2,e3⟩:=id hp
 obtain⟨ot,f1,_,cap,f2⟩:=ht
 unfold Builtin.SmallTypes.nextOf
 refine JC (wpAny_callSpecial?_slot (name:=Str.ofString "__next__") hp.typeIs F.slot_tuple_iterator_next (wpAny_call_entry F.slot_tuple_iterator_next hp.typeIs F.entry_tuple_iterator_next ?_ (F.args_tuple_iterator_next_1 _)))
 show wpAny _ _ (field (.ref p) 0 >>= _) _ _ s
 refine JC (wpAny_field e1 e3 (x:=.ref t) rfl ?_)
 show wpAny _ _ (if (Value.ref t == Value.none)=true then _ else _) _ _ s
 rw[if_neg (fun z:(Value.ref t == Value.none)=true=>nomatch z)]
 show wpAny _ _ (field (.ref p) 1 >>= _) _ _ s
 refine JC (wpAny_field e1 e3 (x:=.int n 0) rfl ?_)
 show wpAny _ _ (seqItems? (.ref t) >>= _) _ _ s
 refine JC (wpAny_seqItems f1 f2 ?_)
 simp only[MG,hv]
 refine JC (wpAny_rule (JC (wpAny_setField e1 e3 (by simp) ?_)))
 show wpAny _ _ (newExc (.type "StopIteration") [] >>= _) _ _ _
 refine JC ?_;simp only[newExc,newTuple]
 refine JC (wpAny_newObj_type ?_ (by size_fits));refine JC (m:=firstArgMember _ _) (wpAny_of_eq (a:=Value.none) (by first|rfl|(simp only[firstArgMember];rfl)) ?_)
 refine wpAny_newObj_type ?_ (by size_fits);simp only[raiseNew];refine JC (wpAny_handled ?_)
 first|rw[show A.in1.handled=none from hA]|rw[hA]
 refine JC (JZ (wpAny_throw (q _ _ (((Heap.SameBut.update ..).extBut.push _).push _) ⟨_,Kk _ rfl,rfl⟩)))
theorem bV{k:Bool}{p a:Addr}{n:Nat}{xs:Array Value}{v:Value}{Q:Value→Shared→Prop}(hp:SI k s.heap p a n)(ha:SS k s.heap a xs)(hv:xs[n]? = some v)
  (q:∀ h',SI k h' p a (n+1)→Heap.SameBut p s.heap h'→Q v { s with heap:=h' }):wpAny (model prog w) A (Builtin.SmallTypes.nextOf (.ref p)) Q E s:=by
 cases k with
 | true=>exact wpAny_nextOf_list_item hp ha hv q
 | false=>exact qR hp ha hv q
theorem mH{k:Bool}{p a:Addr}{n:Nat}{xs:Array Value}{Q:Value→Shared→Prop}(hA:A.handled=none)(hp:SI k s.heap p a n)(ha:SS k s.heap a xs)(hv:xs[n]? = none)
  (q:∀ h' e,Heap.ExtBut p s.heap h'→(∃ o,h'.get? e=some o∧o.cls = .type "StopIteration")→E (.ref e) { s with heap:=h' }):wpAny (model prog w) A (Builtin.SmallTypes.nextOf (.ref p)) Q E s:=by
 cases k with
 | true=>exact wpAny_nextOf_list_end hA hp ha hv q
 | false=>exact ug hA hp ha hv q
theorem SI.but{k:Bool}{h h':Heap}{it a b:Addr}{i:Nat}(x:SI k h it a i)(e:Heap.ExtBut b h h')(n:it≠b):SI k h' it a i:=x.at fun o z=>e it o n z
theorem SS.but{k:Bool}{h h':Heap}{a b:Addr}{xs:Array Value}(x:SS k h a xs)(e:Heap.ExtBut b h h')(n:a≠b):SS k h' a xs:=x.at fun o z=>e a o n z
theorem xj{z TI TO p1 p2 l1 l2:Addr}{c1 c2:Bool}{n1 n2:Nat}{xs ys:Array Value}{v1 v2 u1 u2:Value}{Q:Option Value→Shared→Prop}(D:ZipApart z TI TO p1 p2 l1 l2)
  (iz:IsZip s.heap z TI TO .none) (iI:IsPair s.heap TI (.ref p1) (.ref p2)) (iO:IsPair s.heap TO u1 u2) (g1:SI c1 s.heap p1 l1 n1) (g2:SI c2 s.heap p2 l2 n2) (m1:SS c1 s.heap l1 xs) (m2:SS c2 s.heap l2 ys) (w1:xs[n1]? = some v1) (w2:ys[n2]? = some v2)
  (q:∀ h',IsZip h' z TI TO (rawInt s.heap.objs.size)→IsPair h' TO v1 v2→SI c1 h' p1 l1 (n1+1)→SI c2 h' p2 l2 (n2+1)→IsPair h' s.heap.objs.size v1 v2→h'.objs.size=s.heap.objs.size+1 →
   (∀ b o,b≠z→b≠TO→b≠p1→b≠p2→s.heap.get? b=some o→h'.get? b=some o)→Q (some (.ref s.heap.objs.size)) { s with heap:=h' }):wpAny (model prog w) A (pyNext (.ref z)) Q E s:=by
 have ty:s.TypeIs (.ref z) "zip" := ⟨_,iz,rfl⟩
 unfold pyNext
 refine JC (wpAny_attempt (wpAny_callSpecial?_slot (name:=Str.ofString "__next__") ty F.slot_zip_next (wpAny_call_entry F.slot_zip_next ty F.entry_zip_next ?_ (F.args_zip_next_1 _))))
 show wpAny _ _ (field (.ref z) 2 >>= _) _ _ _
 refine JC (wpAny_field iz rfl (x:=.bool false) rfl ?_)
 show wpAny _ _ (field (.ref z) 3 >>= _) _ _ _
 refine JC (wpAny_field iz rfl (x:=.ref TI) rfl (JC (wpAny_seqItems iI rfl ?_)))
 show wpAny _ _ (Builtin.SmallTypes.ownedTupleIsFree (.ref z) >>= _) _ _ _
 refine JC ?_;unfold Builtin.SmallTypes.ownedTupleIsFree
 refine JC (wpAny_field iz rfl (x:=.none) rfl (JZ ?_));simp only[if_true]
 refine JC (wpAny_rule (JC (wpAny_field iz rfl (x:=.ref TO) rfl (JC (wpAny_setField_rec iz (by simp) fun ha za sa=>?_)))))
 replace za:IsZip ha z TI TO .ellipsis:=za
 refine JC ?_;simp only[NW,Oc,MZ,Ot]
 refine JC (JC (wpAny_onRaise ?_))
 show wpAny _ _ (Builtin.SmallTypes.nextOf (.ref p1) >>= _) _ _ _
 refine JC (bV (g1.but sa.extBut D.i1z) (m1.but sa.extBut D.l1z) w1 fun hb gb sb=>JZ ?_)
 have oB:IsPair hb TO u1 u2:=sb.extBut _ _ D.TOi1 (sa.extBut _ _ D.TOz iO)
 refine JC (wpAny_seqItems oB rfl (JC (wpAny_updateSeq_pair oB fun hc oC sc=>?_)))
 replace oC:IsPair hc TO v1 u2:=oC
 refine JC (wpAny_letGo (JZ (JC (JC (wpAny_onRaise ?_)))))
 show wpAny _ _ (Builtin.SmallTypes.nextOf (.ref p2) >>= _) _ _ _
 refine JC (bV (((g2.but sa.extBut D.i2z).but sb.extBut D.i12.symm).but sc.extBut D.TOi2.symm) (((m2.but sa.extBut D.l2z).but sb.extBut D.l2i1).but sc.extBut D.l2TO) w2 fun hd gd sd=>JZ ?_)
 have oD:IsPair hd TO v1 u2:=sd.extBut _ _ D.TOi2 oC
 refine JC (wpAny_seqItems oD rfl (JC (wpAny_updateSeq_pair oD fun he oE se=>?_)))
 replace oE:IsPair he TO v1 v2:=oE
 refine JC (wpAny_letGo (JZ (JZ (JC (wpAny_seqItems oE rfl (JC (wpAny_newTuple ?_)))))))
 have zs:he.objs.size=s.heap.objs.size:=by rw[se.1,sd.1,sc.1,sb.1,sa.1]
 have zE:IsZip he z TI TO .ellipsis:=se.extBut _ _ D.TOz.symm (sd.extBut _ _ D.i2z.symm (sc.extBut _ _ D.TOz.symm (sb.extBut _ _ D.i1z.symm za)))
 have kE:∀ b o,b≠z→b≠TO→b≠p1→b≠p2→s.heap.get? b=some o→he.get? b=some o:=fun b o b1 b2 b3 b4 e=>se.extBut _ _ b2 (sd.extBut _ _ b4 (sc.extBut _ _ b2 (sb.extBut _ _ b3 (sa.extBut _ _ b1 e))))
 have gE1:SI c1 he p1 l1 (n1+1):=((gb.but sc.extBut D.TOi1.symm).but sd.extBut D.i12).but se.extBut D.TOi1.symm
 have gE2:SI c2 he p2 l2 (n2+1):=gd.but se.extBut D.TOi2.symm
 have ltz:z<he.objs.size:=Ke zE
 show wpAny _ _ (Builtin.SmallTypes.ownedTupleHandOut (.ref z) (.ref he.objs.size) >>= _) _ _ _
 refine JC ?_;unfold Builtin.SmallTypes.ownedTupleHandOut
 refine JC (wpAny_setField_rec (JL _ zE) (by simp) fun hf zf sf=>?_)
 replace zf:IsZip hf z TI TO (rawInt he.objs.size):=zf
 refine wpAny_setField_rec zf (by simp) fun hg zg sg=>?_
 replace zg:IsZip hg z TI TO (rawInt he.objs.size):=zg
 have lift:∀ b o,b≠z→he.get? b=some o→hg.get? b=some o:=fun b o b1 e=>sg.extBut _ _ b1 (sf.extBut _ _ b1 (JL _ e))
 have tG:IsPair hg he.objs.size v1 v2:=sg.extBut _ _ (LY ltz) (sf.extBut _ _ (LY ltz) (Kk _ rfl))
 have zz:hg.objs.size=he.objs.size+1:=by rw[sg.1,sf.1,Ld]
 rw[zs]at zg tG zz
 refine JZ ⟨_,rfl,JZ ?_⟩
 show Q (some (.ref he.objs.size)) _
 rw[zs]
 exact q hg zg (lift _ _ D.TOz oE) (gE1.at fun o e=>lift _ o D.i1z e) (gE2.at fun o e=>lift _ o D.i2z e) tG zz fun b o b1 b2 b3 b4 e=>lift b o b1 (kE b o b1 b2 b3 b4 e)
theorem BP{z TI TO p1 p2 l1 l2:Addr}{c1 c2:Bool}{n1 n2:Nat}{xs ys:Array Value}{u1 u2:Value}{Q:Option Value→Shared→Prop}(hA:A.handled=none)(D:ZipApart z TI TO p1 p2 l1 l2)
  (iz:IsZip s.heap z TI TO .none) (iI:IsPair s.heap TI (.ref p1) (.ref p2)) (iO:IsPair s.heap TO u1 u2) (g1:SI c1 s.heap p1 l1 n1) (g2:SI c2 s.heap p2 l2 n2) (m1:SS c1 s.heap l1 xs) (m2:SS c2 s.heap l2 ys) (fin:xs[n1]? = none∨ys[n2]? = none)
  (q:∀ h',(∀ b o,b≠z→b≠TO→b≠p1→b≠p2→s.heap.get? b=some o→h'.get? b=some o)→Q none { s with heap:=h' }):wpAny (model prog w) A (pyNext (.ref z)) Q E s:=by
 have ty:s.TypeIs (.ref z) "zip" := ⟨_,iz,rfl⟩
 unfold pyNext
 have out:∀(h':Heap) (e:Addr),(∀ b o,b≠z→b≠TO→b≠p1→b≠p2→s.heap.get? b=some o→h'.get? b=some o)→(∃ o,h'.get? e=some o∧o.cls = .type "StopIteration") →
   wpAny (model prog w) A (do if ← isInstance (.ref e) (.type "StopIteration")then pure none else throw (.ref e):Sem (Option Value)) Q E { s with heap:=h' }:=fun h' e k ⟨o,e1,e2⟩ =>
  JC (wpAny_isInstance (T := "StopIteration") (b:=true) ⟨o,e1,e2⟩ isSubtype_stop (JZ (q h' k)))
 refine JC (wpAny_attempt (wpAny_callSpecial?_slot (name:=Str.ofString "__next__") ty F.slot_zip_next (wpAny_call_entry F.slot_zip_next ty F.entry_zip_next ?_ (F.args_zip_next_1 _))))
 show wpAny _ _ (field (.ref z) 2 >>= _) _ _ _
 refine JC (wpAny_field iz rfl (x:=.bool false) rfl ?_)
 show wpAny _ _ (field (.ref z) 3 >>= _) _ _ _
 refine JC (wpAny_field iz rfl (x:=.ref TI) rfl (JC (wpAny_seqItems iI rfl ?_)))
 show wpAny _ _ (Builtin.SmallTypes.ownedTupleIsFree (.ref z) >>= _) _ _ _
 refine JC ?_;unfold Builtin.SmallTypes.ownedTupleIsFree
 refine JC (wpAny_field iz rfl (x:=.none) rfl (JZ ?_));simp only[if_true]
 refine JC (wpAny_rule (JC (wpAny_field iz rfl (x:=.ref TO) rfl (JC (wpAny_setField_rec iz (by simp) fun ha za sa=>?_)))))
 replace za:IsZip ha z TI TO .ellipsis:=za
 refine JC ?_;simp only[NW,Oc,MZ,Ot]
 refine JC (JC (wpAny_onRaise ?_))
 show wpAny _ _ (Builtin.SmallTypes.nextOf (.ref p1) >>= _) _ _ _
 cases w1:xs[n1]? with
 | none =>
  refine JC (mH hA (g1.but sa.extBut D.i1z) (m1.but sa.extBut D.l1z) w1 fun hb e sb zz=>?_)
  obtain⟨oe,oe1,oe2⟩:=zz
  have zb:IsZip hb z TI TO .ellipsis:=sb _ _ D.i1z.symm za
  have nz:e≠z:=fun y=>by subst y;rw[zb]at oe1;cases oe1;simp at oe2
  refine wpAny_setField_rec zb (by simp) fun hc _ sc=>out hc e (fun b o b1 _ b3 _ y=>sc.extBut _ _ b1 (sb _ _ b3 (sa.extBut _ _ b1 y))) ⟨oe,sc.extBut _ _ nz oe1,oe2⟩
 | some v1 =>
  have w2:ys[n2]? = none:=fin.resolve_left (by rw[w1];exact fun y=>nomatch y)
  refine JC (bV (g1.but sa.extBut D.i1z) (m1.but sa.extBut D.l1z) w1 fun hb gb sb=>JZ ?_)
  have oB:IsPair hb TO u1 u2:=sb.extBut _ _ D.TOi1 (sa.extBut _ _ D.TOz iO)
  refine JC (wpAny_seqItems oB rfl (JC (wpAny_updateSeq_pair oB fun hc oC sc=>?_)))
  refine JC (wpAny_letGo (JZ (JC (JC (wpAny_onRaise ?_)))))
  show wpAny _ _ (Builtin.SmallTypes.nextOf (.ref p2) >>= _) _ _ _
  refine JC (mH hA (((g2.but sa.extBut D.i2z).but sb.extBut D.i12.symm).but sc.extBut D.TOi2.symm) (((m2.but sa.extBut D.l2z).but sb.extBut D.l2i1).but sc.extBut D.l2TO) w2 fun hd e sd zz=>?_)
  obtain⟨oe,oe1,oe2⟩:=zz
  have zd:IsZip hd z TI TO .ellipsis:=sd _ _ D.i2z.symm (sc.extBut _ _ D.TOz.symm (sb.extBut _ _ D.i1z.symm za))
  have nz:e≠z:=fun y=>by subst y;rw[zd]at oe1;cases oe1;simp at oe2
  refine wpAny_setField_rec zd (by simp) fun he _ se=>out he e (fun b o b1 b2 b3 b4 y=>se.extBut _ _ b1 (sd _ _ b4 (sc.extBut _ _ b2 (sb.extBut _ _ b3 (sa.extBut _ _ b1 y))))) ⟨oe,se.extBut _ _ nz oe1,oe2⟩
end
noncomputable abbrev itO(k:Bool)(a:Addr):Obj:={ cls:=.type (if k then "list_iterator" else "tuple_iterator"),data:=.fields #[.ref a,.int 0 0] }
noncomputable abbrev zA(k1:Bool)(h:Heap)(l1:Addr):Heap:=h.push (itO k1 l1)
noncomputable abbrev zB(k1 k2:Bool)(h:Heap)(l1 l2:Addr):Heap:=(zA k1 h l1).push (itO k2 l2)
noncomputable abbrev zC(k1 k2:Bool)(h:Heap)(l1 l2:Addr):Heap:=(zB k1 k2 h l1 l2).push { cls:=.type "tuple",data:=.seq #[.ref h.objs.size,.ref (zA k1 h l1).objs.size] }
noncomputable abbrev zD(k1 k2:Bool)(h:Heap)(l1 l2:Addr):Heap:=(zC k1 k2 h l1 l2).push { cls:=.type "tuple",data:=.seq #[.none,.none] }
noncomputable abbrev zE(k1 k2:Bool)(h:Heap)(l1 l2:Addr):Heap:=(zD k1 k2 h l1 l2).push { cls:=.type "zip",data:=.fields #[.none,.bool false,.bool false,.ref (zB k1 k2 h l1 l2).objs.size,.ref (zC k1 k2 h l1 l2).objs.size] }
set_option maxHeartbeats 2000000 in
theorem BO(k1 k2:Bool)(l1 l2:Addr)(xs ys:Array Value) :
  Meets (Builtin.«zip.__new__» ⟨[.type "zip",.ref l1,.ref l2],[]⟩) (fun _ R s=>SS k1 s.heap l1 xs∧SS k2 s.heap l2 ys∧R (.ok (.ret (.ref (zD k1 k2 s.heap l1 l2).objs.size))) { s with heap:=zE k1 k2 s.heap l1 l2 }) :=
 .of_wp fun prog w A R s h=>by
  obtain⟨hp,g,d,tk,os⟩:=s
  obtain⟨ha,hb,h⟩:=h
  have hsub:=sub_zip
  cases k1 with
  | true =>
   have a1:Heap.IsList (Shared.heap ⟨hp,g,d,tk,os⟩) l1 xs:=ha
   cases k2 with
   | true =>
    have a2:Heap.IsList (Shared.heap ⟨hp.push { cls:=.type "list_iterator",data:=.fields #[.ref l1,.int 0 0] },g,d,tk,os⟩) l2 ys:=Heap.IsList.push hb _
    wp_walk using wpAny_pyIter_list a1,wpAny_pyIter_list a2
    exact⟨_,rfl,h⟩
   | false =>
    have a2:Heap.IsTuple (Shared.heap ⟨hp.push { cls:=.type "list_iterator",data:=.fields #[.ref l1,.int 0 0] },g,d,tk,os⟩) l2 ys:=Heap.IsTuple.push hb _
    wp_walk using wpAny_pyIter_list a1,wpAny_pyIter_tuple a2
    exact⟨_,rfl,h⟩
  | false =>
   have a1:Heap.IsTuple (Shared.heap ⟨hp,g,d,tk,os⟩) l1 xs:=ha
   cases k2 with
   | true =>
    have a2:Heap.IsList (Shared.heap ⟨hp.push { cls:=.type "tuple_iterator",data:=.fields #[.ref l1,.int 0 0] },g,d,tk,os⟩) l2 ys:=Heap.IsList.push hb _
    wp_walk using wpAny_pyIter_tuple a1,wpAny_pyIter_list a2
    exact⟨_,rfl,h⟩
   | false =>
    have a2:Heap.IsTuple (Shared.heap ⟨hp.push { cls:=.type "tuple_iterator",data:=.fields #[.ref l1,.int 0 0] },g,d,tk,os⟩) l2 ys:=Heap.IsTuple.push hb _
    wp_walk using wpAny_pyIter_tuple a1,wpAny_pyIter_tuple a2
    exact⟨_,rfl,h⟩
section
variable {prog:Program} {w:World} {A:Around} {E:Value→Shared→Prop} {s:Shared}
theorem zU{k1 k2:Bool}{l1 l2:Addr}{xs ys:Array Value}{Q:Value→Shared→Prop}(ha:SS k1 s.heap l1 xs)(hb:SS k2 s.heap l2 ys)
  (q:∀ h',IsZip h' (s.heap.objs.size+4) (s.heap.objs.size+2) (s.heap.objs.size+3) .none→IsPair h' (s.heap.objs.size+2) (.ref s.heap.objs.size) (.ref (s.heap.objs.size+1))→IsPair h' (s.heap.objs.size+3) .none .none →
   SI k1 h' s.heap.objs.size l1 0→SI k2 h' (s.heap.objs.size+1) l2 0→h'.objs.size=s.heap.objs.size+5→(∀ b o,s.heap.get? b=some o→h'.get? b=some o)→Q (.ref (s.heap.objs.size+4)) { s with heap:=h' }) :
  wpAny (model prog w) A (call (.type "zip") [.ref l1,.ref l2]) Q E s:=by
 refine callType_new F.called_zip (by decide) (F.typeCall_zip_2 _ _) (F.newCall_zip_2 _ _) (fun obj=>F.args_object_init_3 obj _ _) F.entry_zip_new (BO k1 k2 l1 l2 xs ys) ⟨ha,hb,?_⟩
 have s1:(zA k1 s.heap l1).objs.size=s.heap.objs.size+1:=Ld ..
 have s2:(zB k1 k2 s.heap l1 l2).objs.size=s.heap.objs.size+2:=(Ld ..).trans (by rw[s1])
 have s3:(zC k1 k2 s.heap l1 l2).objs.size=s.heap.objs.size+3:=(Ld ..).trans (by rw[s2])
 have s4:(zD k1 k2 s.heap l1 l2).objs.size=s.heap.objs.size+4:=(Ld ..).trans (by rw[s3])
 have s5:(zE k1 k2 s.heap l1 l2).objs.size=s.heap.objs.size+5:=(Ld ..).trans (by rw[s4])
 have o5:(zE k1 k2 s.heap l1 l2).get? (zD k1 k2 s.heap l1 l2).objs.size=some _:=Kk _ rfl
 have up1:∀ b o,(zD k1 k2 s.heap l1 l2).get? b=some o→(zE k1 k2 s.heap l1 l2).get? b=some o:=fun b o e=>JL _ e
 have o4:(zE k1 k2 s.heap l1 l2).get? (zC k1 k2 s.heap l1 l2).objs.size=some _:=up1 _ _ (Kk _ rfl)
 have up2:∀ b o,(zC k1 k2 s.heap l1 l2).get? b=some o→(zE k1 k2 s.heap l1 l2).get? b=some o:=fun b o e=>up1 b o (JL _ e)
 have o3:(zE k1 k2 s.heap l1 l2).get? (zB k1 k2 s.heap l1 l2).objs.size=some _:=up2 _ _ (Kk _ rfl)
 have up3:∀ b o,(zB k1 k2 s.heap l1 l2).get? b=some o→(zE k1 k2 s.heap l1 l2).get? b=some o:=fun b o e=>up2 b o (JL _ e)
 have o2:(zE k1 k2 s.heap l1 l2).get? (zA k1 s.heap l1).objs.size=some (itO k2 l2):=up3 _ _ (Kk _ rfl)
 have up4:∀ b o,(zA k1 s.heap l1).get? b=some o→(zE k1 k2 s.heap l1 l2).get? b=some o:=fun b o e=>up3 b o (JL _ e)
 have o1:(zE k1 k2 s.heap l1 l2).get? s.heap.objs.size=some (itO k1 l1):=up4 _ _ (Kk _ rfl)
 have mk:∀(k:Bool) (b a:Addr),(zE k1 k2 s.heap l1 l2).get? b=some (itO k a)→SI k (zE k1 k2 s.heap l1 l2) b a 0:=fun k b a e=>by cases k<;>exact⟨_,e,rfl,rfl⟩
 show _∧_
 rw[s2,s3,s4]at o5
 rw[s1,s2]at o3
 rw[s3]at o4
 rw[s1]at o2
 rw[s4]
 exact⟨⟨_,o5,rfl⟩,q _ o5 o3 o4 (mk _ _ _ o1) (mk _ _ _ o2) s5 fun b o e=>up4 b o (JL _ e)⟩
end
end L2
namespace L2
open PySem PySem.Spec PyProof.Rows
section
variable {X:Cx} {pins:List (Addr × Obj)} {σ:St} {H:Hp} {s:Shared} {h':Heap}
theorem Inv.turnedN{t':Nat}{ch:List Addr}(I:Inv X pins σ H s)(k:∀ b o,b∉ch→s.heap.get? b=some o→h'.get? b=some o)(hf:∀ b∈ch,Y4 X pins H b):Inv X pins σ H { s with heap:=h',toks:=t' }:=by
 have nit:∀ b u,H b=some u→b∉ch:=fun b u e z=>by rw[(hf b z).1]at e;cases e
 refine I.step (g':=s.gens) (d':=s.drawn) (ch:=ch) (fun b hb=>?_) (fun b o _ _ hc e _=>k b o hc e) (fun b o _ _ hc e _=>⟨o.slots,k b o hc e⟩) (fun _ _ _ _ n=>n)
  (fun b o hc e=>⟨o,k b o hc e⟩) (fun _ _ e=>e) (fun _ _ _ e=>e) (fun b ps e=>⟨#[],by rw[e];simp⟩) (fun m hm=>?_) (fun b u e=>?_) I.bare
 ·obtain⟨_,q1,_,q3,q4,q5⟩:=hf b hb
  exact⟨q3,q1,q4,q5⟩
 ·obtain⟨o,es,ep,ho,r⟩:=hm
  exact⟨o,es,ep,k _ o (fun z=>(hf _ z).2.1 rfl) ho,r⟩
 ·refine(I.hok b u e).stay (fun c v hc q=>k c v ?_ q) (fun _ q=>q) fun _ _ q=>q
  rcases hc with z|z
  ·rw[z];exact nit b u e
  ·exact nit c _ z
end
def SqK(K:JB)(k:Bool)(H:Hp)(a:Addr)(xs:List V):Prop:=if k=true then SqL K H a xs else SqT K H a xs
theorem Inv.sqk{X:Cx}{pins:List (Addr × Obj)}{σ:St}{H:Hp}{s:Shared}(I:Inv X pins σ H s){k:Bool}{a:Addr}{xs:List V}(h:SqK X.K k H a xs):∃ its:List Value,i8 xs its∧SS k s.heap a its.toArray:=by
 cases k with
 | true =>
  obtain⟨its,r,p,_⟩:=I.list (show SqL X.K H a xs from h)
  exact⟨its,r,p.isList⟩
 | false =>
  obtain⟨its,r,p,_⟩:=I.tuple (show SqT X.K H a xs from h)
  exact⟨its,r,p⟩
theorem Inv.sqk_inj{X:Cx}{pins:List (Addr × Obj)}{σ:St}{H:Hp}{s:Shared}(I:Inv X pins σ H s){k:Bool}{a:Addr}{xs ys:List V}(h:SqK X.K k H a xs)(h2:SqK X.K k H a ys):xs=ys:=by
 cases k with
 | true=>exact I.list_inj (show SqL X.K H a xs from h) (show SqL X.K H a ys from h2)
 | false=>exact I.tuple_inj (show SqT X.K H a xs from h) (show SqT X.K H a ys from h2)
noncomputable def Itz(K:JB)(k1 k2:Bool)(l1 l2:Addr):It :=
 ⟨fun i H=>∃ xs ys x y,SqK K k1 H l1 xs∧SqK K k2 H l2 ys∧xs[i]? = some x∧ys[i]? = some y,
  fun i H v H'=>∃ T x y,H T=none∧v = .ref T∧H'=upd H T (.tup [x,y])∧(∀ xs,SqK K k1 H l1 xs→xs[i]? = some x)∧∀ ys,SqK K k2 H l2 ys→ys[i]? = some y,
  fun i H=>∃ xs ys,SqK K k1 H l1 xs∧SqK K k2 H l2 ys∧(xs.length≤i∨ys.length≤i)⟩
def Gx(k1 k2:Bool)(z TI TO p1 p2 l1 l2:Addr)(i:Nat)(h:Heap):Prop:=IsZip h z TI TO .none∧IsPair h TI (.ref p1) (.ref p2)∧(∃ a b,IsPair h TO a b)∧SI k1 h p1 l1 i∧SI k2 h p2 l2 i
theorem uf{P:Program}{w:World}{K:JB}{elts:List Expr}{kx:Nat}{tp:Pos}{k1 k2:Bool}{z TI TO p1 p2 l1 l2:Addr}(D:ZipApart z TI TO p1 p2 l1 l2) :
  nQ P w K (.Tuple elts kx tp) (Itz K k1 k2 l1 l2) [z,TI,TO,p1,p2] z (Gx k1 k2 z TI TO p1 p2 l1 l2) where
 mem:=by simp
 obj:=fun i h ⟨iz,iI,⟨a,b,iO⟩,g1,g2⟩ c hc=>by
  simp only[JJ,Ks,or_false]at hc
  rcases hc with rfl|rfl|rfl|rfl|rfl
  ·exact⟨_,iz,fun v e=>by cases e⟩
  ·exact⟨_,iI,fun v e=>by cases e⟩
  ·exact⟨_,iO,fun v e=>by cases e⟩
  ·exact g1.obj
  ·exact g2.obj
 keep:=fun i h h' ⟨iz,iI,⟨a,b,iO⟩,g1,g2⟩ k=>⟨k z (by simp) _ iz,k TI (by simp) _ iI,⟨a,b,k TO (by simp) _ iO⟩,g1.at fun o e=>k p1 (by simp) o e,g2.at fun o e=>k p2 (by simp) o e⟩
 item:=by
  intro X hP hw hK hc i pins s σ H E I hf st hg
  subst hP hw hK
  obtain⟨iz,iI,⟨a,b,iO⟩,g1,g2⟩:=st
  obtain⟨xs,ys,x,y,q1,q2,hx,hy⟩:=hg
  obtain⟨is1,r1,m1⟩:=I.sqk q1
  obtain⟨is2,r2,m2⟩:=I.sqk q2
  obtain⟨u1,hu1,ru1⟩:=r1.get hx
  obtain⟨u2,hu2,ru2⟩:=r2.get hy
  refine xj D iz iI iO g1 g2 m1 m2 (v1:=u1) (v2:=u2) (by simpa using hu1) (by simpa using hu2) fun h' a1 a2 a3 a4 a5 a6 kk=>?_
  refine⟨_,rfl,?_⟩
  refine wpAny_letOwnedTupleGo_zip (s:={ s with heap:=h' }) a1 fun h2 b1 b2=>?_
  have lt:∀{c o},s.heap.get? c=some o→c≠s.heap.objs.size:=fun e=>KG (Ke e)
  have nz:s.heap.objs.size≠z:=Ne.symm (lt iz)
  have I1:Inv X pins σ (upd H s.heap.objs.size (.tup [x,y])) { s with heap:=s.heap.push { cls:=.type "tuple",data:=.seq #[u1,u2] },toks:=s.toks } :=
   I.laid (o:=.tup [x,y]) (fun b ob q=>JL _ q) (JY _) ⟨(show 2≤sizeLine by decide),[u1,u2],.cons ru1 (.cons ru2 .nil),IsTup.new _ _⟩
  have nfp:∀ c∈[z,TI,TO,p1,p2],c≠s.heap.objs.size:=fun c hc=>by
   simp only[JJ,Ks,or_false]at hc
   rcases hc with rfl|rfl|rfl|rfl|rfl
   ·exact lt iz
   ·exact lt iI
   ·exact lt iO
   ·obtain⟨o,e,_⟩:=g1.obj;exact lt e
   ·obtain⟨o,e,_⟩:=g2.obj;exact lt e
  have hf':∀ c∈[z,TI,TO,p1,p2],Y4 X pins (upd H s.heap.objs.size (.tup [x,y])) c:=fun c hc=>by
   obtain⟨f0,f1⟩:=hf c hc
   exact⟨by rw[g6 (nfp c hc)];exact f0,f1⟩
  have I2:Inv X pins σ (upd H s.heap.objs.size (.tup [x,y])) { s with heap:=h2,toks:=s.toks }:=by
   refine Inv.turnedN (s:={ s with heap:=s.heap.push { cls:=.type "tuple",data:=.seq #[u1,u2] },toks:=s.toks }) (t':=s.toks) (h':=h2) (ch:=[z,TI,TO,p1,p2]) I1 (fun c o hcn e=>?_) hf'
   simp only[JJ,Ks,or_false,not_or]at hcn
   obtain⟨n1,n2,n3,n4,n5⟩:=hcn
   refine b2.extBut c o n1 ?_
   by_cases hcs:c=s.heap.objs.size
   ·subst hcs
    have e':(s.heap.push { cls:=.type "tuple",data:=.seq #[u1,u2] }).get? s.heap.objs.size=some o:=e
    rw[Kk _ rfl]at e'
    cases e'
    exact a5
   ·have e':(s.heap.push { cls:=.type "tuple",data:=.seq #[u1,u2] }).get? c=some o:=e
    have hlt:c<s.heap.objs.size:=by
     have:=Ke e'
     rw[Ld]at this
     exact Nat.lt_of_le_of_ne (Nat.le_of_lt_succ this) hcs
    have hold:s.heap.get? c=some o:=by
     have:∃ o',s.heap.get? c=some o':=by
      cases q:s.heap.get? c with
      | some o'=>exact⟨o',rfl⟩
      | none=>exact absurd e' (by rw[NK _ _ _ hcs];rw[q];exact fun z=>nomatch z)
     obtain⟨o',ho'⟩:=this
     have:=JL { cls:=.type "tuple",data:=.seq #[u1,u2] } ho'
     rw[e']at this
     cases this;exact ho'
    exact kk c o n1 n3 n4 n5 hold
  refine⟨.ref s.heap.objs.size,_,I2,rfl,⟨_,x,y,I.hok.fresh (JY _),rfl,rfl,fun zs hz=>by rw[I.sqk_inj hz q1];exact hx,fun zs hz=>by rw[I.sqk_inj hz q2];exact hy⟩,?_,fun c hc=>(hf' c hc).1⟩
  have lift:∀ c o,c≠z→h'.get? c=some o→h2.get? c=some o:=fun c o n e=>b2.extBut c o n e
  exact⟨b1,lift _ _ D.TIz (kk _ _ D.TIz D.TITO D.TIi1 D.TIi2 iI),⟨_,_,lift _ _ D.TOz a2⟩,a3.at fun o e=>lift _ o D.i1z e,a4.at fun o e=>lift _ o D.i2z e⟩
 done:=by
  intro X hP hw hK hc i pins s σ H E I hf st hg
  subst hP hw hK
  obtain⟨iz,iI,⟨a,b,iO⟩,g1,g2⟩:=st
  obtain⟨xs,ys,q1,q2,hx⟩:=hg
  obtain⟨is1,r1,m1⟩:=I.sqk q1
  obtain⟨is2,r2,m2⟩:=I.sqk q2
  have e1:=r1.length
  have e2:=r2.length
  refine BP (I.ok.hd hc) D iz iI iO g1 g2 m1 m2 (hx.elim (fun h=>.inl (by simp;omega)) fun h=>.inr (by simp;omega)) fun h' kk=>⟨rfl,?_⟩
  refine I.turnedN (t':=s.toks) (ch:=[z,TI,TO,p1,p2]) (fun c o hcn e=>?_) hf
  simp only[JJ,Ks,or_false,not_or]at hcn
  obtain⟨n1,n2,n3,n4,n5⟩:=hcn
  exact kk c o n1 n3 n4 n5 e
 self:=fun _ _ _ _ _ st h=>wpAny_pyIter_zip st.1 h
def Hh(K:JB)(ta:TA):TI:=fun σ H R=>ta σ H fun vs H1=>∃ k1 k2 l1 l2,vs=[.ref l1,.ref l2]∧(∃ xs,SqK K k1 H1 l1 xs)∧(∃ ys,SqK K k2 H1 l2 ys)∧R (Itz K k1 k2 l1 l2) H1
theorem CH{X:Cx}{elts:List Expr}{kx:Nat}{tp:Pos}{a b:Expr}{ta:TA}{p pos:Pos}(hg:Gl X "zip")(hm:X.mg "zip" = none)(ha:PA X [a,b] ta)
  (hs:starEach [a,b] X.env=[(false,eval a X.env),(false,eval b X.env)]:=by rfl) (hs2:starEach [b] X.env=[(false,eval b X.env)]:=by rfl):PI X (.Tuple elts kx tp) (.Call (.Name "zip" p) [a,b] [] pos) (Hh X.K ta):=by
 intro pins s σ H R I h
 refine Call_ (aX I hg hm PyProof.Rows.boot_zip (PyProof.Rows.callWith_type1 (thn (ha pos pins s σ H _ I h) fun us s1 ⟨vs,H1,I1,r1,q1⟩=>?_) (by rw[hs,hs2]) (by rw[hs2];rfl)))
 obtain⟨k1,k2,l1,l2,e,⟨xs,q2⟩,⟨ys,q3⟩,q⟩:=q1
 subst e
 cases r1 with
 | cons r rr =>
  cases rr with
  | cons r' rr =>
   cases rr
   cases r
   cases r'
   obtain⟨is1,_,m1⟩:=I1.sqk q2
   obtain⟨is2,_,m2⟩:=I1.sqk q3
   have lt1:l1<s1.heap.objs.size:=by obtain⟨o,e⟩:=m1.obj;exact Ke e
   have lt2:l2<s1.heap.objs.size:=by obtain⟨o,e⟩:=m2.obj;exact Ke e
   refine zU m1 m2 fun h' a1 a2 a3 a4 a5 a6 kk=>?_
   refine wpAny_pyIter_zip (s:={ s1 with heap:=h' }) a1 ?_
   have D:ZipApart (s1.heap.objs.size+4) (s1.heap.objs.size+2) (s1.heap.objs.size+3) s1.heap.objs.size (s1.heap.objs.size+1) l1 l2:=PyProof.Rows.zipApart_new lt1 lt2
   refine⟨s1.heap.objs.size+4,_,_,_,H1,rfl,I1.kept (t':=s1.toks) kk,uf D,⟨a1,a2,⟨_,_,a3⟩,a4,a5⟩,fun c hc=>?_,q⟩
   have hge:s1.heap.objs.size≤c:=by
    simp only[JJ,Ks,or_false]at hc
    rcases hc with rfl|rfl|rfl|rfl|rfl
    ·exact LI _ _
    ·exact LI _ _
    ·exact LI _ _
    ·exact JY _
    ·exact LI _ _
   exact I1.fpOk hge (I1.hok.fresh hge)
section
variable {X:Cx} {pins:List (Addr × Obj)} {σ:St} {H:Hp} {s:Shared} {p:Addr}
theorem Inv.swap{a b:HO}(I:Inv X pins σ H s)(hp:H p=some a)(ha:(∀ x,a ≠ .own x)∧∀ xs,a ≠ .tup xs)(h1:∀ xs,X.H₀ p≠some (.tup xs))(h2:∀ o u,X.H₀ p≠some (.frz o u))(h3:∀ ps,X.H₀ p≠some (.tbl ps))
  (new:B2 X.prog X.w H s.heap p b):Inv X pins σ (upd H p b) s:=by
 have ne:∀{c:Addr},H c=none→c≠p:=fun{c} q z=>by subst z;rw[hp]at q;cases q
 have st:∀{c:Addr} {o:HO},B2 X.prog X.w H s.heap c o→B2 X.prog X.w (upd H p b) s.heap c o:=fun{c o} x =>
  x.stay (fun _ _ _ q=>q) (fun d q=>by
   have:d≠p:=by intro z;subst z;rw[hp]at q;cases q;exact ha.1 _ rfl
   rw[g6 this];exact q) fun d xs q=>by
   have:d≠p:=by intro z;subst z;rw[hp]at q;cases q;exact ha.2 _ rfl
   rw[g6 this];exact q
 refine⟨I.ok,I.os,I.bare,⟨I.base.keep,I.base.slot,fun c o e n x=>?_,I.base.there,fun c xs q=>?_,fun c o u q=>?_,fun c ps q=>?_⟩,I.loc,I.cell,?_,fun x c e=>?_,fun q hq=>?_,fun c o q=>?_,I.len⟩
 ·have:=I.base.free c o e n x
  rw[g6 (ne this)];exact this
 ·have:c≠p:=by intro z;subst z;exact h1 xs q
  rw[g6 this];exact I.base.tups c xs q
 ·have:c≠p:=by intro z;subst z;exact h2 o u q
  rw[g6 this];exact I.base.frzs c o u q
 ·have:c≠p:=by intro z;subst z;exact h3 ps q
  rw[g6 this];exact I.base.tbls c ps q
 ·rw[g6 (ne I.free)];exact I.free
 ·rw[g6 (ne (I.freeC x c e))];exact I.freeC x c e
 ·obtain⟨a1,a2,a3,a4,a5⟩:=I.pin q hq
  exact⟨a1,by rw[g6 (ne a2)];exact a2,a3,a4,a5⟩
 ·by_cases z:c=p
  ·subst z;rw[i3]at q;cases q;exact st new
  ·rw[g6 z]at q;exact st (I.hok c o q)
theorem Inv.freeze{xs:List V}(I:Inv X pins σ H s)(hp:H p=some (.lst xs)):∃ o,Inv X pins σ (upd H p (.frz o (.lst xs))) s:=by
 have k:=I.hok p _ hp
 obtain⟨z,its,n,r,e⟩:=id k
 refine⟨_,I.swap hp ⟨fun _ q=>(nomatch q),fun _ q=>(nomatch q)⟩ (fun ys q=>?_) (fun o u q=>?_) (fun ps q=>?_) ⟨e,k⟩⟩
 ·rw[I.base.tups p ys q]at hp;cases hp
 ·rw[I.base.frzs p o u q]at hp;cases hp
 ·obtain⟨more,q⟩:=I.base.tbls p ps q;rw[q]at hp;cases hp
structure BK(X:Cx)(p:Addr):Prop where
 t:∀ xs,X.H₀ p≠some (.tup xs)
 f:∀ o u,X.H₀ p≠some (.frz o u)
 b:∀ ps,X.H₀ p≠some (.tbl ps)
theorem Inv.loose{xs:List V}(I:Inv X pins σ H s)(hp:H p=some (.lst xs)):BK X p :=
 ⟨fun ys q=>(by rw[I.base.tups p ys q]at hp;cases hp),fun o u q=>(by rw[I.base.frzs p o u q]at hp;cases hp),fun ps q=>(by obtain⟨more,q⟩:=I.base.tbls p ps q;rw[q]at hp;cases hp)⟩
def EV(t:TE):TE:=fun σ H Q=>t σ H fun v H1=>∃ p xs,v = .ref p∧H1 p=some (.lst xs)∧∀ o,Q v (upd H1 p (.frz o (.lst xs)))
theorem dU{x:Expr}{t:TE}(h:PE X x t):PE X x (EV t):=fun pins s σ H Q I q =>
 wpAny_mono (h pins s σ H _ I q) (fun u s1 zz=>by
  obtain⟨v,H1,I1,r,p,xs,e,hp,q1⟩:=zz
  obtain⟨o,I2⟩:=I1.freeze hp
  exact⟨v,_,I2,r,q1 o⟩) fun _ _ z=>z
theorem Cw{i:Nat}{y:Str}{pos':Pos}{x:Expr}{t:TE}(h:PU X i y pos' x t):PU X i y pos' x (EV t):=fun pins s σ H Q I q =>
 wpAny_mono (h pins s σ H _ I q) (fun u s1 zz=>by
  obtain⟨v,H1,I1,p,xs,e,hp,q1⟩:=zz
  obtain⟨o,I2⟩:=I1.freeze hp
  exact⟨v,_,I2,q1 o⟩) fun _ _ z=>z
def ET(t:TE):TE:=fun σ H Q=>t σ H fun v H1=>(∃ p xs,v = .ref p∧H1 p=some (.lst xs)∧∀ o,Q v (upd H1 p (.frz o (.lst xs))))∨Q v H1
theorem yN{x:Expr}{t:TE}(h:PE X x t):PE X x (ET t):=fun pins s σ H Q I q =>
 wpAny_mono (h pins s σ H _ I q) (fun u s1 zz=>by
  obtain⟨v,H1,I1,r,z⟩:=zz
  rcases z with⟨p,xs,e,hp,q1⟩|q1
  ·obtain⟨o,I2⟩:=I1.freeze hp
   exact⟨v,_,I2,r,q1 o⟩
  ·exact⟨v,H1,I1,r,q1⟩) fun _ _ z=>z
noncomputable def az(p:Addr)(xs:List V):HO:=.ext fun h=>xs.length≤sizeLine∧∃(its:List Value) (n:Nat),i8 xs its∧h.get? p=some { cls:=.type "list",data:=.seq its.toArray n }
theorem Inv.hide{xs:List V}(I:Inv X pins σ H s)(hp:H p=some (.lst xs)):Inv X pins σ (upd H p (az p xs)) s:=by
 have k:=I.hok p _ hp
 have l:=I.loose hp
 obtain⟨z,its,n,r,e⟩:=id k
 exact I.swap hp ⟨fun _ q=>(nomatch q),fun _ q=>(nomatch q)⟩ l.t l.f l.b ⟨⟨z,its,n,r,e⟩,⟨_,e⟩,fun h1 h2 ⟨z,its,n,r,e⟩ k=>⟨z,its,n,r,k _ e⟩⟩
theorem Inv.show'{xs:List V}(I:Inv X pins σ H s)(l:BK X p)(hp:H p=some (az p xs)):Inv X pins σ (upd H p (.lst xs)) s:=by
 obtain⟨k,_,_⟩:=I.hok p _ hp
 exact I.swap hp ⟨fun _ q=>(nomatch q),fun _ q=>(nomatch q)⟩ l.t l.f l.b k
def uj(p:Addr)(t:TE):TE:=fun σ H Q=>∃ xs,H p=some (.lst xs)∧t σ (upd H p (az p xs)) fun v H1=>H1 p=some (az p xs)∧Q v (upd H1 p (.lst xs))
theorem pQ{x:Expr}{t:TE}(h:PE X x t):PE X x fun σ H Q=>∃ p,uj p t σ H Q:=fun pins s σ H Q I ⟨p,xs,hp,q⟩ =>
 wpAny_mono (h pins s σ _ _ (I.hide hp) q) (fun u s1 ⟨v,H1,I2,r,hp1,q1⟩=>⟨v,_,I2.show' (I.loose hp) hp1,r,q1⟩) fun _ _ z=>z
def uh(p:Addr)(t:TT):TT:=fun σ H Q=>∃ xs,H p=some (.lst xs)∧t σ (upd H p (az p xs)) fun v H1=>H1 p=some (az p xs)∧Q v (upd H1 p (.lst xs))
theorem gm{ifs:List Expr}{t:TT}(h:br X ifs t):br X ifs fun σ H Q=>∃ p,uh p t σ H Q:=fun pins s σ H Q I ⟨p,xs,hp,q⟩ =>
 wpAny_mono (h pins s σ _ _ (I.hide hp) q) (fun u s1 ⟨H1,I2,hp1,q1⟩=>⟨_,I2.show' (I.loose hp) hp1,q1⟩) fun _ _ z=>z
def ui(p:Addr)(g:TG):TG:=fun v σ H Q=>∃ xs,H p=some (.lst xs)∧g v σ (upd H p (az p xs)) fun σ1 H1=>H1 p=some (az p xs)∧Q σ1 (upd H1 p (.lst xs))
theorem pP{tg:Expr}{g:TG}(h:PG X tg g):PG X tg fun v σ H Q=>∃ p,ui p g v σ H Q:=fun pins s σ H v u Q I r ⟨p,xs,hp,q⟩ =>
 wpAny_mono (h pins s σ _ v u _ (I.hide hp) r q) (fun u s1 ⟨σ1,H1,I2,hp1,q1⟩=>⟨σ1,_,I2.show' (I.loose hp) hp1,q1⟩) fun _ _ z=>z
end
section
variable {X:Cx} {pos:Pos}
end
section
variable {X:Cx} {e:Expr} {te:TE} {st:Expr} {ts:TO} {pos p2:Pos}
end
section
variable {prog:Program} {w:World} {A:Around} {E:Value→Shared→Prop} {s:Shared}
end
section
variable {X:Cx}
end
section
variable {X:Cx}
end
section
variable {prog:Program} {w:World} {A:Around} {E:Value→Shared→Prop} {s:Shared}
end
section
variable {prog:Program} {w:World} {A:Around} {E:Value→Shared→Prop} {s:Shared}
end
section
variable {X:Cx}
end
section
variable {prog:Program} {w:World} {A:Around} {E:Value→Shared→Prop} {s:Shared}
end
section
variable {X:Cx}
end
section
variable {prog:Program} {w:World} {A:Around} {E:Value→Shared→Prop} {s:Shared}
theorem pY{h h2:Heap}{a b:Addr}{its:Array Value}(x:h.IsList a its)(hs:Heap.ExtBut b h h2)(ne:a≠b):h2.IsList a its:=x.at fun o e=>hs a o ne e
theorem lL{it l:Addr}{its:Array Value}(hne:l≠it):∀(n i:Nat) (s:Shared) (Q:List Value→Shared→Prop),s.heap.IsListIter it l i→s.heap.IsList l its→i+n≤its.size →
  (∀ h2,h2.IsListIter it l (i+n)→Heap.SameBut it s.heap h2→Q ((its.toList.drop i).take n) { s with heap:=h2 })→wpAny (model prog w) A (draw (.ref it) n) Q E s
 | 0,i,s,Q,hi,_,_,k=>by
  show wpAny _ _ (pure []) Q E s
  refine JZ ?_
  simpa using k s.heap hi (Heap.SameBut.refl ..)
 | n+1,i,s,Q,hi,hl,hle,k=>by
  have lt:i<its.size:=by omega
  show wpAny _ _ (pyNext (.ref it) >>= _) Q E s
  refine JC (wpAny_pyNext_list_item hi hl (x:=its[i]) (by simp[lt]) fun h1 hi1 hs1=>JC (wpAny_holding ?_))
  refine lL hne n (i+1) _ _ hi1 (pY hl hs1.extBut hne) (by omega) fun h2 hi2 hs2=>JZ ?_
  have e:its.toList.drop i=its[i] :: its.toList.drop (i+1):=by simp[MF,lt]
  have z:=k h2 (by rw[show i+(n+1)=i+1+n by omega];exact hi2) (hs1.trans hs2)
  rw[e,Mt]at z
  exact z
theorem mv{l:Addr}{its:Array Value}{ts:List (Bool × (Value→Sem Unit))}{Q:Unit→Shared→Prop}(hh:A.handled=none)(hl:s.heap.IsList l its)(hn:ts.length=its.size)(hst:ts.findIdx? (·.1)=none)
  (k:∀ h2,Heap.ExtBut s.heap.objs.size s.heap h2→wpAny (model prog w) A (assignInOrder (ts.map (·.2)) its.toList) Q E { s with heap:=h2 }):wpAny (model prog w) A (unpack (.ref l) ts) Q E s:=by
 have ne:l≠s.heap.objs.size:=by obtain⟨o,ho,_⟩:=hl;exact KG (Ke ho)
 unfold unpack
 rw[hn,hst]
 refine JC (wpAny_holding ?_)
 unfold unpackItems
 refine JC ?_
 unfold notIterableAtAll
 refine JC (wpAny_specialOf hl.typeIs F.slot_list_iter.lookup (JZ ?_))
 simp only[LP,if_false]
 refine JC (wpAny_holding (wpAny_pyIter_list hl ?_))
 refine JC (wpAny_holding (lL ne its.size 0 _ _ ⟨_,Kk _ rfl,rfl,rfl⟩ (hl.at fun o e=>JL _ e) (by omega) fun h1 hi1 hs1=>?_))
 have all:List.take its.size (List.drop 0 its.toList)=its.toList:=by
  rw[Ou];exact KN (by simp)
 rw[all,if_neg (by simp)]
 have hl1:h1.IsList l its:=pY (hl.at fun o e=>JL _ e) hs1.extBut ne
 refine JC (wpAny_holding (wpAny_pyNext_list_end hh hi1 hl1 (by simp) fun h2 he=>?_))
 simp only[Option.isSome_none,LP,if_false]
 exact JZ (k h2 fun b o hb e=>he b o hb (hs1.extBut b o hb (JL _ e)))
end
section
variable {X:Cx} {pos:Pos}
def DA(K:JB)(n:Nat)(t:TGs):TG:=fun v σ H Q=>∃ a xs,v = .ref a∧SqL K H a xs∧xs.length=n∧t xs σ H Q
theorem yK{es:List Expr}{k:Nat}{t:TGs}{n:Nat}(hc:X.calm=true)(h:PGs X es t)(hn:(assignEach es X.env).length=n:=by rfl)
  (hst:(assignEach es X.env).findIdx? (·.1)=none:=by rfl):PG X (.Tuple es k pos) (DA X.K n t):=by
 intro pins s σ H v u Q I r hw
 obtain⟨a,xs,e1,hq,hl,hw⟩:=hw
 subst e1
 cases r
 obtain⟨its,rv,ht,hz⟩:=I.list hq
 rw[assign_Tuple]
 refine JC (wpAny_standAt (mv (I.ok.hd hc) ht.isList (by simp[hn,← hl,rv.length]) hst fun h2 hx=>?_))
 have I1:Inv X pins σ H { s with heap:=h2 }:=I.kept (t':=s.toks) fun b o e=>hx b o (KG (Ke e)) e
 exact h pins _ σ H xs _ Q I1 (by simpa using rv) hw
end
section
variable {X:Cx}
end
section
variable {prog:Program} {w:World} {A:Around} {E:Value→Shared→Prop} {s:Shared}
end
end L2
namespace L2
open PySem
section
variable {prog:Program} {w:World} {A:Around} {E:Value→Shared→Prop} {s:Shared}
theorem wj{k:Bool}{e p l:Addr}{n:Nat}{xs:Array Value}{v old:Value}{Q:Option Value→Shared→Prop}(ie:IsEnum s.heap e p n old)(g:SI k s.heap p l n)(m:SS k s.heap l xs)(hv:xs[n]? = some v)(hne:e≠p)
  (q:∀ h',IsEnumOut h' e p ((n:Int)+1) v s.heap.objs.size→SI k h' p l (n+1)→h'.get? s.heap.objs.size=some { cls:=.type "tuple",data:=.seq #[.int n s.toks,v] }→h'.objs.size=s.heap.objs.size+1 →
   (∀ b o,b≠e→b≠p→s.heap.get? b=some o→h'.get? b=some o)→Q (some (.ref s.heap.objs.size)) { s with heap:=h',toks:=s.toks+1 }):wpAny (model prog w) A (pyNext (.ref e)) Q E s:=by
 have ty:s.TypeIs (.ref e) "enumerate" := ⟨_,ie,rfl⟩
 unfold pyNext
 refine JC (wpAny_attempt (wpAny_callSpecial?_slot (name:=Str.ofString "__next__") ty F.slot_enumerate_next (wpAny_call_entry F.slot_enumerate_next ty F.entry_enumerate_next ?_ (F.args_enumerate_next_1 _))))
 obtain⟨hp,gs,dr,tk,os⟩:=s
 show wpAny _ _ (field (.ref e) 2 >>= _) _ _ _
 refine JC (wpAny_field ie rfl (x:=.ref p) rfl (JC (bV g m hv fun ha ga sa=>?_)))
 replace sa:Heap.SameBut p hp ha:=sa
 have ea:IsEnum ha e p n old:=(sa.2 e hne).trans ie
 show wpAny _ _ (field (.ref e) 3 >>= _) _ _ ⟨ha,gs,dr,tk,os⟩
 refine JC (wpAny_field ea rfl (x:=rawInt n) rfl ?_)
 show wpAny _ _ (field (.ref e) 4 >>= _) _ _ ⟨ha,gs,dr,tk,os⟩
 refine JC (wpAny_field ea rfl (x:=.none) rfl ?_)
 show wpAny _ _ (mkInt n >>= _) _ _ ⟨ha,gs,dr,tk,os⟩
 refine JC (wpAny_mkInt ?_)
 show wpAny _ _ (setField (.ref e) 3 (rawInt ((n:Int)+1)) >>= _) _ _ ⟨ha,gs,dr,tk+1,os⟩
 refine JC (wpAny_setField_rec ea (by simp) fun hb eb sb=>?_)
 replace sb:Heap.SameBut e ha hb:=sb
 replace eb:IsEnum hb e p ((n:Int)+1) old:=eb
 show wpAny _ _ (setField (.ref e) 4 .none >>= _) _ _ ⟨hb,gs,dr,tk+1,os⟩
 refine JC (wpAny_setField_rec eb (by simp) fun hc ec sc=>?_)
 replace sc:Heap.SameBut e hb hc:=sc
 replace ec:IsEnum hc e p ((n:Int)+1) old:=ec
 show wpAny _ _ (newTuple [.int n tk,v] >>= _) _ _ ⟨hc,gs,dr,tk+1,os⟩
 refine JC (wpAny_newTuple ?_)
 have zc:hc.objs.size=hp.objs.size:=by rw[sc.1,sb.1,sa.1]
 have ltE:e<hp.objs.size:=Ke ie
 obtain⟨hd,hhd⟩:∃ hd,hd=hc.push { cls:=.type "tuple",data:=.seq #[.int n tk,v] }:=⟨_,rfl⟩
 have ed:IsEnum hd e p ((n:Int)+1) old:=by rw[hhd];exact JL _ ec
 have td:hd.get? hp.objs.size=some { cls:=.type "tuple",data:=.seq #[.int n tk,v] }:=by rw[hhd,← zc];exact Kk _ rfl
 have zd:hd.objs.size=hp.objs.size+1:=by rw[hhd,Ld,zc]
 have kd:∀ b o,b≠e→b≠p→hp.get? b=some o→hd.get? b=some o:=fun b o b1 b2 z=>by rw[hhd];exact JL _ (sc.extBut b o b1 (sb.extBut b o b1 (sa.extBut b o b2 z)))
 have gd:SI k hd p l (n+1):=((ga.but sb.extBut (Ne.symm hne)).but sc.extBut (Ne.symm hne)).at fun o z=>by rw[hhd];exact JL _ z
 show wpAny _ _ (Builtin.SmallTypes.ownedTupleIsFree (.ref e) >>= _) _ _ ⟨hc.push { cls:=.type "tuple",data:=.seq #[.int n tk,v] },gs,dr,tk+1,os⟩
 rw[← hhd,zc]
 refine JC ?_;unfold Builtin.SmallTypes.ownedTupleIsFree
 refine JC (wpAny_field ed rfl (x:=.none) rfl (JZ ?_));simp only[if_true]
 refine JC (wpAny_rule (JC (wpAny_field ed rfl (x:=old) rfl (JC (wpAny_setField_rec ed (by simp) fun hf ef sf=>?_)))))
 replace sf:Heap.SameBut e hd hf:=sf
 replace ef:IsEnum hf e p ((n:Int)+1) v:=ef
 show wpAny _ _ (Builtin.SmallTypes.ownedTupleHandOut (.ref e) (.ref hp.objs.size) >>= _) _ _ ⟨hf,gs,dr,tk+1,os⟩
 refine JC ?_;unfold Builtin.SmallTypes.ownedTupleHandOut
 refine JC (wpAny_setField_rec ef (by simp) fun hg eg sg=>?_)
 replace sg:Heap.SameBut e hf hg:=sg
 replace eg:IsEnumOut hg e p ((n:Int)+1) v hp.objs.size:=eg
 refine wpAny_setField_rec eg (by simp) fun hh eh sh=>?_
 replace sh:Heap.SameBut e hg hh:=sh
 replace eh:IsEnumOut hh e p ((n:Int)+1) v hp.objs.size:=eh
 refine JC (wpAny_letGo (JZ ⟨_,rfl,JZ (q hh eh ?_ ?_ ?_ ?_)⟩))
 ·exact((gd.but sf.extBut (Ne.symm hne)).but sg.extBut (Ne.symm hne)).but sh.extBut (Ne.symm hne)
 ·exact sh.extBut _ _ (LY ltE) (sg.extBut _ _ (LY ltE) (sf.extBut _ _ (LY ltE) td))
 ·show hh.objs.size=hp.objs.size+1
  rw[sh.1,sg.1,sf.1,zd]
 ·exact fun b o b1 b2 z=>sh.extBut b o b1 (sg.extBut b o b1 (sf.extBut b o b1 (kd b o b1 b2 z)))
theorem zL{k:Bool}{e p l:Addr}{n:Nat}{xs:Array Value}{old:Value}{Q:Option Value→Shared→Prop}(hA:A.handled=none)(ie:IsEnum s.heap e p n old)(g:SI k s.heap p l n)(m:SS k s.heap l xs)(hv:xs[n]? = none)
  (q:∀ h',Heap.ExtBut p s.heap h'→Q none { s with heap:=h' }):wpAny (model prog w) A (pyNext (.ref e)) Q E s:=by
 have ty:s.TypeIs (.ref e) "enumerate" := ⟨_,ie,rfl⟩
 unfold pyNext
 refine JC (wpAny_attempt (wpAny_callSpecial?_slot (name:=Str.ofString "__next__") ty F.slot_enumerate_next (wpAny_call_entry F.slot_enumerate_next ty F.entry_enumerate_next ?_ (F.args_enumerate_next_1 _))))
 show wpAny _ _ (field (.ref e) 2 >>= _) _ _ _
 refine JC (wpAny_field ie rfl (x:=.ref p) rfl (JC (mH hA g m hv fun h' x he' zz=>?_)))
 obtain⟨o,ho,hc⟩:=zz
 exact JC (wpAny_isInstance (T := "StopIteration") (b:=true) ⟨o,ho,hc⟩ isSubtype_stop (JZ (q _ he')))
end
set_option maxHeartbeats 2000000 in
theorem wm(l:Addr)(xs:Array Value)(n:Nat)(dct:Option Addr)(sl:Array (Option Value)) :
  Meets (Builtin.«enumerate.__new__» ⟨[.type "enumerate",.ref l],[]⟩) (fun _ R s=>s.heap.get? l=some { cls:=.type "tuple",dict:=dct,data:=.seq xs n,slots:=sl } ∧
   R (.ok (.ret (.ref (zA false s.heap l).objs.size))) { s with heap:=(zA false s.heap l).push { cls:=.type "enumerate",data:=.fields #[.none,.bool false,.ref s.heap.objs.size,rawInt 0,.none,.none] } }) :=
 .of_wp fun prog w A R s h=>by
  obtain⟨hp,g,d,tk,os⟩:=s
  obtain⟨hl,h⟩:=h
  have hsub:=sub_enumerate
  have hT:Heap.IsTuple (Shared.heap ⟨hp,g,d,tk,os⟩) l xs:=⟨_,hl,rfl,n,rfl⟩
  wp_walk using AutoSeq1.wpAny_loadPart' hl
  refine wpAny_stack_any fun st=>JZ ?_
  split
  ·rename_i c _ _ _ _ _
   cases(c == Value.type "enumerate")
   ·wp_walk using AutoSeq1.wpAny_loadPart' hl,wpAny_pyIter_tuple hT
    exact⟨_,rfl,h⟩
   ·wp_walk using AutoSeq1.wpAny_loadPart' hl,wpAny_pyIter_tuple hT
    exact⟨_,rfl,h⟩
  ·wp_walk using AutoSeq1.wpAny_loadPart' hl,wpAny_pyIter_tuple hT
   exact⟨_,rfl,h⟩
section
variable {prog:Program} {w:World} {A:Around} {E:Value→Shared→Prop} {s:Shared}
theorem wM{k:Bool}{l:Addr}{xs:Array Value}{Q:Value→Shared→Prop}(m:SS k s.heap l xs)
  (q:∀ h',IsEnum h' (s.heap.objs.size+1) s.heap.objs.size 0 .none→SI k h' s.heap.objs.size l 0→h'.objs.size=s.heap.objs.size+2→(∀ b o,s.heap.get? b=some o→h'.get? b=some o)→Q (.ref (s.heap.objs.size+1)) { s with heap:=h' }) :
  wpAny (model prog w) A (call (.type "enumerate") [.ref l]) Q E s:=by
 cases k with
 | true=>exact call_enumerate_list m q
 | false =>
  obtain⟨⟨c,dct,dt,sl⟩,hl,hc,n,hd⟩:=m
  simp only at hc hd
  subst hc;subst hd
  refine callType_new F.called_enumerate (by decide) (F.typeCall_enumerate_1 _) (F.newCall_enumerate_1 _) (fun obj=>F.args_object_init_2 obj _) F.entry_enumerate_new (wm l xs n dct sl) ⟨hl,?_⟩
  have s1:(zA false s.heap l).objs.size=s.heap.objs.size+1:=Ld ..
  have o1:((zA false s.heap l).push { cls:=.type "enumerate",data:=.fields #[.none,.bool false,.ref s.heap.objs.size,rawInt 0,.none,.none] }).get? (zA false s.heap l).objs.size=some _:=Kk _ rfl
  show _∧_
  rw[s1]at o1 ⊢
  exact⟨⟨_,o1,rfl⟩,q _ o1 ⟨_,JL _ (Kk _ rfl),rfl,rfl⟩ (by rw[Ld,s1]) fun b o e=>JL _ (JL _ e)⟩
end
end L2
namespace L2
open PySem PySem.Spec PyProof.Rows
noncomputable def Ite(K:JB)(k:Bool)(l:Addr):It :=
 ⟨fun i H=>∃ xs x,SqK K k H l xs∧xs[i]? = some x,
  fun i H v H'=>∃ T x,H T=none∧v = .ref T∧H'=upd H T (.tup [.int i,x])∧∀ xs,SqK K k H l xs→xs[i]? = some x,
  fun i H=>∃ xs,SqK K k H l xs∧xs.length≤i⟩
def Ed(k:Bool)(e p l:Addr)(i:Nat)(h:Heap):Prop:=(∃ old,IsEnum h e p i old)∧SI k h p l i
theorem qQ{P:Program}{w:World}{K:JB}{elts:List Expr}{kx:Nat}{tp:Pos}{k:Bool}{e p l:Addr}(hne:e≠p):nQ P w K (.Tuple elts kx tp) (Ite K k l) [e,p] e (Ed k e p l) where
 mem:=by simp
 obj:=fun i h ⟨⟨old,ie⟩,g⟩ c hc=>by
  simp only[JJ,Ks,or_false]at hc
  rcases hc with rfl|rfl
  ·exact⟨_,ie,fun v z=>by cases z⟩
  ·exact g.obj
 keep:=fun i h h' ⟨⟨old,ie⟩,g⟩ kk=>⟨⟨old,kk e (by simp) _ ie⟩,g.at fun o z=>kk p (by simp) o z⟩
 item:=by
  intro X hP hw hK hc i pins s σ H E I hf st hg
  subst hP hw hK
  obtain⟨⟨old,ie⟩,g⟩:=st
  obtain⟨xs,x,q1,hx⟩:=hg
  obtain⟨is1,r1,m1⟩:=I.sqk q1
  obtain⟨u1,hu1,ru1⟩:=r1.get hx
  refine wj ie g m1 (v:=u1) (by simpa using hu1) hne fun h' a1 a2 a3 a4 kk=>?_
  refine⟨_,rfl,?_⟩
  refine wpAny_letOwnedTupleGo_enum (s:={ s with heap:=h',toks:=s.toks+1 }) a1 fun h2 b1 b2=>?_
  have lt:∀{c o},s.heap.get? c=some o→c≠s.heap.objs.size:=fun z=>KG (Ke z)
  have I1:Inv X pins σ (upd H s.heap.objs.size (.tup [.int i,x])) { s with heap:=s.heap.push { cls:=.type "tuple",data:=.seq #[.int i s.toks,u1] },toks:=s.toks+1 } :=
   I.laid (o:=.tup [.int i,x]) (fun b ob q=>JL _ q) (JY _) ⟨(show 2≤sizeLine by decide),[.int i s.toks,u1],.cons ⟨_,rfl⟩ (.cons ru1 .nil),IsTup.new _ _⟩
  have nfp:∀ c∈[e,p],c≠s.heap.objs.size:=fun c hc=>by
   simp only[JJ,Ks,or_false]at hc
   rcases hc with rfl|rfl
   ·exact lt ie
   ·obtain⟨o,z,_⟩:=g.obj;exact lt z
  have hf':∀ c∈[e,p],Y4 X pins (upd H s.heap.objs.size (.tup [.int i,x])) c:=fun c hc=>by
   obtain⟨f0,f1⟩:=hf c hc
   exact⟨by rw[g6 (nfp c hc)];exact f0,f1⟩
  have I2:Inv X pins σ (upd H s.heap.objs.size (.tup [.int i,x])) { s with heap:=h2,toks:=s.toks+1 }:=by
   refine Inv.turnedN (s:={ s with heap:=s.heap.push { cls:=.type "tuple",data:=.seq #[.int i s.toks,u1] },toks:=s.toks+1 }) (t':=s.toks+1) (h':=h2) (ch:=[e,p]) I1 (fun c o hcn z=>?_) hf'
   simp only[JJ,Ks,or_false,not_or]at hcn
   obtain⟨n1,n2⟩:=hcn
   refine b2.extBut c o n1 ?_
   have z':(s.heap.push { cls:=.type "tuple",data:=.seq #[.int i s.toks,u1] }).get? c=some o:=z
   by_cases hcs:c=s.heap.objs.size
   ·subst hcs
    rw[Kk _ rfl]at z'
    cases z'
    exact a3
   ·rw[NK _ _ _ hcs]at z'
    exact kk c o n1 n2 z'
  refine⟨.ref s.heap.objs.size,_,I2,rfl,⟨_,x,I.hok.fresh (JY _),rfl,rfl,fun zs hz=>by rw[I.sqk_inj hz q1];exact hx⟩,?_,fun c hc=>(hf' c hc).1⟩
  have ec:((i+1:Nat):Int)=(i:Int)+1:=by omega
  exact⟨⟨u1,by rw[ec];exact b1⟩,a2.at fun o z=>b2.extBut p o (Ne.symm hne) z⟩
 done:=by
  intro X hP hw hK hc i pins s σ H E I hf st hg
  subst hP hw hK
  obtain⟨⟨old,ie⟩,g⟩:=st
  obtain⟨xs,q1,hx⟩:=hg
  obtain⟨is1,r1,m1⟩:=I.sqk q1
  have e1:=r1.length
  refine zL (I.ok.hd hc) ie g m1 (by simp;omega) fun h' kk=>⟨rfl,?_⟩
  refine I.turnedN (t':=s.toks) (ch:=[e,p]) (fun c o hcn z=>?_) hf
  simp only[JJ,Ks,or_false,not_or]at hcn
  exact kk c o hcn.2 z
 self:=fun _ _ _ _ _ st h=>let ⟨⟨_,ie⟩,_⟩:=st;wpAny_pyIter_enum ie h
def FO(K:JB)(ta:TA):TI:=fun σ H R=>ta σ H fun vs H1=>∃ k l,vs=[.ref l]∧(∃ xs,SqK K k H1 l xs)∧R (Ite K k l) H1
theorem yI{X:Cx}{elts:List Expr}{kx:Nat}{tp:Pos}{a:Expr}{ta:TA}{p pos:Pos}(hg:Gl X "enumerate")(hm:X.mg "enumerate" = none)(ha:PA X [a] ta)(hs:starEach [a] X.env=[(false,eval a X.env)]:=by rfl) :
  PI X (.Tuple elts kx tp) (.Call (.Name "enumerate" p) [a] [] pos) (FO X.K ta):=by
 intro pins s σ H R I h
 refine Call_ (aX I hg hm PyProof.Rows.boot_enumerate (PyProof.Rows.callWith_type1 (thn (ha pos pins s σ H _ I h) fun us s1 ⟨vs,H1,I1,r1,q1⟩=>?_) hs rfl))
 obtain⟨k,l,e,⟨xs,q2⟩,q⟩:=q1
 subst e
 cases r1 with
 | cons r rr =>
  cases rr
  cases r
  obtain⟨is1,_,m1⟩:=I1.sqk q2
  refine wM m1 fun h' a1 a2 a3 kk=>?_
  refine wpAny_pyIter_enum (s:={ s1 with heap:=h' }) a1 ?_
  refine⟨s1.heap.objs.size+1,_,_,_,H1,rfl,I1.kept (t':=s1.toks) kk,qQ (Nat.succ_ne_self _),⟨⟨_,a1⟩,a2⟩,fun c hc=>?_,q⟩
  have hge:s1.heap.objs.size≤c:=by
   simp only[JJ,Ks,or_false]at hc
   rcases hc with rfl|rfl
   ·exact LI _ _
   ·exact JY _
  exact I1.fpOk hge (I1.hok.fresh hge)
end L2
namespace L2
open PySem
theorem PE.imp{X:Cx}{x:Expr}{t t':TE}(h:PE X x t)(i:∀ σ H Q,t' σ H Q→t σ H Q):PE X x t':=fun pins s σ H Q I q=>h pins s σ H Q I (i σ H Q q)
theorem PT.imp{X:Cx}{x:Expr}{t t':TT}(h:PT X x t)(i:∀ σ H Q,t' σ H Q→t σ H Q):PT X x t':=fun pins s σ H Q I q=>h pins s σ H Q I (i σ H Q q)
theorem PW.imp{X:Cx}{x:Expr}{t t':TT}(h:PW X x t)(i:∀ σ H Q,t' σ H Q→t σ H Q):PW X x t':=fun wh pins s σ H Q I q=>h wh pins s σ H Q I (i σ H Q q)
theorem PA.imp{X:Cx}{x:List Expr}{t t':TA}(h:PA X x t)(i:∀ σ H Q,t' σ H Q→t σ H Q):PA X x t':=fun pos pins s σ H Q I q=>h pos pins s σ H Q I (i σ H Q q)
theorem PS.imp{X:Cx}{x:Stmt}{t t':TS}(h:PS X x t)(i:∀ E σ H,t' E σ H→t E σ H):PS X x t':=fun pins s σ H D I q=>h pins s σ H D I (i D σ H q)
theorem PSs.imp{X:Cx}{x:List Stmt}{t t':TS}(h:PSs X x t)(i:∀ E σ H,t' E σ H→t E σ H):PSs X x t':=fun pins s σ H D I q=>h pins s σ H D I (i D σ H q)
theorem OpR.imp{X:Cx}{f:Value→Value→Sem Value}{r r':R2}(h:OpR X f r)(i:∀ x y H Q,r' x y H Q→r x y H Q):OpR X f r':=fun pins s σ H x y v u Q I rx ry q=>h pins s σ H x y v u Q I rx ry (i x y H Q q)
theorem IxR.imp{X:Cx}{r r':R2}(h:IxR X r)(i:∀ x y H Q,r' x y H Q→r x y H Q):IxR X r':=fun va sl pins s σ H x y v u Q I rx ry q=>h va sl pins s σ H x y v u Q I rx ry (i x y H Q q)
theorem PG.imp{X:Cx}{x:Expr}{t t':TG}(h:PG X x t)(i:∀ v σ H Q,t' v σ H Q→t v σ H Q):PG X x t':=fun pins s σ H v u Q I r q=>h pins s σ H v u Q I r (i v σ H Q q)
theorem PGs.imp{X:Cx}{x:List Expr}{t t':TGs}(h:PGs X x t)(i:∀ v σ H Q,t' v σ H Q→t v σ H Q):PGs X x t':=fun pins s σ H v u Q I r q=>h pins s σ H v u Q I r (i v σ H Q q)
end L2
namespace DL
open PySem PySem.Spec L2
open PyProof.Rows hiding St
inductive D where
 | non|bl (b:Bool)|int (i:Int)|str (x:Str)|ref (a:Addr)|tup (ds:List D)|vl (ds:List D)|ty (n:String)|dic|exc (c:Str)
def KL(K:JB)(a:Addr)(xs:List V):Prop:=∀ H:Hp,SqL K H a xs
mutual
inductive Has (K:JB) (H:Hp):V→D→Prop
 | non:Has K H .non .non
 | bl (b:Bool):Has K H (.bl b) (.bl b)
 | int (i:Int):Has K H (.int i) (.int i)
 | str (x:Str):Has K H (.str x) (.str x)
 | ref (a:Addr):Has K H (.ref a) (.ref a)
 | ty (n:String):Has K H (.ty n) (.ty n)
 | tup {a:Addr} {xs:List V} {ds:List D}:SqT K H a xs→HasL K H xs ds→Has K H (.ref a) (.tup ds)
 | vl {a:Addr} {xs:List V} {ds:List D}:((∃ o,H a=some (.frz o (.lst xs)))∨KL K a xs)→HasL K H xs ds→Has K H (.ref a) (.vl ds)
 | dic {a:Addr}:(∃ o:Obj,H a=some (.frz o (.own 0))∧o.cls = .type "dict")→Has K H (.ref a) .dic
 | exc {a:Addr} {c:Str}:(∃(o:Obj) (C:Addr),H a=some (.frz o (.own 0))∧o.cls = .ref C∧PySem.W.nsIn K mainGlobals c=some (some (.ref C)))→Has K H (.ref a) (.exc c)
inductive HasL (K:JB) (H:Hp):List V→List D→Prop
 | nil:HasL K H [] []
 | cons {v:V} {d:D} {vs:List V} {ds:List D}:Has K H v d→HasL K H vs ds→HasL K H (v :: vs) (d :: ds)
end
structure KT0(H H':Hp):Prop where
 tp:∀ a xs,Rd H a (.tup xs)→Rd H' a (.tup xs)
 fz:∀ a o u,H a=some (.frz o u)→H' a=some (.frz o u)
structure KT(H H':Hp):Prop extends KT0 H H' where
 ex:∀ a φ,H a=some (.ext φ)→H' a=some (.ext φ)
theorem KT.refl(H:Hp):KT H H:=⟨⟨fun _ _ h=>h,fun _ _ _ h=>h⟩,fun _ _ h=>h⟩
theorem KT.trans{H H1 H2:Hp}(a:KT H H1)(b:KT H1 H2):KT H H2:=⟨⟨fun p xs h=>b.tp p xs (a.tp p xs h),fun p o xs h=>b.fz p o xs (a.fz p o xs h)⟩,fun p φ h=>b.ex p φ (a.ex p φ h)⟩
theorem KT0.sq{K:JB}{H H':Hp}(k:KT0 H H'){a:Addr}{xs:List V}(h:SqT K H a xs):SqT K H' a xs:=h.elim (fun z=>.inl (k.tp a xs z)) .inr
theorem KT.sq{K:JB}{H H':Hp}(k:KT H H'){a:Addr}{xs:List V}(h:SqT K H a xs):SqT K H' a xs:=k.toKT0.sq h
theorem KT0.at{H:Hp}{p:Addr}{o:HO}(h1:∀ xs,¬ Rd H p (.tup xs))(h2:∀ q u,H p≠some (.frz q u)):KT0 H (upd H p o) where
 tp:=fun a xs r=>by
  have hn:a≠p:=by intro e;subst e;exact h1 xs r
  rcases r with r|⟨q,r⟩
  ·exact .inl (by rw[g6 hn];exact r)
  ·exact .inr ⟨q,by rw[g6 hn];exact r⟩
 fz:=fun a q xs r=>by
  have hn:a≠p:=by intro e;subst e;exact h2 q xs r
  rw[g6 hn];exact r
theorem KT.at{H:Hp}{p:Addr}{o:HO}(h1:∀ xs,¬ Rd H p (.tup xs))(h2:∀ q u,H p≠some (.frz q u))(h3:∀ φ,H p≠some (.ext φ)):KT H (upd H p o):=⟨KT0.at h1 h2,fun a φ r=>by
  have hn:a≠p:=by intro e;subst e;exact h3 φ r
  rw[g6 hn];exact r⟩
theorem KT.alloc{H:Hp}{p:Addr}{o:HO}(h:H p=none):KT H (upd H p o):=KT.at (fun xs r=>by rcases r with r|⟨_,r⟩<;>(rw[h]at r;cases r)) (fun q xs r=>by rw[h]at r;cases r) fun φ r=>by rw[h]at r;cases r
theorem KT.any{H:Hp}{p:Addr}{xs:List V}{o:HO}(h:H p=some (.lst xs)):KT H (upd H p o):=KT.at (fun xs r=>by rcases r with r|⟨_,r⟩<;>(rw[h]at r;cases r)) (fun q xs r=>by rw[h]at r;cases r) fun φ r=>by rw[h]at r;cases r
theorem KT.write{H:Hp}{p:Addr}{xs ys:List V}(h:H p=some (.lst xs)):KT H (upd H p (.lst ys)):=KT.any h
theorem KT0.ext{H:Hp}{p:Addr}{φ:Heap→Prop}{o:HO}(h:H p=some (.ext φ)):KT0 H (upd H p o):=KT0.at (fun xs r=>by rcases r with r|⟨_,r⟩<;>(rw[h]at r;cases r)) fun q xs r=>by rw[h]at r;cases r
theorem KT.new{H H':Hp}{p:Addr}{o:HO}(k:KT H H')(h:H p=none):KT H (upd H' p o) where
 tp:=fun a xs r=>by
  have hn:a≠p:=by intro e;subst e;rcases r with r|⟨_,r⟩<;>(rw[h]at r;cases r)
  rcases k.tp a xs r with r|⟨q,r⟩
  ·exact .inl (by rw[g6 hn];exact r)
  ·exact .inr ⟨q,by rw[g6 hn];exact r⟩
 fz:=fun a q xs r=>by
  have hn:a≠p:=by intro e;subst e;rw[h]at r;cases r
  rw[g6 hn];exact k.fz a q xs r
 ex:=fun a φ r=>by
  have hn:a≠p:=by intro e;subst e;rw[h]at r;cases r
  rw[g6 hn];exact k.ex a φ r
mutual
theorem Has.mono0{K:JB}{H H':Hp}(k:KT0 H H'):∀{v:V} {d:D},Has K H v d→Has K H' v d
 | _,_,.non=>.non
 | _,_,.bl b=>.bl b
 | _,_,.int i=>.int i
 | _,_,.str x=>.str x
 | _,_,.ref a=>.ref a
 | _,_,.ty n=>.ty n
 | _,_,.tup s l=>.tup (k.sq s) (HasL.mono0 k l)
 | _,_,.vl h l=>.vl (h.elim (fun⟨o,e⟩=>.inl ⟨o,k.fz _ _ _ e⟩) .inr) (HasL.mono0 k l)
 | _,_,.dic h=>.dic (let ⟨o,e,c⟩:=h;⟨o,k.fz _ _ _ e,c⟩)
 | _,_,.exc h=>.exc (let ⟨o,C,e,c⟩:=h;⟨o,C,k.fz _ _ _ e,c⟩)
theorem HasL.mono0{K:JB}{H H':Hp}(k:KT0 H H'):∀{v:List V} {d:List D},HasL K H v d→HasL K H' v d
 | _,_,.nil=>.nil
 | _,_,.cons a b=>.cons (Has.mono0 k a) (HasL.mono0 k b)
end
theorem Has.mono{K:JB}{H H':Hp}(k:KT H H'){v:V}{d:D}(h:Has K H v d):Has K H' v d:=h.mono0 k.toKT0
theorem HasL.mono{K:JB}{H H':Hp}(k:KT H H'){v:List V}{d:List D}(h:HasL K H v d):HasL K H' v d:=h.mono0 k.toKT0
section
variable {K:JB} {H H':Hp}
theorem HasL.length:∀{vs:List V} {ds:List D},HasL K H vs ds→vs.length=ds.length
 | _,_,.nil=>rfl
 | _,_,.cons _ b=>congrArg Nat.succ (HasL.length b)
theorem HasL.get:∀{vs:List V} {ds:List D} {i:Nat} {d:D},HasL K H vs ds→ds[i]? = some d→∃ v,vs[i]? = some v∧Has K H v d
 | _,_,_,_,.nil,e=>by simp at e
 | _,_,0,_,.cons a _,e=>by simp at e;subst e;exact⟨_,rfl,a⟩
 | _,_,i+1,d,.cons _ b,e=>by
  obtain⟨v,h1,h2⟩:=HasL.get (i:=i) (d:=d) b (by simpa using e)
  exact⟨v,by simpa using h1,h2⟩
theorem HasL.getV:∀{vs:List V} {ds:List D} {i:Nat} {v:V},HasL K H vs ds→vs[i]? = some v→∃ d,ds[i]? = some d∧Has K H v d
 | _,_,_,_,.nil,e=>by simp at e
 | _,_,0,_,.cons a _,e=>by simp at e;subst e;exact⟨_,rfl,a⟩
 | _,_,i+1,d,.cons _ b,e=>by
  obtain⟨v,h1,h2⟩:=HasL.getV (i:=i) (v:=d) b (by simpa using e)
  exact⟨v,by simpa using h1,h2⟩
theorem HasL.set{v:V}{d:D}(r:Has K H v d):∀{vs:List V} {ds:List D} (i:Nat),HasL K H vs ds→HasL K H (vs.set i v) (ds.set i d)
 | _,_,_,.nil=>.nil
 | _,_,0,.cons _ t=>.cons r t
 | _,_,i+1,.cons q t=>.cons q (HasL.set r i t)
theorem HasL.append:∀{xs ys:List V} {us ws:List D},HasL K H xs us→HasL K H ys ws→HasL K H (xs++ys) (us++ws)
 | _,_,_,_,.nil,s=>s
 | _,_,_,_,.cons r t,s=>.cons r (HasL.append t s)
theorem HasL.take:∀{xs:List V} {us:List D} (n:Nat),HasL K H xs us→HasL K H (xs.take n) (us.take n)
 | _,_,0,_=>.nil
 | _,_,_+1,.nil=>.nil
 | _,_,n+1,.cons r t=>.cons r (HasL.take n t)
theorem HasL.drop:∀{xs:List V} {us:List D} (n:Nat),HasL K H xs us→HasL K H (xs.drop n) (us.drop n)
 | _,_,0,r=>r
 | _,_,_+1,.nil=>.nil
 | _,_,n+1,.cons _ t=>HasL.drop n t
theorem HasL.ints:∀(ns:List Int),HasL K H (ns.map V.int) (ns.map D.int)
 | []=>.nil
 | n :: r=>.cons (.int n) (HasL.ints r)
end
inductive MO where
 | lst (ds:List D)
 | ins (c:Str) (fs:List (Str × D))
noncomputable abbrev Mem:=Addr→Option MO
noncomputable def B8(M:Mem)(a:Addr)(o:MO):Mem:=fun b=>if b=a then some o else M b
theorem g7{M:Mem}{a:Addr}{o:MO}:B8 M a o a=some o:=by unfold B8;rw[if_pos rfl]
theorem J9{M:Mem}{a b:Addr}{o:MO}(h:b≠a):B8 M a o b=M b:=by unfold B8;rw[if_neg h]
theorem P4{M:Mem}{a:Addr}{o u:MO}:B8 (B8 M a o) a u=B8 M a u:=by
 funext b;unfold B8;by_cases h:b=a<;>simp[h]
structure nR(K:JB)(H:Hp)(ys:List (Str × V))(fs:List (Str × D)):Prop where
 names:ys.map (·.1)=fs.map (·.1)
 has:HasL K H (ys.map (·.2)) (fs.map (·.2))
theorem nR.mono{K:JB}{H H':Hp}(k:KT H H'){ys:List (Str × V)}{fs:List (Str × D)}(h:nR K H ys fs):nR K H' ys fs:=⟨h.names,h.has.mono k⟩
theorem nR.mono0{K:JB}{H H':Hp}(k:KT0 H H'){ys:List (Str × V)}{fs:List (Str × D)}(h:nR K H ys fs):nR K H' ys fs:=⟨h.names,h.has.mono0 k⟩
noncomputable def MOk(K:JB)(H:Hp)(a:Addr):MO→Prop
 | .lst ds=>∃ xs,H a=some (.lst xs)∧HasL K H xs ds
 | .ins c fs=>∃ C dx ys,H a=some (.ins C dx ys)∧nR K H ys fs∧PySem.W.nsIn K mainGlobals c=some (some (.ref C))
def m8(K:JB)(H:Hp)(M:Mem):Prop:=∀ a o,M a=some o→MOk K H a o
section
variable {K:JB} {H H':Hp} {M:Mem}
theorem m8.fresh(h:m8 K H M){p:Addr}(e:H p=none):M p=none:=by
 cases q:M p with
 | none=>rfl
 | some o =>
  cases o with
  | lst ds=>obtain⟨xs,z,_⟩:=h p _ q;rw[e]at z;cases z
  | ins C fs=>obtain⟨_,dx,ys,z,_⟩:=h p _ q;rw[e]at z;cases z
theorem m8.alloc(h:m8 K H M){p:Addr}{u:HO}(e:H p=none):m8 K (upd H p u) M:=fun a o m=>by
 have k:KT H (upd H p u):=KT.alloc e
 cases o with
 | lst ds =>
  obtain⟨xs,z,l⟩:=h a _ m
  have hn:a≠p:=C7 z e
  exact⟨xs,by rw[g6 hn];exact z,l.mono k⟩
 | ins C fs =>
  obtain⟨C0,dx,ys,z,l,hc⟩:=h a _ m
  have hn:a≠p:=C7 z e
  exact⟨C0,dx,ys,by rw[g6 hn];exact z,l.mono k,hc⟩
theorem m8.new(h:m8 K H M){p:Addr}{xs:List V}{ds:List D}(e:H p=none)(l:HasL K H xs ds):m8 K (upd H p (.lst xs)) (B8 M p (.lst ds)):=fun a o m=>by
 by_cases q:a=p
 ·subst q
  rw[g7]at m;cases m
  exact⟨xs,i3,l.mono (KT.alloc e)⟩
 ·rw[J9 q]at m
  exact h.alloc e a o m
theorem m8.write(h:m8 K H M){p:Addr}{xs ys:List V}{ds:List D}(e:H p=some (.lst xs))(l:HasL K H ys ds):m8 K (upd H p (.lst ys)) (B8 M p (.lst ds)):=fun a o m=>by
 have k:KT H (upd H p (.lst ys)):=KT.write e
 by_cases q:a=p
 ·subst q
  rw[g7]at m;cases m
  exact⟨ys,i3,l.mono k⟩
 ·rw[J9 q]at m
  cases o with
  | lst es =>
   obtain⟨zs,z,l⟩:=h a _ m
   exact⟨zs,by rw[g6 q];exact z,l.mono k⟩
  | ins C fs =>
   obtain⟨C0,dx,zs,z,l,hc⟩:=h a _ m
   exact⟨C0,dx,zs,by rw[g6 q];exact z,l.mono k,hc⟩
theorem m8.lst(h:m8 K H M){a:Addr}{ds:List D}(m:M a=some (.lst ds)):∃ xs,H a=some (.lst xs)∧HasL K H xs ds:=h a _ m
end
noncomputable abbrev Ev:=List (Option D)
structure u8(K:JB)(H:Hp)(σ:St)(e:Ev):Prop where
 len:σ.length=e.length
 has:∀(i:Nat) (d:D),e[i]? = some (some d)→∃ v,σ[i]? = some (some v)∧Has K H v d
section
variable {K:JB} {H H':Hp} {σ:St} {e:Ev}
theorem u8.mono(k:KT H H')(h:u8 K H σ e):u8 K H' σ e:=⟨h.len,fun i d z=>let ⟨v,a,b⟩:=h.has i d z;⟨v,a,b.mono k⟩⟩
theorem u8.set(h:u8 K H σ e){v:V}{d:D}(r:Has K H v d)(i:Nat):u8 K H (σ.set i (some v)) (e.set i (some d)):=by
 refine⟨by simp[h.len],fun j x z=>?_⟩
 rw[List.getElem?_set]at z ⊢
 by_cases q:i=j
 ·subst q
  rw[if_pos rfl]at z ⊢
  by_cases l:i<e.length
  ·rw[if_pos l]at z
   rw[if_pos (by rw[h.len];exact l)]
   cases z
   exact⟨v,rfl,r⟩
  ·rw[if_neg l]at z;cases z
 ·rw[if_neg q]at z ⊢
  exact h.has j x z
end
noncomputable def X8(N:List Str)(ds:List D):Ev:=ds.map some++LA (N.length - ds.length) none
theorem u8.start0{K:JB}{H:Hp}{N:List Str}{vs:List V}{ds:List D}(h:HasL K H vs ds):u8 K H (L2.start N vs) (X8 N ds):=by
 have hl:=h.length
 refine⟨by simp[L2.start,X8,hl],fun i d z=>?_⟩
 unfold X8 at z
 unfold L2.start
 rw[Mi]at z ⊢
 simp only[JD]at z ⊢
 rw[hl]
 by_cases q:i<ds.length
 ·rw[if_pos q]at z ⊢
  rw[Ki]at z ⊢
  cases e:ds[i]? with
  | none=>rw[e]at z;cases z
  | some x =>
   rw[e]at z
   have z':x=d:=by simpa using z
   subst z'
   obtain⟨v,a,b⟩:=h.get e
   exact⟨v,by rw[a];rfl,b⟩
 ·rw[if_neg q]at z
  rw[Lk]at z
  split at z<;>cases z
noncomputable abbrev DK:=D→Mem→Prop
noncomputable abbrev DTE:=Ev→Mem→DK→Prop
noncomputable abbrev DTT:=Ev→Mem→(Bool→Mem→Prop)→Prop
noncomputable abbrev DTA:=Ev→Mem→(List D→Mem→Prop)→Prop
structure aI where
 nx:Ev→Mem→Prop
 rt:DK
 bk:Ev→Mem→Prop:=fun _ _=>False
 ct:Ev→Mem→Prop:=fun _ _=>False
noncomputable abbrev DTS:=aI→Ev→Mem→Prop
def eV(K:JB)(H:Hp)(R:DK)(Q:VK):Prop:=∀ d M',R d M'→∀ v H',KT H H'→m8 K H' M'→Has K H' v d→Q v H'
def xc(K:JB)(H:Hp)(R:Bool→Mem→Prop)(Q:Bool→Hp→Prop):Prop:=∀ b M',R b M'→∀ H',KT H H'→m8 K H' M'→Q b H'
def Ag(K:JB)(H:Hp)(R:List D→Mem→Prop)(Q:List V→Hp→Prop):Prop:=∀ ds M',R ds M'→∀ vs H',KT H H'→m8 K H' M'→HasL K H' vs ds→Q vs H'
def mj(K:JB)(H:Hp)(R:Ev→Mem→Prop)(Q:St→Hp→Prop):Prop:=∀ e M',R e M'→∀ σ H',KT H H'→m8 K H' M'→u8 K H' σ e→Q σ H'
structure Fit(K:JB)(H:Hp)(F:aI)(E:ml):Prop where
 nx:mj K H F.nx E.nx
 rt:eV K H F.rt E.rt
 bk:mj K H F.bk E.bk
 ct:mj K H F.ct E.ct
section
variable {K:JB} {H H':Hp}
theorem eV.mono{R:DK}{Q:VK}(h:eV K H R Q)(k:KT H H'):eV K H' R Q:=fun d M r v H2 k2 a b=>h d M r v H2 (k.trans k2) a b
theorem xc.mono{R:Bool→Mem→Prop}{Q:Bool→Hp→Prop}(h:xc K H R Q)(k:KT H H'):xc K H' R Q:=fun d M r H2 k2 a=>h d M r H2 (k.trans k2) a
theorem Ag.mono{R:List D→Mem→Prop}{Q:List V→Hp→Prop}(h:Ag K H R Q)(k:KT H H'):Ag K H' R Q:=fun d M r v H2 k2 a b=>h d M r v H2 (k.trans k2) a b
theorem mj.mono{R:Ev→Mem→Prop}{Q:St→Hp→Prop}(h:mj K H R Q)(k:KT H H'):mj K H' R Q:=fun d M r v H2 k2 a b=>h d M r v H2 (k.trans k2) a b
theorem Fit.mono{F:aI}{E:ml}(h:Fit K H F E)(k:KT H H'):Fit K H' F E:=⟨h.nx.mono k,h.rt.mono k,h.bk.mono k,h.ct.mono k⟩
end
def up(K:JB)(t:DTE):TE:=fun σ H Q=>∃ e M R,u8 K H σ e∧m8 K H M∧t e M R∧eV K H R Q
def upT(K:JB)(t:DTT):TT:=fun σ H Q=>∃ e M R,u8 K H σ e∧m8 K H M∧t e M R∧xc K H R Q
def upA(K:JB)(t:DTA):TA:=fun σ H Q=>∃ e M R,u8 K H σ e∧m8 K H M∧t e M R∧Ag K H R Q
def upS(K:JB)(t:DTS):TS:=fun E σ H=>∃ e M F,u8 K H σ e∧m8 K H M∧t F e M∧Fit K H F E
abbrev DPE(X:Cx)(x:Expr)(t:DTE):Prop:=PE X x (up X.K t)
abbrev DPT(X:Cx)(x:Expr)(t:DTT):Prop:=PT X x (upT X.K t)
abbrev DPW(X:Cx)(x:Expr)(t:DTT):Prop:=PW X x (upT X.K t)
abbrev DPA(X:Cx)(x:List Expr)(t:DTA):Prop:=PA X x (upA X.K t)
abbrev DPS(X:Cx)(x:Stmt)(t:DTS):Prop:=PS X x (upS X.K t)
abbrev Hs(X:Cx)(x:List Stmt)(t:DTS):Prop:=PSs X x (upS X.K t)
structure JE(X:Cx)(x:Expr)(t:DTE):Prop where
 out:DPE X x t
structure JT(X:Cx)(x:Expr)(t:DTT):Prop where
 out:DPT X x t
structure JW(X:Cx)(x:Expr)(t:DTT):Prop where
 out:DPW X x t
structure JA(X:Cx)(x:List Expr)(t:DTA):Prop where
 out:DPA X x t
structure JS(X:Cx)(x:Stmt)(t:DTS):Prop where
 out:DPS X x t
structure JSs(X:Cx)(x:List Stmt)(t:DTS):Prop where
 out:Hs X x t
section
variable {X:Cx} {a b c:Expr} {ta tb tc:DTE} {pos:Pos}
def bQ(i:Nat):DTE:=fun e M R=>∃ d,e[i]? = some (some d)∧R d M
def dC(d:D):DTE:=fun _ M R=>R d M
theorem a9(i:Nat){x:Str}{pos:Pos}(hN:X.N[i]? = some x:=by rfl)(hv:Vis X.env.scope x:=by first|exact Or.inl rfl|exact Or.inr (Or.inl rfl)|exact Or.inr (Or.inr rfl))(hd:(x == ("__debug__" : Str))=false:=by decide)
  (hcd:(x == ("__classdict__" : Str))=false:=by decide):JE X (.Name x pos) (bQ i):=⟨(CL hN hv hd hcd).imp (by
  rintro σ H Q ⟨e,M,R,ok,am,⟨d,z,r⟩,f⟩
  obtain⟨v,h1,h2⟩:=ok.has i d z
  exact⟨v,h1,f d M r v H (KT.refl H) am h2⟩)⟩
theorem U4{v:V}{d:D}(h:PE X a (tC v))(r:∀ H,Has X.K H v d):DPE X a (dC d) :=
 h.imp (by rintro σ H Q ⟨e,M,R,ok,am,z,f⟩;exact f d M z v H (KT.refl H) am (r H))
theorem d4{i j pos}:JE X (.Constant (.int i) j pos) (dC (.int i)):=⟨U4 CS fun _=>.int i⟩
theorem lF{b j pos}:JE X (.Constant (.bool b) j pos) (dC (.bl b)):=⟨U4 Fq fun _=>.bl b⟩
theorem A5{j pos}:JE X (.Constant .none j pos) (dC .non):=⟨U4 CQ fun _=>.non⟩
theorem C9{x j pos}:JE X (.Constant (.str x) j pos) (dC (.str x)):=⟨U4 CN fun _=>.str x⟩
def GB(K:JB)(v:V)(d:D):Prop:=∀ H,Has K H v d
theorem DI{x:Str}{v:V}{d:D}{u:Value}{pos:Pos}(hg:Gl X x)(hm:X.mg x=some u)(r:o7 v u)(hk:GB X.K v d)(hd:(x == ("__debug__" : Str))=false:=by decide):DPE X (.Name x pos) (dC d) :=
 U4 (yM hg hm r hd) hk
noncomputable abbrev DR2:=D→D→Mem→DK→Prop
def upR(K:JB)(g:DR2):R2:=fun x y H Q=>∃ dx dy M R,Has K H x dx∧Has K H y dy∧m8 K H M∧g dx dy M R∧eV K H R Q
def DOp(X:Cx)(f:Value→Value→Sem Value)(g:DR2):Prop:=OpR X f (upR X.K g)
def dOp(g:DR2)(ta tb:DTE):DTE:=fun e M R=>ta e M fun x M1=>tb e M1 fun y M2=>g x y M2 R
theorem gL{ta tb:DTE}{g:DR2}{σ:St}{H:Hp}{Q:VK}(h:up X.K (dOp g ta tb) σ H Q):tOp (upR X.K g) (up X.K ta) (up X.K tb) σ H Q:=by
 obtain⟨e,M,R,ok,am,t,f⟩:=h
 refine⟨e,M,_,ok,am,t,fun x M1 h1 v H1 k1 a1 r1=>?_⟩
 refine⟨e,M1,_,ok.mono k1,a1,h1,fun y M2 h2 u H2 k2 a2 r2=>?_⟩
 exact⟨x,y,M2,R,r1.mono k2,r2,a2,h2,f.mono (k1.trans k2)⟩
theorem f6{op:Operator}{g:DR2}(ho:DOp X (binaryOp op) g)(ha:JE X a ta)(hb:JE X b tb):JE X (.BinOp a op b pos) (dOp g ta tb):=⟨have ha:=ha.out;have hb:=hb.out;(AZ ho ha hb).imp fun _ _ _ h=>gL h⟩
theorem Dw{op:CmpOp}{g:DR2}(ho:DOp X (compareOp op) g)(ha:JE X a ta)(hb:JE X b tb)(hm:behindInMarks op b=false):JE X (.Compare a [op] [b] pos) (dOp g ta tb):=⟨have ha:=ha.out;have hb:=hb.out;(yP ho ha hb hm).imp fun _ _ _ h=>gL h⟩
def qC(t:DTE):DTT:=fun e M R=>t e M fun x M'=>∃ k,x = .bl k∧R k M'
theorem kn{K:JB}{H:Hp}{R:Bool→Mem→Prop}{Q:Bool→Hp→Prop}(f:xc K H R Q):eV K H (fun x M'=>∃ k,x = .bl k∧R k M') (fun x H'=>∃ k,x = .bl k∧Q k H'):=by
 rintro d M' ⟨k,rfl,r⟩ v H' kt am h
 cases h
 exact⟨k,rfl,f k M' r H' kt am⟩
theorem zw{op:CmpOp}{g:DR2}(ho:DOp X (compareOp op) g)(ha:JE X a ta)(hb:JE X b tb)(hm:behindInMarks op b=false):JT X (.Compare a [op] [b] pos) (qC (dOp g ta tb)):=⟨have ha:=ha.out;have hb:=hb.out;(yB ho ha hb hm).imp (by rintro σ H Q ⟨e,M,R,ok,am,t,f⟩;exact gL (Q:=fun x H'=>∃ k,x = .bl k∧Q k H') ⟨e,M,_,ok,am,t,kn f⟩)⟩
theorem E9{x:Expr}{t:DTE}(h:JE X x t)(he:∀ whole,isTrue x X.env whole=(do let v ← whole;standAt x.pos;holding [v] (truthy v)):=by intro _;rfl):JT X x (qC t):=⟨have h:=h.out;(Cy h he).imp (by rintro σ H Q ⟨e,M,R,ok,am,t,f⟩;exact⟨e,M,_,ok,am,t,kn f⟩)⟩
noncomputable def fI(f:Int→Int→D):D→D→Option D
 | .int i,.int j=>some (f i j)
 | _,_=>none
def gF(f:D→D→Option D):DR2:=fun x y M R=>∃ z,f x y=some z∧R z M
def gI(C:Int→Int→Prop)(f:Int→Int→D):DR2:=fun x y M R=>∃ i j,x = .int i∧y = .int j∧C i j∧R (f i j) M
theorem jr{f:Int→Int→D}{x y z:D}(h:fI f x y=some z):∃ i j,x = .int i∧y = .int j∧z=f i j:=by
 cases x with
 | int i =>
  cases y with
  | int j=>exact⟨i,j,rfl,rfl,(Option.some.inj h).symm⟩
  | _=>cases h
 | _=>cases h
theorem lM{f:Value→Value→Sem Value}{C:Int→Int→Prop}{g:Int→Int→V}{g':Int→Int→D}(h:OpR X f (rI C g))(hg:∀ i j H,Has X.K H (g i j) (g' i j)):DOp X f (gI C g') :=
 OpR.imp h (by
  rintro x y H Q ⟨dx,dy,M,R,hx,hy,am,⟨i,j,e1,e2,hc,r⟩,f⟩
  subst e1;subst e2
  cases hx;cases hy
  exact⟨i,j,rfl,rfl,hc,f _ M r _ H (KT.refl H) am (hg i j H)⟩)
theorem ju{f:Value→Value→Sem Value}{g:Int→Int→V}{g':Int→Int→D}(h:OpR X f (rI0 g))(hg:∀ i j H,Has X.K H (g i j) (g' i j)):DOp X f (gF (fI g')) :=
 OpR.imp h (by
  rintro x y H Q ⟨dx,dy,M,R,hx,hy,am,⟨z,e,r⟩,f⟩
  obtain⟨i,j,e1,e2,e3⟩:=jr e
  subst e1;subst e2;subst e3
  cases hx;cases hy
  exact⟨i,j,rfl,rfl,f _ M r _ H (KT.refl H) am (hg i j H)⟩)
theorem R3:DOp X (binaryOp .Add) (gF (fI fun i j=>.int (i+j))):=ju Dc fun _ _ _=>.int _
theorem L8:DOp X (binaryOp .Sub) (gF (fI fun i j=>.int (i - j))):=ju CW fun _ _ _=>.int _
theorem lj:DOp X (compareOp .Lt) (gF (fI fun i j=>.bl (decide (i<j)))):=ju Ft fun _ _ _=>.bl _
theorem rF:DOp X (compareOp .Gt) (gF (fI fun i j=>.bl (decide (j<i)))):=ju Fu fun _ _ _=>.bl _
theorem bG:DOp X (binaryOp .Mod) (gI (fun _ j=>0<j) fun i j=>.int (i % j)):=lM CZ fun _ _ _=>.int _
theorem lb:DOp X (binaryOp .Pow) (gI xi fun i j=>.int (i ^ j.toNat)):=lM CY fun _ _ _=>.int _
noncomputable def gU(f:Int→D):D→Mem→DK→Prop:=fun x M R=>∃ i,x = .int i∧R (f i) M
def dUn(g:D→Mem→DK→Prop)(ta:DTE):DTE:=fun e M R=>ta e M fun x M1=>g x M1 R
theorem ba(ha:JE X a ta):JE X (.UnaryOp .USub a pos) (dUn (gU fun i=>.int (-i)) ta):=⟨have ha:=ha.out;(Fm Ca ha).imp (by rintro σ H Q ⟨e,M,R,ok,am,t,f⟩;exact⟨e,M,_,ok,am,t,fun x M1 ⟨i,z,r⟩ v H1 k1 a1 r1=>by
  subst z;cases r1;exact⟨i,rfl,f _ M1 r _ H1 k1 a1 (.int _)⟩⟩)⟩
variable {tA tB':DTT} {F8:List Expr}
def Gm(t u:DTT):DTT:=fun e M R=>t e M fun c M1=>if c=true then u e M1 R else R false M1
def dOr(t u:DTT):DTT:=fun e M R=>t e M fun c M1=>if c=true then R true M1 else u e M1 R
def Ge(t:DTT):DTT:=fun e M R=>t e M fun c M1=>R (!c) M1
theorem ji(ha:JT X a tA):JW X (.BoolOp .And [a] pos) tA:=⟨have ha:=ha.out;yA ha⟩
theorem aZ(ha:JT X a tA):JW X (.BoolOp .Or [a] pos) tA:=⟨have ha:=ha.out;Cu ha⟩
theorem nu(ha:JT X a tA)(hb:JW X (.BoolOp .And (b :: F8) pos) tB'):JW X (.BoolOp .And (a :: b :: F8) pos) (Gm tA tB'):=⟨have ha:=ha.out;have hb:=hb.out;(Cv ha hb).imp (by rintro σ H Q ⟨e,M,R,ok,am,t,f⟩;exact⟨e,M,_,ok,am,t,fun k M1 h1 H1 k1 a1=>by
  cases k with
  | true=>exact⟨e,M1,R,ok.mono k1,a1,h1,f.mono k1⟩
  | false=>exact f false M1 h1 H1 k1 a1⟩)⟩
theorem eF(ha:JT X a tA)(hb:JW X (.BoolOp .Or (b :: F8) pos) tB'):JW X (.BoolOp .Or (a :: b :: F8) pos) (dOr tA tB'):=⟨have ha:=ha.out;have hb:=hb.out;(Fj ha hb).imp (by rintro σ H Q ⟨e,M,R,ok,am,t,f⟩;exact⟨e,M,_,ok,am,t,fun k M1 h1 H1 k1 a1=>by
  cases k with
  | true=>exact f true M1 h1 H1 k1 a1
  | false=>exact⟨e,M1,R,ok.mono k1,a1,h1,f.mono k1⟩⟩)⟩
theorem nq(ha:JT X a tA):JT X (.UnaryOp .Not a pos) (Ge tA):=⟨have ha:=ha.out;(Cz ha).imp (by rintro σ H Q ⟨e,M,R,ok,am,t,f⟩;exact⟨e,M,_,ok,am,t,fun k M1 h1 H1 k1 a1=>f (!k) M1 h1 H1 k1 a1⟩)⟩
theorem ay{x:Expr}{t:DTT}(h:JW X x t):JT X x t:=⟨have h:=h.out;PW.pt h⟩
def Bx(ta tb:DTE):DTE:=fun e M R=>ta e M fun x M1=>∃ c,x = .bl c∧if c=true then tb e M1 R else R (.bl false) M1
def Bq(ta:DTE):DTE:=fun e M R=>ta e M fun x M1=>∃ c,x = .bl c∧R (.bl (!c)) M1
theorem qh{op}{t:DTE}(h:JE X a t):JE X (.BoolOp op [a] pos) t:=⟨have h:=h.out;CO h⟩
theorem qj(ha:JE X a ta)(hb:JE X (.BoolOp .And (b :: F8) pos) tb):JE X (.BoolOp .And (a :: b :: F8) pos) (Bx ta tb):=⟨have ha:=ha.out;have hb:=hb.out;(CT ha hb).imp (by rintro σ H Q ⟨e,M,R,ok,am,t,f⟩;exact⟨e,M,_,ok,am,t,fun x M1 ⟨k,z,h1⟩ v H1 k1 a1 r1=>by
  subst z;cases r1
  refine⟨k,rfl,?_⟩
  cases k with
  | true=>exact⟨e,M1,R,ok.mono k1,a1,h1,f.mono k1⟩
  | false=>exact f _ M1 h1 _ H1 k1 a1 (.bl _)⟩)⟩
theorem qi(ha:JE X a ta):JE X (.UnaryOp .Not a pos) (Bq ta):=⟨have ha:=ha.out;(CP ha).imp (by rintro σ H Q ⟨e,M,R,ok,am,t,f⟩;exact⟨e,M,_,ok,am,t,fun x M1 ⟨k,z,h1⟩ v H1 k1 a1 r1=>by
  subst z;cases r1
  exact⟨k,rfl,f _ M1 h1 _ H1 k1 a1 (.bl _)⟩⟩)⟩
def dIf(t:DTT)(ta tb:DTE):DTE:=fun e M R=>t e M fun c M1=>if c=true then ta e M1 R else tb e M1 R
theorem vQ(hc:JT X c tA)(ha:JE X a ta)(hb:JE X b tb):JE X (.IfExp c a b pos) (dIf tA ta tb):=⟨have hc:=hc.out;have ha:=ha.out;have hb:=hb.out;(vg hc ha hb).imp (by rintro σ H Q ⟨e,M,R,ok,am,t,f⟩;exact⟨e,M,_,ok,am,t,fun k M1 h1 H1 k1 a1=>by
  cases k with
  | true=>exact⟨e,M1,R,ok.mono k1,a1,h1,f.mono k1⟩
  | false=>exact⟨e,M1,R,ok.mono k1,a1,h1,f.mono k1⟩⟩)⟩
def Gf:DTA:=fun _ M R=>R [] M
def Bv(ta:DTE)(tr:DTA):DTA:=fun e M R=>ta e M fun x M1=>tr e M1 fun xs M2=>R (x :: xs) M2
variable {es:List Expr} {tr:DTA}
theorem d3:JA X [] Gf:=⟨CU.imp (by rintro σ H Q ⟨e,M,R,ok,am,t,f⟩;exact f [] M t [] H (KT.refl H) am .nil)⟩
theorem a8(ha:JE X a ta)(hr:JA X es tr)(hs:starEach (a :: es) X.env=(false,eval a X.env) :: starEach es X.env:=by rfl):JA X (a :: es) (Bv ta tr):=⟨have ha:=ha.out;have hr:=hr.out;(yT ha hr hs).imp (by rintro σ H Q ⟨e,M,R,ok,am,t,f⟩;exact⟨e,M,_,ok,am,t,fun x M1 h1 v H1 k1 a1 r1 =>
  ⟨e,M1,_,ok.mono k1,a1,h1,fun xs M2 h2 vs H2 k2 a2 r2=>f _ M2 h2 _ H2 (k1.trans k2) a2 (.cons (r1.mono k2) r2)⟩⟩)⟩
def FY(t:DTA):DTE:=fun e M R=>t e M fun ds M1=>ds.length≤sizeLine∧R (.tup ds) M1
def Gg(t:DTA):DTE:=fun e M R=>t e M fun ds M1=>ds.length≤sizeLine∧∀ p,M1 p=none→R (.ref p) (B8 M1 p (.lst ds))
theorem j5{x1}(h:JA X es tr):JE X (.Tuple es x1 pos) (FY tr):=⟨have h:=h.out;(CM h).imp (by rintro σ H Q ⟨e,M,R,ok,am,t,f⟩;exact⟨e,M,_,ok,am,t,fun ds M1 ⟨hz,h1⟩ vs H1 k1 a1 r1=>by
  refine⟨by rw[r1.length];exact hz,fun p hp=>?_⟩
  have k2:KT H1 (upd H1 p (.tup vs)):=KT.alloc hp
  exact f _ M1 h1 _ _ (k1.trans k2) (a1.alloc hp) (.tup (SqT.of i3) (r1.mono k2))⟩)⟩
theorem eG(h:JA X es tr):JE X (.List es pos) (Gg tr):=⟨have h:=h.out;(vd h).imp (by rintro σ H Q ⟨e,M,R,ok,am,t,f⟩;exact⟨e,M,_,ok,am,t,fun ds M1 ⟨hz,h1⟩ vs H1 k1 a1 r1=>by
  refine⟨by rw[r1.length];exact hz,fun p hp=>?_⟩
  have k2:KT H1 (upd H1 p (.lst vs)):=KT.alloc hp
  exact f _ _ (h1 p (a1.fresh hp)) _ _ (k1.trans k2) (a1.new hp r1) (.ref p)⟩)⟩
theorem HasL.at{K:JB}{H:Hp}{vs:List V}{ds:List D}(h:HasL K H vs ds){i:Int}{z:D}(e:atI ds i=some z):∃ v,atI vs i=some v∧Has K H v z:=by
 unfold atI at e ⊢
 rw[h.length]
 cases q:ixN ds.length i with
 | none=>rw[q]at e;cases e
 | some j =>
  rw[q]at e
  exact h.get e
def DIx(X:Cx)(g:DR2):Prop:=IxR X (upR X.K g)
theorem FH{g:DR2}(hr:DIx X g)(ha:JE X a ta)(hb:JE X b tb)(hs:jK b):JE X (.Subscript a b pos) (dOp g ta tb):=⟨have ha:=ha.out;have hb:=hb.out;(Fo hr ha hb hs).imp fun _ _ _ h=>gL h⟩
noncomputable abbrev DXK:=Value→Mem→Prop
noncomputable abbrev DSp:=List D→Mem→DK→DXK→Prop
def Eb(K:JB)(H:Hp)(Y:DXK)(E:XK):Prop:=∀ c M',Y c M'→∀ o H',KT H H'→m8 K H' M'→E c o H'
noncomputable def km(K:JB)(sp:DSp):Sp:=fun vs H Q E=>∃ ds M R Y,HasL K H vs ds∧m8 K H M∧sp ds M R Y∧eV K H R Q∧Eb K H Y E
def qE(sp:DSp)(dds:List D)(Y:DXK)(t:DTA):DTE:=fun e M R=>t e M fun ds M1=>sp (ds++dds) M1 R Y
end
section
variable {X:Cx} {CX:CXT} {k:Nat} {f C:Addr} {fd:FuncData} {ps:List Str} {sp:DSp} {dvs:List V} {dds:List D} {ds:List Value} {E:XK} {Y:DXK} {x m:Str} {p pos apos:Pos} {e o:Expr} {es:List Expr} {t:DTA}
theorem DJ(F:P1 X.prog X.w X.K X.mg X.base CX k f fd ps (km X.K sp))(hr:F5 k X.A)(hg:Gl X x)(hm:X.mg x=some (.ref f))(hk:PySem.W.keepIn X.K (.ref f)=true)(hb:eW X.K fd ps ds)(hd:i8 dvs ds)(hdd:∀ H,HasL X.K H dvs dds)(hx:jL CX X E)(hY:∀ H,Eb X.K H Y E)
  (ha:DPA X (e :: es) t) (hdb:(x == ("__debug__" : Str))=false:=by decide) (he:starEach (e :: es) X.env=(false,eval e X.env) :: starEach es X.env:=by rfl) (hpl:(backTo pos (starEach es X.env)).any (·.1)=false:=by rfl) :
  DPE X (.Call (.Name x p) (e :: es) [] pos) (qE sp dds Y t) :=
 (yQ F hr hg hm hk hb hd hx ha hdb he hpl).imp (by rintro σ H Q ⟨e,M,R,ok,am,t,f⟩;exact⟨e,M,_,ok,am,t,fun xs M1 h1 vs H1 k1 a1 r1 =>
  ⟨xs++dds,M1,R,Y,r1.append (hdd H1),a1,h1,f.mono k1,hY H1⟩⟩)
end
section
variable {X:Cx} {st:Stmt} {F8:List Stmt} {t u:DTS} {e:Expr} {te:DTE} {pos:Pos}
def Br:DTS:=fun F e M=>F.nx e M
def Ga(t u:DTS):DTS:=fun F e M=>t { F with nx:=u F } e M
theorem g9:JSs X [] Br:=⟨yD.imp (by rintro E σ H ⟨e,M,F,ok,am,t,f⟩;exact f.nx e M t σ H (KT.refl H) am ok)⟩
theorem d5(h1:JS X st t)(h2:JSs X F8 u):JSs X (st :: F8) (Ga t u):=⟨have h1:=h1.out;have h2:=h2.out;(kN h1 h2).imp (by rintro E σ H ⟨e,M,F,ok,am,t,f⟩;exact⟨e,M,{ F with nx:=u F },ok,am,t,⟨fun e' M' h σ' H' k a o=>⟨e',M',F,o,a,h,f.mono k⟩,f.rt,f.bk,f.ct⟩⟩)⟩
theorem d6(h1:JS X st t):JSs X [st] t:=⟨have h1:=h1.out;yC h1⟩
def Bu(te:DTE):DTS:=fun F e M=>te e M fun _ M1=>F.nx e M1
theorem R4(he:JE X e te)(hs:swapsWith e none pos.line X.env=pure false:=by rfl):JS X (.Expr e pos) (Bu te):=⟨have he:=he.out;(yF he hs).imp (by rintro E σ H ⟨e,M,F,ok,am,t,f⟩;exact⟨e,M,_,ok,am,t,fun d M1 h1 v H1 k1 a1 r1=>f.nx e M1 h1 σ H1 k1 a1 (ok.mono k1)⟩)⟩
def Gb(te:DTE):DTS:=fun F e M=>te e M F.rt
theorem d9(he:JE X e te):JS X (.Return (some e) pos) (Gb te):=⟨have he:=he.out;(CB he).imp (by rintro E σ H ⟨e,M,F,ok,am,t,f⟩;exact⟨e,M,_,ok,am,t,f.rt⟩)⟩
def Gh(c:DTT)(t u:DTS):DTS:=fun F e M=>c e M fun b M1=>if b=true then t F e M1 else u F e M1
theorem j0{c:Expr}{a b:List Stmt}{tc:DTT}(hc:JT X c tc)(ha:JSs X a t)(hb:JSs X b u):JS X (.If c a b pos) (Gh tc t u):=⟨have hc:=hc.out;have ha:=ha.out;have hb:=hb.out;(Fl hc ha hb).imp (by rintro E σ H ⟨e,M,F,ok,am,t,f⟩;exact⟨e,M,_,ok,am,t,fun k M1 h1 H1 k1 a1=>by
  cases k with
  | true=>exact⟨e,M1,F,ok.mono k1,a1,h1,f.mono k1⟩
  | false=>exact⟨e,M1,F,ok.mono k1,a1,h1,f.mono k1⟩⟩)⟩
def wA:DTS:=fun _ _ _=>False
theorem rL:JS X st wA:=⟨uW.imp (by rintro E σ H ⟨_,_,_,_,_,t,_⟩;exact t)⟩
noncomputable abbrev DTG:=D→Ev→Mem→(Ev→Mem→Prop)→Prop
noncomputable abbrev S5:=List D→Ev→Mem→(Ev→Mem→Prop)→Prop
def upG(K:JB)(g:DTG):TG:=fun v σ H Q=>∃ d e M R,Has K H v d∧u8 K H σ e∧m8 K H M∧g d e M R∧mj K H R Q
def GD(K:JB)(g:S5):TGs:=fun vs σ H Q=>∃ ds e M R,HasL K H vs ds∧u8 K H σ e∧m8 K H M∧g ds e M R∧mj K H R Q
abbrev DPG(X:Cx)(x:Expr)(g:DTG):Prop:=PG X x (upG X.K g)
abbrev Ht(X:Cx)(x:List Expr)(g:S5):Prop:=PGs X x (GD X.K g)
structure JG(X:Cx)(x:Expr)(g:DTG):Prop where
 out:DPG X x g
structure JGs(X:Cx)(x:List Expr)(g:S5):Prop where
 out:Ht X x g
def bf(i:Nat):DTG:=fun d e M R=>R (e.set i (some d)) M
theorem vP{i:Nat}{x:Str}(hN:X.N.Nodup)(hi:X.N[i]? = some x)(hx:Loc X.env.scope x)(hf:X.fn x=true∨X.env.scope.names.lookup x=some .local:=by first|exact .inl rfl|exact .inr rfl|assumption):JG X (.Name x pos) (bf i):=⟨PG.imp (yL hN hi hx hf) (by rintro v σ H Q ⟨d,e,M,R,r,ok,am,g,f⟩;exact f _ M g _ H (KT.refl H) am (ok.set r i))⟩
def Bn:S5:=fun ds e M R=>ds=[]∧R e M
def wx(t:DTG)(u:S5):S5:=fun ds e M R=>∃ d r,ds=d :: r∧t d e M fun e' M'=>u r e' M' R
theorem m9:JGs X [] Bn:=⟨PGs.imp yJ (by
 rintro v σ H Q ⟨ds,e,M,R,r,ok,am,⟨z,g⟩,f⟩
 subst z;cases r;exact⟨rfl,f e M g σ H (KT.refl H) am ok⟩)⟩
end
section
variable {X:Cx} {st:Stmt} {F8:List Stmt} {t u:DTS} {e:Expr} {te:DTE} {pos:Pos}
theorem e6{x:Expr}{xs:List Expr}{t:DTG}{u:S5}(h1:JG X x t)(h2:JGs X xs u)
  (hs:(assignEach (x :: xs) X.env).map (·.2)=assign x X.env :: (assignEach xs X.env).map (·.2):=by rfl):JGs X (x :: xs) (wx t u):=⟨have h1:=h1.out;have h2:=h2.out;PGs.imp (vb h1 h2 hs) (by
  rintro vs σ H Q ⟨ds,e,M,R,r,ok,am,⟨d,dr,z,g⟩,f⟩
  subst z
  cases r with
  | cons r rr=>exact⟨_,_,rfl,d,e,M,_,r,ok,am,g,fun e1 M1 h1 σ1 H1 k1 a1 ok1=>⟨dr,e1,M1,R,rr.mono k1,ok1,a1,h1,f.mono k1⟩⟩)⟩
def lN(n:Nat)(t:S5):DTG:=fun d e M R=>∃ ds,d = .tup ds∧ds.length=n∧t ds e M R
theorem p8{xs:List Expr}{k:Nat}{t:S5}{n:Nat}(hc:X.calm=true)(h:JGs X xs t)
  (hn:(assignEach xs X.env).length=n:=by rfl) (hst:(assignEach xs X.env).findIdx? (·.1)=none:=by rfl):JG X (.Tuple xs k pos) (lN n t):=⟨have h:=h.out;PG.imp (CJ hc h hn hst) (by
  rintro v σ H Q ⟨d,e,M,R,r,ok,am,⟨ds,z,hl,g⟩,f⟩
  subst z
  cases r with
  | tup s l=>exact⟨_,_,rfl,s,by rw[l.length];exact hl,ds,e,M,R,l,ok,am,g,f⟩)⟩
noncomputable abbrev xg:=D→D→D→Mem→(Mem→Prop)→Prop
noncomputable def FQ:xg:=fun o i v M R=>∃ p ds k j,o = .ref p∧i = .int k∧M p=some (.lst ds)∧ixN ds.length k=some j∧R (B8 M p (.lst (ds.set j v)))
def Bm(to ti:DTE)(t:xg):DTG:=fun d e M R=>to e M fun o M1=>ti e M1 fun i M2=>t o i d M2 fun M3=>R e M3
theorem qg{o i:Expr}{to ti:DTE}(ho:JE X o to)(hi:JE X i ti)
  (ha:∀ v,assign (.Subscript o i pos) X.env v=(do
   let ov ← holding [v] (eval o X.env)
   let iv ← holding [v,ov] (eval i X.env)
   standAt pos
   holding [v,ov,iv] (setItem ov iv v)
   release [v,ov,iv] []):=by intro _;rfl):JG X (.Subscript o i pos) (Bm to ti FQ):=⟨have ho:=ho.out;have hi:=hi.out;PG.imp (CK ho hi uw ha) fun v σ H Q ⟨d,e,M,R,r,ok,am,g,f⟩ =>
  ⟨e,M,_,ok,am,g,fun x M1 h1 vo H1 k1 a1 r1=>⟨e,M1,_,ok.mono k1,a1,h1,fun y M2 ⟨p,ds,k,j,e1,e2,e3,e4,h2⟩ vi H2 k2 a2 r2=>by
   subst e1;subst e2
   cases r1;cases r2
   obtain⟨xs,hx,l⟩:=a2.lst e3
   have kt:KT H H2:=k1.trans k2
   have kw:KT H2 (upd H2 p (.lst (xs.set j v))):=KT.write hx
   exact⟨p,xs,k,j,rfl,rfl,hx,by rw[l.length];exact e4,f e _ h2 σ _ (kt.trans kw) (a2.write hx (l.set (r.mono kt) j)) ((ok.mono kt).mono kw)⟩⟩⟩⟩
def wC(te:DTE)(g:DTG):DTS:=fun F e M=>te e M fun x M1=>g x e M1 F.nx
theorem A7{tg x:Expr}{tx:DTE}{g:DTG}(he:JE X x tx)(hg:JG X tg g)(hs:swapsWithSole [tg] x pos.line X.env=pure false:=by rfl)(hw:swappedStores [tg] x X.env=pure none:=by rfl)
  (h1:(assignEach [tg] X.env).map (·.2)=[assign tg X.env]:=by rfl):JS X (.Assign [tg] x pos) (wC tx g):=⟨have he:=he.out;have hg:=hg.out;(CG he hg hs hw h1).imp (by rintro E σ H ⟨e,M,F,ok,am,t,f⟩;exact⟨e,M,_,ok,am,t,fun d M1 h1 v H1 k1 a1 r1=>⟨d,e,M1,F.nx,r1,ok.mono k1,a1,h1,f.nx.mono k1⟩⟩)⟩
theorem zv{i:Nat}{x:Str}{tx:DTE}{pos':Pos}(hN:X.N.Nodup)(hi:X.N[i]? = some x)(hx:Loc X.env.scope x)(he:JE X e tx)(hs:swapsWith e (some (.Name x pos')) pos.line X.env=pure false:=by rfl)(hf:X.fn x=true∨X.env.scope.names.lookup x=some .local:=by first|exact .inl rfl|exact .inr rfl|assumption):JS X (.Assign [.Name x pos'] e pos) (wC tx (bf i)):=⟨have he:=he.out;(CA hN hi hx he hs hf).imp (by rintro E σ H ⟨e,M,F,ok,am,t,f⟩;exact⟨e,M,_,ok,am,t,fun d M1 h1 v H1 k1 a1 r1=>f.nx _ M1 h1 _ H1 k1 a1 ((ok.mono k1).set r1 i)⟩)⟩
def Gd(i j:Nat)(ta:DTA):DTS:=fun F e M=>ta e M fun ds M1=>∃ x y,ds=[x,y]∧F.nx ((e.set i (some x)).set j (some y)) M1
theorem cC{i j:Nat}{x y:Str}{a b:Expr}{ta:DTA}{px py pt:Pos}{kt k2 pt2}(hc:X.calm=true)(hN:X.N.Nodup)(hi:X.N[i]? = some x)(hj:X.N[j]? = some y)(hij:i≠j)
  (hx:X.env.scope.names.lookup x=some .local) (hy:X.env.scope.names.lookup y=some .local) (ha:JA X [a,b] ta)
  (hw:swappedStores [.Tuple [.Name x px,.Name y py] kt pt] (.Tuple [a,b] k2 pt2) X.env=pure (some [x,y]):=by rfl)
  (hs:swapsWithSole [.Tuple [.Name x px,.Name y py] kt pt] (.Tuple [a,b] k2 pt2) pos.line X.env=pure false:=by rfl):JS X (.Assign [.Tuple [.Name x px,.Name y py] kt pt] (.Tuple [a,b] k2 pt2) pos) (Gd i j ta):=⟨have ha:=ha.out;(CC hc hN hi hj hij hx hy ha hw hs).imp (by rintro E σ H ⟨e,M,F,ok,am,t,f⟩;exact⟨e,M,_,ok,am,t,fun ds M1 ⟨x,y,z,h1⟩ vs H1 k1 a1 r1=>by
  subst z
  cases r1 with
  | cons r1 rr =>
   cases rr with
   | cons r2 rr =>
    cases rr
    exact⟨_,_,rfl,f.nx _ M1 h1 _ H1 k1 a1 (((ok.mono k1).set r1 i).set r2 j)⟩⟩)⟩
def wz(c:DTT)(tb:DTS):DTS:=fun F e M=>∃ W:Nat→Ev→Mem→Prop,(∃ m,W m e M)∧∀ m e M,W m e M →
 c e M fun b M1=>if b=true then tb { F with nx:=fun e' M'=>∃ m',m'<m∧W m' e' M',ct:=fun e' M'=>∃ m',m'<m∧W m' e' M',bk:=F.nx } e M1 else F.nx e M1
theorem aY{c:Expr}{body:List Stmt}{tc:DTT}{tb:DTS}(hp:PassesOwn (model X.prog X.w) X.A X.env X.xe)(hc:JT X c tc)(hb:JSs X body tb):JS X (.While c body [] pos) (wz tc tb):=⟨have hc:=hc.out;have hb:=hb.out;(uV hp hc hb).imp (by
  rintro E σ H ⟨e,M,F,ok,am,⟨W,⟨m0,w0⟩,turn⟩,f⟩
  refine⟨fun m σ' H'=>∃ e' M',KT H H'∧u8 X.K H' σ' e'∧m8 X.K H' M'∧W m e' M',⟨m0,e,M,KT.refl H,ok,am,w0⟩,?_⟩
  rintro m σ1 H1 ⟨e1,M1,k1,ok1,a1,w1⟩
  refine⟨e1,M1,_,ok1,a1,turn m e1 M1 w1,fun b M2 h2 H2 k2 a2=>?_⟩
  cases b with
  | false=>exact f.nx e1 M2 h2 σ1 H2 (k1.trans k2) a2 (ok1.mono k2)
  | true =>
   refine⟨fun σ' H'=>∃ m',m'<m∧∃ e' M',KT H H'∧u8 X.K H' σ' e'∧m8 X.K H' M'∧W m' e' M',fun σ' H' h=>h,e1,M2,_,ok1.mono k2,a2,h2,?_⟩
   have kk:=k1.trans k2
   exact⟨fun e' M' ⟨m',l,w⟩ σ' H' k' a' o'=>⟨m',l,e',M',kk.trans k',o',a',w⟩,f.rt.mono kk,f.nx.mono kk,fun e' M' ⟨m',l,w⟩ σ' H' k' a' o'=>⟨m',l,e',M',kk.trans k',o',a',w⟩⟩)⟩
noncomputable abbrev DTI:=Ev→Mem→(List D→(Mem→Prop)→Mem→Prop)→Prop
def Gj(ti:DTI)(g:DTG)(tb:DTS):DTS:=fun F e M=>ti e M fun ds stay M1=>∃ W:Nat→Ev→Mem→Prop,W 0 e M1∧(∀ i e M,i≤ds.length→W i e M→stay M) ∧
 (∀(i:Nat) (d:D) e M,ds[i]? = some d→W i e M→g d e M fun e2 M2=>tb { F with nx:=W (i+1),ct:=W (i+1),bk:=F.nx } e2 M2)∧∀ e M,W ds.length e M→F.nx e M
noncomputable def R1(lo:Int)(n:Nat):List D:=(Mm n).map fun(i:Nat)=>D.int (lo+(i:Int))
theorem E8(lo:Int)(n:Nat):(R1 lo n).length=n:=by simp[R1]
theorem mW{lo:Int}{n i:Nat}(h:i<n):(R1 lo n)[i]? = some (D.int (lo+(i:Int))):=by simp[R1,h]
def Bl(ta:DTA):DTI:=fun e M R=>ta e M fun ds M1=>∃ j:Int,ds=[.int j]∧-(2 ^ 62)≤j∧j<2 ^ 62∧R (R1 0 j.toNat) (fun _=>True) M1
theorem wd{K:JB}{H H1 H2:Hp}{F:aI}{E:ml}{W:Nat→Ev→Mem→Prop}{g:DTG}{tb:DTS}{i:Nat}{x:V}{d:D}{σ2:St}{e2:Ev}{M2:Mem}(f:Fit K H F E)(k1:KT H H1)(k2:KT H1 H2)(ok2:u8 K H2 σ2 e2)(a2:m8 K H2 M2)(r:Has K H2 x d)
  (h:g d e2 M2 fun e3 M3=>tb { F with nx:=W (i+1),ct:=W (i+1),bk:=F.nx } e3 M3) :
  upG K g x σ2 H2 fun σ3 H3=>upS K tb { E with nx:=fun σ' H'=>∃ e' M',KT H1 H'∧u8 K H' σ' e'∧m8 K H' M'∧W (i+1) e' M',ct:=fun σ' H'=>∃ e' M',KT H1 H'∧u8 K H' σ' e'∧m8 K H' M'∧W (i+1) e' M',bk:=E.nx } σ3 H3:=by
 refine⟨d,e2,M2,_,r,ok2,a2,h,fun e3 M3 h3 σ3 H3 k3 a3 ok3=>⟨e3,M3,_,ok3,a3,h3,?_⟩⟩
 have kk:KT H H3:=k1.trans (k2.trans k3)
 exact⟨fun e' M' w σ' H' k' a' o'=>⟨e',M',k2.trans (k3.trans k'),o',a',w⟩,f.rt.mono kk,f.nx.mono kk,fun e' M' w σ' H' k' a' o'=>⟨e',M',k2.trans (k3.trans k'),o',a',w⟩⟩
variable {tg iter:Expr} {body:List Stmt} {ti:DTE} {ta:DTA} {g:DTG} {tb:DTS}
theorem Has.il{K:JB}{H:Hp}{v:V}{ds:List D}(h:Has K H v (.vl ds)):∃ a xs,v = .ref a∧SqL K H a xs∧HasL K H xs ds:=by
 cases h with
 | vl h l=>exact⟨_,_,rfl,h.elim (fun⟨o,e⟩=>.inl (.inr ⟨o,e⟩)) (fun k=>k H),l⟩
end
section
variable {P:Program} {w:World} {K:JB} {mg:Str→Option Value} {base:Heap}
end
section
variable {X:Cx} {x:Str} {p pos:Pos} {e:Expr} {es:List Expr} {t:DTA} {id T:String}
noncomputable abbrev DRC:=List D→Mem→DK→Prop
noncomputable def upC(K:JB)(g:DRC):List V→Hp→VK→Prop:=fun xs H Q=>∃ ds M R,HasL K H xs ds∧m8 K H M∧g ds M R∧eV K H R Q
def bL(X:Cx)(f:Value)(g:DRC):Prop:=C3 X f (upC X.K g)
def dCB(g:DRC)(t:DTA):DTE:=fun e M R=>t e M fun ds M1=>g ds M1 R
theorem BB{g:DRC}{σ:St}{H:Hp}{Q:VK}(h:up X.K (dCB g t) σ H Q):tCB (upC X.K g) (upA X.K t) σ H Q:=by
 obtain⟨e,M,R,ok,am,t,f⟩:=h
 exact⟨e,M,_,ok,am,t,fun ds M1 h1 vs H1 k1 a1 r1=>⟨ds,M1,R,r1,a1,h1,f.mono k1⟩⟩
theorem C3.imp{f:Value}{r r':List V→Hp→VK→Prop}(h:C3 X f r)(i:∀ xs H Q,r' xs H Q→r xs H Q):C3 X f r':=fun pins s σ H xs us Q I rv q=>h pins s σ H xs us Q I rv (i xs H Q q)
theorem HasL.one{K:JB}{H:Hp}{vs:List V}{d:D}(h:HasL K H vs [d]):∃ v,vs=[v]∧Has K H v d:=by
 cases h with
 | cons r rr=>cases rr;exact⟨_,rfl,r⟩
theorem HasL.two{K:JB}{H:Hp}{vs:List V}{d d':D}(h:HasL K H vs [d,d']):∃ v v',vs=[v,v']∧Has K H v d∧Has K H v' d':=by
 cases h with
 | cons r rr=>cases rr with|cons r2 rr=>cases rr;exact⟨_,_,rfl,r,r2⟩
def FV:DRC:=fun ds M R=>∃ i:Int,ds=[.int i]∧R (.int (i.natAbs:Int)) M
theorem bK:bL X (.builtin "abs") FV:=C3.imp wL (by
 rintro xs H Q ⟨ds,M,R,hl,am,⟨i,z,r⟩,f⟩
 subst z
 obtain⟨v,rfl,h⟩:=hl.one
 cases h
 have e:(if i<0 then -i else i)=(i.natAbs:Int):=by split<;>omega
 exact⟨i,rfl,by rw[e];exact f _ M r _ H (KT.refl H) am (.int _)⟩)
def FR:DRC:=fun ds M R=>∃ i j:Int,ds=[.int i,.int j]∧R (.int (max i j)) M
theorem wO(hc:X.calm=true):bL X (.builtin "max") FR:=C3.imp (rY hc) (by
 rintro xs H Q ⟨ds,M,R,hl,am,⟨i,j,z,r⟩,f⟩
 subst z
 obtain⟨v,v',rfl,h,h'⟩:=hl.two
 cases h;cases h'
 have e:(if j > i then j else i)=max i j:=by
  rw[Int.max_def];split<;>split<;>omega
 exact⟨i,j,rfl,by rw[e];exact f _ M r _ H (KT.refl H) am (.int _)⟩)
noncomputable def Dq(M:Mem):D→Option Nat
 | .tup ds=>some ds.length
 | .ref p=>match M p with
  | some (.lst ds)=>some ds.length
  | _=>none
 | .vl ds=>some ds.length
 | _=>none
def rQ:DRC:=fun ds M R=>∃ d n,ds=[d]∧Dq M d=some n∧R (.int (n:Int)) M
theorem gD:bL X (.builtin "len") rQ:=C3.imp jE (by
 rintro xs H Q ⟨ds,M,R,hl,am,⟨d,n,z,hn,r⟩,f⟩
 subst z
 obtain⟨v,rfl,h⟩:=hl.one
 cases d with
 | tup es =>
  cases h with
  | tup s l =>
   cases hn
   exact⟨_,_,rfl,.inr s,by rw[l.length];exact f _ M r _ H (KT.refl H) am (.int _)⟩
 | ref p =>
  cases h
  unfold Dq at hn
  cases q:M p with
  | none=>simp[q]at hn
  | some o =>
   cases o with
   | lst es =>
    simp only[q]at hn
    cases hn
    obtain⟨ys,hy,l⟩:=am.lst q
    exact⟨p,ys,rfl,.inl (SqL.of hy),by rw[l.length];exact f _ M r _ H (KT.refl H) am (.int _)⟩
   | ins C fs=>simp[q]at hn
 | vl es =>
  cases hn
  obtain⟨a,xs,rfl,sq,l⟩:=h.il
  exact⟨a,_,rfl,.inl sq,by rw[l.length];exact f _ M r _ H (KT.refl H) am (.int _)⟩
 | _=>cases hn)
end
theorem S2:bootBuiltins "abs" = some (.builtin "abs"):=by decide +kernel
theorem nN:bootBuiltins "max" = some (.builtin "max"):=by decide +kernel
theorem bo:bootBuiltins "len" = some (.builtin "len"):=by decide +kernel
theorem V3:bootBuiltins "isinstance" = some (.builtin "isinstance"):=by decide +kernel
theorem DR:bootBuiltins "int" = some (.type "int"):=by decide +kernel
theorem zV:bootBuiltins "bool" = some (.type "bool"):=by decide +kernel
theorem me:bootBuiltins "tuple" = some (.type "tuple"):=by decide +kernel
theorem qK:bootBuiltins "list" = some (.type "list"):=by decide +kernel
section
variable {X:Cx} {a b c:Expr} {ta tb tc:DTE} {pos:Pos}
theorem yW:OpR X (binaryOp .Mult) (rI IntMulOk fun i j=>.int (i*j)):=opI fun _ _ _ _ _ _ _ hc q=>mul_int q hc
def CFd(i j:Int):Prop:=j≠0∧j.natAbs.log2<9000
theorem vp:OpR X (binaryOp .FloorDiv) (rI CFd fun i j=>.int (i.fdiv j)):=opI fun _ _ _ _ _ _ _ hc q=>floordiv_int hc.1 q (.inl (PyProof.noPylong_of_log2 hc.2))
theorem o8:DOp X (binaryOp .Mult) (gI IntMulOk fun i j=>.int (i*j)):=lM yW fun _ _ _=>.int _
theorem aV:DOp X (binaryOp .FloorDiv) (gI CFd fun i j=>.int (i.fdiv j)):=lM vp fun _ _ _=>.int _
noncomputable def ixD(M:Mem):D→D→Option D
 | .tup ds,.int i=>atI ds i
 | .ref p,.int i=>match M p with
  | some (.lst ds)=>atI ds i
  | _=>none
 | .vl ds,.int i=>atI ds i
 | _,_=>none
def gIx:DR2:=fun x y M R=>∃ z,ixD M x y=some z∧R z M
theorem IxR.or'{r r':R2}(h:IxR X r)(h':IxR X r'){g:R2}(i:∀ x y H Q,g x y H Q→r x y H Q∨r' x y H Q):IxR X g:=IxR.imp (IxR.or h h') i
theorem FL:DIx X gIx:=IxR.or' Dx zy (by
 rintro x y H Q ⟨dx,dy,M,R,hx,hy,am,⟨z,e,r⟩,f⟩
 cases dy with
 | int i =>
  cases hy
  cases dx with
  | tup ds =>
   cases hx with
   | tup s l =>
    obtain⟨v,h1,h2⟩:=l.at (show atI ds i=some z from e)
    exact .inl ⟨_,_,i,v,rfl,rfl,s,h1,f z M r v H (KT.refl H) am h2⟩
  | ref p =>
   cases hx
   unfold ixD at e
   cases q:M p with
   | none=>simp[q]at e
   | some o =>
    cases o with
    | lst ds =>
     simp only[q]at e
     obtain⟨xs,h1,h2⟩:=am.lst q
     obtain⟨v,h3,h4⟩:=h2.at e
     exact .inr ⟨_,_,i,v,rfl,rfl,SqL.of h1,h3,f z M r v H (KT.refl H) am h4⟩
    | ins C fs=>simp[q]at e
  | vl ds =>
   obtain⟨a,xs,rfl,sq,l⟩:=hx.il
   obtain⟨v,h1,h2⟩:=l.at (show atI ds i=some z from e)
   exact .inr ⟨_,_,i,v,rfl,rfl,sq,h1,f z M r v H (KT.refl H) am h2⟩
  | _=>simp[ixD]at e
 | _=>cases dx<;>simp[ixD]at e)
theorem K6{M:Mem}{p:Addr}{ds:List D}{i:Int}{z:D}(m:M p=some (.lst ds))(h:atI ds i=some z):ixD M (.ref p) (.int i)=some z:=by
 unfold ixD;simp only[m];exact h
noncomputable def isD:D→D→Option Bool
 | .bl a,.bl b=>some (a == b)
 | .non,.non=>some true
 | .bl _,.non=>some false
 | .int _,.non=>some false
 | .str _,.non=>some false
 | .ref _,.non=>some false
 | .tup _,.non=>some false
 | .vl _,.non=>some false
 | .exc _,.non=>some false
 | _,_=>none
theorem gx{x y:D}{b:Bool}(h:isD x y=some b):(∃ p q,x = .bl p∧y = .bl q∧b=(p == q))∨(y = .non∧((x = .non∧b=true)∨(x ≠ .non∧b=false))):=by
 cases x<;>cases y<;>simp[isD]at h<;>simp[h]
theorem qq{K:JB}{H:Hp}{v:V}{x:D}(h:Has K H v x)(n:x ≠ .non):v ≠ .non:=by
 intro e;subst e;cases h;exact n rfl
def gIs(neg:Bool):DR2:=fun x y M R=>∃ b,isD x y=some b∧R (.bl (neg.xor b)) M
theorem rE:DOp X (compareOp .Is) (gIs false):=by
 intro pins s σ H x y v u Q I rx ry h
 obtain⟨dx,dy,M,R,hx,hy,am,⟨b,e,r⟩,f⟩:=h
 have fin:EP X pins σ Q (.bool b) s:=⟨.bl b,H,I,rfl,by have:=f _ M r (.bl b) H (KT.refl H) am (by simpa using Has.bl (K:=X.K) (H:=H) b);exact this⟩
 rcases gx e with⟨p,q,rfl,rfl,rfl⟩|⟨rfl,hx'⟩
 ·cases hx;cases hy;cases rx;cases ry
  exact is_bool fin
 ·cases hy;cases ry
  refine is_none_gen ?_
  rw[o7.none_iff rx]
  rcases hx' with⟨rfl,rfl⟩|⟨n,rfl⟩
  ·cases hx;exact fin
  ·rw[decide_eq_false (qq hx n)];exact fin
theorem pU:DOp X (compareOp .IsNot) (gIs true):=by
 intro pins s σ H x y v u Q I rx ry h
 obtain⟨dx,dy,M,R,hx,hy,am,⟨b,e,r⟩,f⟩:=h
 have fin:EP X pins σ Q (.bool (!b)) s:=⟨.bl (!b),H,I,rfl,by have:=f _ M r (.bl (!b)) H (KT.refl H) am (by simpa using Has.bl (K:=X.K) (H:=H) (!b));exact this⟩
 rcases gx e with⟨p,q,rfl,rfl,rfl⟩|⟨rfl,hx'⟩
 ·cases hx;cases hy;cases rx;cases ry
  exact isnot_bool fin
 ·cases hy;cases ry
  refine isnot_none_gen ?_
  rw[o7.none_iff rx]
  rcases hx' with⟨rfl,rfl⟩|⟨n,rfl⟩
  ·cases hx;exact fin
  ·rw[decide_eq_false (qq hx n)];exact fin
mutual
inductive PyR (M:Mem):D→PyData→Prop
 | non:PyR M .non .none
 | bl (b:Bool):PyR M (.bl b) (.bool b)
 | int (i:Int):PyR M (.int i) (.int i)
 | str (x:Str):PyR M (.str x) (.str x)
 | tup {ds:List D} {ps:List PyData}:PyRL M ds ps→PyR M (.tup ds) (.tuple ps)
 | lst {p:Addr} {ds:List D} {ps:List PyData}:M p=some (.lst ds)→PyRL M ds ps→PyR M (.ref p) (.list ps)
 | vl {ds:List D} {ps:List PyData}:PyRL M ds ps→PyR M (.vl ds) (.list ps)
inductive PyRL (M:Mem):List D→List PyData→Prop
 | nil:PyRL M [] []
 | cons {d:D} {p:PyData} {ds:List D} {ps:List PyData}:PyR M d p→PyRL M ds ps→PyRL M (d :: ds) (p :: ps)
end
mutual
theorem F0{pins:List (Addr × Obj)}{s:Shared}{σ:St}{H:Hp}{M:Mem}(I:Inv X pins σ H s)(am:m8 X.K H M):∀{d:D} {p:PyData},PyR M d p→∀{v:V} {u:Value},Has X.K H v d→o7 v u→∃ as,Reads s.heap u p as
 | _,_,.non,_,_,h,r=>by cases h;cases r;exact⟨_,.none⟩
 | _,_,.bl b,_,_,h,r=>by cases h;cases r;exact⟨_,.bool b⟩
 | _,_,.int i,_,_,h,r=>by cases h;obtain⟨t,rfl⟩:=r;exact⟨_,.int i t⟩
 | _,_,.str x,_,_,h,r=>by cases h;obtain⟨t,rfl⟩:=r;exact⟨_,.str x t⟩
 | _,_,.tup l,_,_,h,r=>by
  cases h with
  | tup s' hl =>
   cases r
   obtain⟨its,rv,⟨o,e,hc,n,hd⟩,_⟩:=I.tuple s'
   obtain⟨as,ra⟩:=readsL_of I am l hl rv
   exact⟨as,.tuple e hc hd (by simpa using ra)⟩
 | _,_,.lst m l,_,_,h,r=>by
  cases h
  cases r
  obtain⟨xs,hx,hl⟩:=am.lst m
  obtain⟨its,rv,⟨o,n,e,hc,_,hd⟩,_⟩:=I.list (SqL.of hx)
  obtain⟨as,ra⟩:=readsL_of I am l hl rv
  exact⟨_,.list e hc hd (by simpa using ra)⟩
 | _,_,.vl l,_,_,h,r=>by
  obtain⟨a,xs,rfl,sq,hl⟩:=h.il
  cases r
  obtain⟨its,rv,⟨o,n,e,hc,_,hd⟩,_⟩:=I.list sq
  obtain⟨as,ra⟩:=readsL_of I am l hl rv
  exact⟨_,.list e hc hd (by simpa using ra)⟩
theorem readsL_of{pins:List (Addr × Obj)}{s:Shared}{σ:St}{H:Hp}{M:Mem}(I:Inv X pins σ H s)(am:m8 X.K H M):∀{ds:List D} {ps:List PyData},PyRL M ds ps→∀{vs:List V} {us:List Value},HasL X.K H vs ds→i8 vs us→∃ as,ReadsAll s.heap us ps as
 | _,_,.nil,_,_,h,r=>by cases h;cases r;exact⟨_,.nil⟩
 | _,_,.cons a l,_,_,h,r=>by
  cases h with
  | cons h hl =>
   cases r with
   | cons r rl =>
    obtain⟨as,q⟩:=F0 I am a h r
    obtain⟨bs,q2⟩:=readsL_of I am l hl rl
    exact⟨_,.cons q q2⟩
end
def gEq(neg:Bool):DR2:=fun x y M R=>∃ px py,PyR M x px∧PyR M y py∧SeqAt.shaped px=true∧SeqAt.shaped py=true∧R (.bl (neg.xor (PyData.eqv px py))) M
theorem Ha(hu:X.A.units+64<cLine):DOp X (compareOp .Eq) (gEq false):=by
 intro pins s σ H x y v u Q I rx ry h
 obtain⟨dx,dy,M,R,hx,hy,am,⟨px,py,p1,p2,s1,s2,r⟩,f⟩:=h
 obtain⟨as,r1⟩:=F0 I am p1 hx rx
 obtain⟨bs,r2⟩:=F0 I am p2 hy ry
 exact eq_dataH r1 r2 s1 s2 hu ⟨.bl _,H,I,rfl,by have:=f _ M r _ H (KT.refl H) am (.bl _);simpa using this⟩
theorem GZ(hu:X.A.units+64<cLine):DOp X (compareOp .NotEq) (gEq true):=by
 intro pins s σ H x y v u Q I rx ry h
 obtain⟨dx,dy,M,R,hx,hy,am,⟨px,py,p1,p2,s1,s2,r⟩,f⟩:=h
 obtain⟨as,r1⟩:=F0 I am p1 hx rx
 obtain⟨bs,r2⟩:=F0 I am p2 hy ry
 exact ne_dataH r1 r2 s1 s2 hu ⟨.bl _,H,I,rfl,by have:=f _ M r _ H (KT.refl H) am (.bl _);simpa using this⟩
mutual
noncomputable def pyD:D→PyData
 | .int i=>.int i
 | .str x=>.str x
 | .bl b=>.bool b
 | .tup ds=>.tuple (pyDL ds)
 | .vl ds=>.list (pyDL ds)
 | _=>.none
noncomputable def pyDL:List D→List PyData
 | []=>[]
 | d :: r=>pyD d :: pyDL r
end
mutual
noncomputable def cl:Nat→D→Bool
 | _,.int _=>true
 | _,.non=>true
 | _,.str x=>PyData.canLay0 (.str x)
 | k+1,.tup ds=>clL k ds
 | k+1,.vl ds=>clL k ds
 | _,_=>false
noncomputable def clL:Nat→List D→Bool
 | _,[]=>true
 | k,d :: r=>cl k d && clL k r
end
mutual
theorem eP{M:Mem}:∀{k:Nat} {d:D},cl k d=true→PyR M d (pyD d)∧(pyD d).canLay0=true∧(pyD d).depth≤k
 | _,.int i,_=>⟨.int i,rfl,KU _⟩
 | _,.non,_=>⟨.non,rfl,KU _⟩
 | 0,.tup ds,h=>by simp[cl]at h
 | k+1,.tup ds,h=>by
  obtain⟨a,b,c⟩:=clL_py (M:=M) (k:=k) (ds:=ds) (by simpa[cl]using h)
  exact⟨.tup a,by simpa[pyD,PyData.canLay0]using b,by simp only[pyD,PyData.depth];omega⟩
 | _,.str x,h=>⟨.str x,by simpa[cl,pyD]using h,KU _⟩
 | _,.bl _,h=>by simp[cl]at h
 | _,.ref _,h=>by simp[cl]at h
 | 0,.vl ds,h=>by simp[cl]at h
 | k+1,.vl ds,h=>by
  obtain⟨a,b,c⟩:=clL_py (M:=M) (k:=k) (ds:=ds) (by simpa[cl]using h)
  exact⟨.vl a,by simpa[pyD,PyData.canLay0]using b,by simp only[pyD,PyData.depth];omega⟩
 | _,.ty _,h=>by simp[cl]at h
theorem clL_py{M:Mem}:∀{k:Nat} {ds:List D},clL k ds=true→PyRL M ds (pyDL ds)∧PyData.canLayAll0 (pyDL ds)=true∧PyData.depthAll (pyDL ds)≤k
 | _,[],_=>⟨.nil,rfl,KU _⟩
 | k,d :: r,h=>by
  have h':cl k d=true∧clL k r=true:=by simpa[clL]using h
  obtain⟨a,b,c⟩:=eP (M:=M) h'.1
  obtain⟨a2,b2,c2⟩:=clL_py (M:=M) h'.2
  exact⟨.cons a a2,by simp[pyDL,PyData.canLayAll0,b,b2],by simp only[pyDL,PyData.depthAll];omega⟩
end
mutual
theorem nK:∀{k j:Nat} {x y:D},cl k x=true→cl j y=true→(PyData.eqv (pyD x) (pyD y)=true↔x=y)
 | _,_,.int i,.int j,_,_=>by simp[pyD,PyData.eqv]
 | _,_,.int i,.non,_,_=>by simp[pyD,PyData.eqv]
 | _,_,.non,.int i,_,_=>by simp[pyD,PyData.eqv]
 | _,_,.non,.non,_,_=>by simp[pyD,PyData.eqv]
 | _,_,.int i,.tup ds,_,_=>by simp[pyD,PyData.eqv]
 | _,_,.non,.tup ds,_,_=>by simp[pyD,PyData.eqv]
 | _,_,.tup ds,.int i,_,_=>by simp[pyD,PyData.eqv]
 | _,_,.tup ds,.non,_,_=>by simp[pyD,PyData.eqv]
 | k+1,j+1,.tup ds,.tup es,h,h'=>by
  have:=clL_eqv (k:=k) (j:=j) (xs:=ds) (ys:=es) (by simpa[cl]using h) (by simpa[cl]using h')
  simp only[pyD,PyData.eqv,D.tup.injEq]
  exact this
 | 0,_,.tup ds,.tup es,h,_=>by simp[cl]at h
 | _,0,.tup ds,.tup es,_,h=>by simp[cl]at h
 | _,_,.str x,.str y,_,_=>by simp[pyD,PyData.eqv]
 | _,_,.str x,.int i,_,_=>by simp[pyD,PyData.eqv]
 | _,_,.str x,.non,_,_=>by simp[pyD,PyData.eqv]
 | _,_,.str x,.tup ds,_,_=>by simp[pyD,PyData.eqv]
 | _,_,.int i,.str x,_,_=>by simp[pyD,PyData.eqv]
 | _,_,.non,.str x,_,_=>by simp[pyD,PyData.eqv]
 | _,_,.tup ds,.str x,_,_=>by simp[pyD,PyData.eqv]
 | k+1,j+1,.vl ds,.vl es,h,h'=>by
  have:=clL_eqv (k:=k) (j:=j) (xs:=ds) (ys:=es) (by simpa[cl]using h) (by simpa[cl]using h')
  simp only[pyD,PyData.eqv,D.vl.injEq]
  exact this
 | 0,_,.vl ds,.vl es,h,_=>by simp[cl]at h
 | _,0,.vl ds,.vl es,_,h=>by simp[cl]at h
 | _,_,.vl ds,.int i,_,_=>by simp[pyD,PyData.eqv]
 | _,_,.vl ds,.non,_,_=>by simp[pyD,PyData.eqv]
 | _,_,.vl ds,.str x,_,_=>by simp[pyD,PyData.eqv]
 | _,_,.vl ds,.tup es,_,_=>by simp[pyD,PyData.eqv]
 | _,_,.int i,.vl ds,_,_=>by simp[pyD,PyData.eqv]
 | _,_,.non,.vl ds,_,_=>by simp[pyD,PyData.eqv]
 | _,_,.str x,.vl ds,_,_=>by simp[pyD,PyData.eqv]
 | _,_,.tup es,.vl ds,_,_=>by simp[pyD,PyData.eqv]
 | _,_,.bl _,_,h,_=>by simp[cl]at h
 | _,_,.ref _,_,h,_=>by simp[cl]at h
 | _,_,.ty _,_,h,_=>by simp[cl]at h
 | _,_,_,.bl _,_,h=>by simp[cl]at h
 | _,_,_,.ref _,_,h=>by simp[cl]at h
 | _,_,_,.ty _,_,h=>by simp[cl]at h
theorem clL_eqv:∀{k j:Nat} {xs ys:List D},clL k xs=true→clL j ys=true→(PyData.eqvAll (pyDL xs) (pyDL ys)=true↔xs=ys)
 | _,_,[],[],_,_=>by simp[pyDL,PyData.eqvAll]
 | _,_,[],_ :: _,_,_=>by simp[pyDL,PyData.eqvAll]
 | _,_,_ :: _,[],_,_=>by simp[pyDL,PyData.eqvAll]
 | k,j,x :: xs,y :: ys,h,h'=>by
  have h1:cl k x=true∧clL k xs=true:=by simpa[clL]using h
  have h2:cl j y=true∧clL j ys=true:=by simpa[clL]using h'
  have e1:=nK h1.1 h2.1
  have e2:=clL_eqv h1.2 h2.2
  simp only[pyDL,PyData.eqvAll,LG,e1,e2,List.cons.injEq]
end
open Classical in
theorem vZ{neg:Bool}{x y:D}{M:Mem}{R:DK}(h:R (.bl (neg.xor (decide (x=y)))) M)(hx:cl 60 x=true:=by rfl)(hy:cl 60 y=true:=by rfl):gEq neg x y M R:=by
 obtain⟨a,b,c⟩:=eP (M:=M) hx
 obtain⟨a2,b2,c2⟩:=eP (M:=M) hy
 refine⟨_,_,a,a2,?_,?_,?_⟩
 ·simp only[SeqAt.shaped,b,Nz];exact decide_eq_true (by omega)
 ·simp only[SeqAt.shaped,b2,Nz];exact decide_eq_true (by omega)
 ·have e:PyData.eqv (pyD x) (pyD y)=decide (x=y):=by
   have:=nK hx hy
   by_cases q:x=y
   ·rw[decide_eq_true q];exact this.mpr q
   ·rw[decide_eq_false q]
    cases z:PyData.eqv (pyD x) (pyD y)with
    | false=>rfl
    | true=>exact absurd (this.mp z) q
  rw[e];exact h
noncomputable def tyD(M:Mem):D→Option String
 | .non=>some "NoneType"
 | .bl _=>some "bool"
 | .int _=>some "int"
 | .str _=>some "str"
 | .tup _=>some "tuple"
 | .ref p=>match M p with
  | some (.lst _)=>some "list"
  | _=>none
 | .vl _=>some "list"
 | .ty _=>none
 | .dic=>some "dict"
 | .exc _=>none
noncomputable def yn(t T:String):Option Bool:=if t=T then some true else
 match t,T with
 | "bool","int" => some true
 | _,_=>if (t∈["NoneType","bool","int","str","tuple","list","dict"])∧(T∈["bool","int","str","tuple","list"])then some false else none
def wW(K:JB):Prop:=∀ t T b,yn t T=some b→PySem.W.kitOne K (.type t) (.type T)=some b
theorem Be{x:Str}{n:String}(hg:Gl X x)(hm:X.mg x=none)(hv:bootBuiltins x=some (.type n))(hn:x ≠ "__name__" := by decide)(hd:(x == ("__debug__" : Str))=false:=by decide):JE X (.Name x pos) (dC (.ty n)):=⟨U4 (v:=.ty n) (yR hg hm hv rfl hn hd) fun _=>.ty n⟩
def y8:DRC:=fun ds M R=>∃ d t T b,ds=[d,.ty T]∧tyD M d=some t∧yn t T=some b∧R (.bl b) M
theorem BI(hk:wW X.K):bL X (.builtin "isinstance") y8:=by
 intro pins s σ H xs us Q I rv h
 obtain⟨ds,M,R,hl,am,⟨d,t,T,b,rfl,ht,hb,r⟩,f⟩:=h
 obtain⟨v,v',rfl,h1,h2⟩:=hl.two
 cases h2
 obtain⟨u,w',rfl,r1,r2⟩:=AU rv
 cases(show w'=Value.type T from r2)
 have e:=hk t T b hb
 have fin:∀ tk,EP X pins σ Q (.bool b) { s with toks:=tk }:=fun tk=>⟨.bl b,H,I.tok tk,rfl,f _ M r _ H (KT.refl H) am (.bl b)⟩
 cases h1 with
 | non=>cases ht;exact M0 I r1 .non e fin
 | bl q=>cases ht;exact M0 I r1 (.bl q) e fin
 | int q=>cases ht;exact M0 I r1 (.int q) e fin
 | str q=>cases ht;exact M0 I r1 (.str q) e fin
 | ty q=>cases ht
 | ref p =>
  unfold tyD at ht
  cases q:M p with
  | none=>simp[q]at ht
  | some o =>
   cases o with
   | lst es =>
    simp only[q]at ht
    cases ht
    obtain⟨ys,hy,_⟩:=am.lst q
    exact M0 I r1 (.lst hy) e fin
   | ins C fs=>simp[q]at ht
 | tup s' l =>
  cases ht
  cases(show u=Value.ref _ from r1)
  obtain⟨its,_,⟨o,h1,h2,_⟩,_⟩:=I.tuple s'
  exact PySem.W.kia_one PySem.W.kitx_tuple I.kIn ⟨o,h1,h2⟩ e (fun z=>nomatch z) fin
 | vl hq hl' =>
  cases ht
  cases(show u=Value.ref _ from r1)
  obtain⟨_,_,ea,sq,_⟩:=Has.il (.vl hq hl')
  cases ea
  obtain⟨its,_,⟨o,n,h1,h2,_⟩,_⟩:=I.list sq
  exact PySem.W.kia_one PySem.W.kitx_list I.kIn ⟨o,h1,h2⟩ e (fun z=>nomatch z) fin
 | dic hq =>
  cases ht
  cases(show u=Value.ref _ from r1)
  obtain⟨o,g1,g2⟩:=hq
  exact PySem.W.kia_one PySem.W.kitx_dict I.kIn ⟨o,(I.hok _ _ g1).1,g2⟩ e (fun z=>nomatch z) fin
 | exc hq=>cases ht
end
section
variable {X:Cx} {a b c:Expr} {ta tb tc:DTE} {pos:Pos}
def Y0:DXK:=fun _ _=>False
theorem Hm{K:JB}{H:Hp}{E:XK}:Eb K H Y0 E:=fun _ _ h=>h.elim
structure Af(K:JB)(x:Str)(st:Stmt)(f:Addr)(fd:FuncData):Prop where
 ex:∃(oc:Value) (od:Option Addr) (dV kV doc pm:Value) (an:Option Addr) (cdv ct:Value) (osl:Array (Option Value)),
  fd=PySem.W.fnOf x x (O3 st) (G7 st) (d8 st) dV kV doc pm an cdv ct∧K.lookup f=some ⟨oc,od,.func fd,osl⟩∧PySem.W.codeIn K cdv x=true
 kp:PySem.W.keepIn K (.ref f)=true
structure Df(K:JB)(mg:Str→Option Value)(x:Str)(st:Stmt)(ps:List Str):Prop where
 ex:∃(f:Addr) (fd:FuncData),Af K x st f fd∧mg x=some (.ref f)∧eW K fd ps []
structure DfL(K:JB)(mg:Str→Option Value)(x:Str)(st:Stmt)(ps:List Str):Prop where
 ex:∃(f:Addr) (fd:FuncData),Af K x st f fd∧mg x=some (.ref f)∧∀ us:List Value,us.length=ps.length→bindArgs fd ⟨us,[]⟩=pure (ps.zip us)
structure Fn(P:Program)(w:World)(K:JB)(mg:Str→Option Value)(base:Heap)(x:Str)(k:Nat)(ps:List Str)(sp:DSp):Prop where
 ex:∃(f:Addr) (fd:FuncData),P1 P w K mg base CX0 k f fd ps (km K sp)∧mg x=some (.ref f)∧PySem.W.keepIn K (.ref f)=true∧eW K fd ps []
theorem vR{x:Str}{j:Nat}{ps:List Str}{sp:DSp}{p:Pos}{e:Expr}{es:List Expr}{t:DTA}(G:Fn X.prog X.w X.K X.mg X.base x j ps sp)(hr:F5 j X.A)(hg:Gl X x)(ha:JA X (e :: es) t)
  (hdb:(x == ("__debug__" : Str))=false:=by decide) (he:starEach (e :: es) X.env=(false,eval e X.env) :: starEach es X.env:=by rfl) (hpl:(backTo pos (starEach es X.env)).any (·.1)=false:=by rfl):JE X (.Call (.Name x p) (e :: es) [] pos) (qE sp [] Y0 t):=⟨have ha:=ha.out;by
 obtain⟨f,fd,F,hm,hk,hb⟩:=G.ex
 exact DJ F hr hg hm hk hb .nil (fun _=>.nil) Fs (fun _=>Hm) ha hdb he hpl⟩
end
section
variable {P:Program} {w:World} {K:JB} {mg:Str→Option Value} {base:Heap}
theorem Bg{x:Str}{st:Stmt}{f:Addr}{fd:FuncData}{N ps:List Str}{k:Nat}{sp:DSp}(F:Af K x st f fd)(S:e8 N ps (d8 st))(len:∀ ds M R Y,sp ds M R Y→ds.length=ps.length)
  (hbody:∀(cdv:Value) (A:Around) (outer:List Env) (s:Shared) (H:Hp) (E:XK) (ds:List D) (M:Mem) (R:DK) (Y:DXK),F5 k (A.deeper (envOfC x (d8 st) s.heap.objs.size f cdv))→sp ds M R Y →
   ∃ t,JSs (lO CX0 P w K mg base N x (d8 st) f cdv A outer s H E).nox (G7 st) t∧t { nx:=fun _ M'=>R .non M',rt:=R } (X8 N ds) M):P1 P w K mg base CX0 (k+1) f fd ps (km K sp):=by
 obtain⟨oc,od,dV,kV,doc,pm,an,cdv,ct,osl,rfl,lk,hcd⟩:=F.ex
 refine FW lk hcd S (fun vs H Q E ⟨ds,M,R,Y,hl,_,hs,_,_⟩=>by rw[hl.length];exact len ds M R Y hs) fun A outer s H vs Q E hr zz=>?_
 obtain⟨ds,M,R,Y,hl,am,hs,fv,fx⟩:=zz
 obtain⟨t,h1,h2⟩:=hbody cdv A outer s H E ds M R Y hr hs
 refine⟨_,h1.out.nox,X8 N ds,M,_,u8.start0 hl,am,h2,⟨?_,fv,fun _ _ h=>h.elim,fun _ _ h=>h.elim⟩⟩
 exact fun e M' h σ' H' kt a o=>fv .non M' h .non H' kt a .non
theorem i4{x:Str}{st:Stmt}{N ps:List Str}{k:Nat}{sp:DSp}(d:Df K mg x st ps)(S:e8 N ps (d8 st))(len:∀ ds M R Y,sp ds M R Y→ds.length=ps.length)
  (hbody:∀(f:Addr) (cdv:Value) (A:Around) (outer:List Env) (s:Shared) (H:Hp) (E:XK) (ds:List D) (M:Mem) (R:DK) (Y:DXK),F5 k (A.deeper (envOfC x (d8 st) s.heap.objs.size f cdv))→sp ds M R Y →
   ∃ t,JSs (lO CX0 P w K mg base N x (d8 st) f cdv A outer s H E).nox (G7 st) t∧t { nx:=fun _ M'=>R .non M',rt:=R } (X8 N ds) M):Fn P w K mg base x (k+1) ps sp:=by
 obtain⟨f,fd,F,hm,hb⟩:=d.ex
 exact⟨f,fd,Bg F S len (hbody f),hm,F.kp,hb⟩
theorem i9{x:Str}{st:Stmt}{ps:List Str}{h:Heap}{f:Addr}{oc:Value}{od an:Option Addr}{osl:Array (Option Value)}{dV kV doc pm cdv ct:Value}(X:K.In h)(G:h.Ns mainGlobals mg)
  (n:PySem.W.nsIn K mainGlobals x=some (some (.ref f)))
  (l:K.lookup f=some ⟨oc,od,.func (PySem.W.fnOf x x (O3 st) (G7 st) (d8 st) dV kV doc pm an cdv ct),osl⟩)
  (c:PySem.W.codeIn K cdv x=true) (k:PySem.W.keepIn K (.ref f)=true)
  (hb:∀ us:List Value,us.length=ps.length→bindArgs (PySem.W.fnOf x x (O3 st) (G7 st) (d8 st) dV kV doc pm an cdv ct) ⟨us,[]⟩=pure (ps.zip us)):Df K mg x st ps :=
 ⟨f,_,⟨⟨oc,od,dV,kV,doc,pm,an,cdv,ct,osl,rfl,l,c⟩,k⟩,PySem.W.mg_of X G n,.all hb⟩
theorem DF{x:Str}{st:Stmt}{ps:List Str}{h:Heap}{f:Addr}{oc:Value}{od an:Option Addr}{osl:Array (Option Value)}{dV kV doc pm cdv ct:Value}(X:K.In h)(G:h.Ns mainGlobals mg)
  (n:PySem.W.nsIn K mainGlobals x=some (some (.ref f)))
  (l:K.lookup f=some ⟨oc,od,.func (PySem.W.fnOf x x (O3 st) (G7 st) (d8 st) dV kV doc pm an cdv ct),osl⟩)
  (c:PySem.W.codeIn K cdv x=true) (k:PySem.W.keepIn K (.ref f)=true)
  (hb:∀ us:List Value,us.length=ps.length→bindArgs (PySem.W.fnOf x x (O3 st) (G7 st) (d8 st) dV kV doc pm an cdv ct) ⟨us,[]⟩=pure (ps.zip us)):DfL K mg x st ps :=
 ⟨f,_,⟨⟨oc,od,dV,kV,doc,pm,an,cdv,ct,osl,rfl,l,c⟩,k⟩,PySem.W.mg_of X G n,hb⟩
theorem DG{x:Str}{st:Stmt}{ps:List Str}{h:Heap}{f:Addr}{oc:Value}{od an:Option Addr}{osl:Array (Option Value)}{dV kV doc pm cdv ct:Value}(X:K.In h)(G:h.Ns mainGlobals mg)
  (n:PySem.W.nsIn K mainGlobals x=some (some (.ref f)))
  (l:K.lookup f=some ⟨oc,od,.func (PySem.W.fnOf x x (O3 st) (G7 st) (d8 st) dV kV doc pm an cdv ct),osl⟩)
  (c:PySem.W.codeIn K cdv x=true) (k:PySem.W.keepIn K (.ref f)=true)
  (hb:∀ us:List Value,us.length=ps.length→∀ S,PySem.W.peek K S (bindArgs (PySem.W.fnOf x x (O3 st) (G7 st) (d8 st) dV kV doc pm an cdv ct) ⟨us,[]⟩)=some (ps.zip us)):Df K mg x st ps :=
 ⟨f,_,⟨⟨oc,od,dV,kV,doc,pm,an,cdv,ct,osl,rfl,l,c⟩,k⟩,PySem.W.mg_of X G n,fun s us X' hl=>by rw[LB]at hl ⊢;exact PySem.W.kp_binds X' (hb us hl)⟩
end
section
variable {X:Cx} {x:Str} {p pos:Pos} {e:Expr} {es:List Expr} {t:DTA} {id T:String} {o:Expr} {to:DTE} {a b c:Expr} {ta tb tc:DTE}
theorem v7{g:DRC}(hc:bL X (.builtin id) g)(hg:Gl X x)(hm:X.mg x=none)(hv:bootBuiltins x=some (.builtin id))(ha:JA X (e :: es) t)
  (hn:x ≠ "__name__" := by decide) (hdb:(x == ("__debug__" : Str))=false:=by decide) (he:starEach (e :: es) X.env=(false,eval e X.env) :: starEach es X.env:=by rfl) (hpl:(backTo pos (starEach es X.env)).any (·.1)=false:=by rfl):JE X (.Call (.Name x p) (e :: es) [] pos) (dCB g t):=⟨have ha:=ha.out;(vj hc hg hm hv ha hn hdb he hpl).imp fun _ _ _ h=>BB h⟩
theorem qo{g:DRC}(hc:bL X (.type T) g)(hg:Gl X x)(hm:X.mg x=none)(hv:bootBuiltins x=some (.type T))(ha:JA X (e :: es) t)
  (hn:x ≠ "__name__" := by decide) (hdb:(x == ("__debug__" : Str))=false:=by decide) (he:starEach (e :: es) X.env=(false,eval e X.env) :: starEach es X.env:=by rfl) (hpl:(backTo pos (starEach es X.env)).any (·.1)=false:=by rfl):JE X (.Call (.Name x p) (e :: es) [] pos) (dCB g t):=⟨have ha:=ha.out;(gn hc hg hm hv ha hn hdb he hpl).imp fun _ _ _ h=>BB h⟩
theorem yY:OpR X (binaryOp .Add) (fun x y H Q=>∃ l b xs zs,x = .ref l∧y = .ref b∧SqL X.K H l xs∧SqL X.K H b zs∧xs.length+zs.length≤sizeLine∧∀ p,H p=none→Q (.ref p) (upd H p (.lst (xs++zs)))):=by
 intro pins s σ H x y v u Q I rx ry h
 obtain⟨l,b,xs,zs,rfl,rfl,hH,hB,hz,q⟩:=h
 cases rx
 cases ry
 obtain⟨its,r,pl,z1⟩:=I.list hH
 obtain⟨its2,r2,pl2,z2⟩:=I.list hB
 have hl:=r.length
 have hl2:=r2.length
 obtain⟨⟨cls,dd,data,sl⟩,ho,hc,n,hd⟩:=pl.isList
 obtain⟨⟨cls2,dd2,data2,sl2⟩,ho2,hc2,n2,hd2⟩:=pl2.isList
 simp only at hc hd hc2 hd2
 subst hc hd hc2 hd2
 have ea:its.toArray++its2.toArray=(its++its2).toArray:=by simp
 refine concat_meets ⟨_,ho,rfl⟩ ⟨_,ho2,rfl⟩ noFill_list_add seq_list_add PySem.F.slot_list_add PySem.F.entry_list_add (PySem.F.args_list_add_2 _ _) (list_addW l b its.toArray its2.toArray n n2 dd dd2 sl sl2 (by simp only[Ko];omega)) ⟨ho,ho2,?_⟩
 rw[ea]
 exact⟨.ref _,_,I.lnew (t':=s.toks) (r.append r2) (by rw[JQ];omega),rfl,q _ I.fresh⟩
noncomputable def R6(M:Mem):D→Option (List D)
 | .ref p=>match M p with
  | some (.lst ds)=>some ds
  | _=>none
 | .vl ds=>some ds
 | _=>none
theorem E6{K:JB}{H:Hp}{M:Mem}{v:V}{d:D}{ds:List D}(am:m8 K H M)(h:Has K H v d)(e:R6 M d=some ds):∃ a xs,v = .ref a∧SqL K H a xs∧HasL K H xs ds:=by
 cases h with
 | ref p =>
  unfold R6 at e
  cases q:M p with
  | none=>simp[q]at e
  | some o =>
   cases o with
   | lst es =>
    simp only[q]at e
    cases e
    obtain⟨xs,hx,l⟩:=am.lst q
    exact⟨p,xs,rfl,SqL.of hx,l⟩
   | ins C fs=>simp[q]at e
 | vl hq hl =>
  cases e
  exact Has.il (.vl hq hl)
 | _=>cases e
end
theorem sl(n:Nat)(h:n≤1000:=by decide):n≤sizeLine:=JR h (by decide)
section
variable {X:Cx}
open Classical in
def DC(neg:Bool):DR2:=fun x y M R=>cl 60 x=true∧cl 60 y=true∧R (.bl (neg.xor (decide (x=y)))) M
theorem Bc(hu:X.A.units+64<cLine):DOp X (compareOp .Eq) (DC false):=OpR.imp (Ha hu) (by rintro _ _ _ _ ⟨dx,dy,M,R,hx,hy,am,⟨h1,h2,h3⟩,f⟩;exact⟨dx,dy,M,R,hx,hy,am,vZ h3 h1 h2,f⟩)
theorem lh(hu:X.A.units+64<cLine):DOp X (compareOp .NotEq) (DC true):=OpR.imp (GZ hu) (by rintro _ _ _ _ ⟨dx,dy,M,R,hx,hy,am,⟨h1,h2,h3⟩,f⟩;exact⟨dx,dy,M,R,hx,hy,am,vZ h3 h1 h2,f⟩)
theorem pV:DOp X (compareOp .Eq) (gF (fI fun i j=>.bl (decide (i=j)))):=OpR.imp Bb (by
 rintro x y H Q ⟨dx,dy,M,R,hx,hy,am,⟨z,e,r⟩,f⟩
 obtain⟨i,j,e1,e2,e3⟩:=jr e
 subst e1;subst e2;subst e3
 cases hx;cases hy
 refine⟨rfl,?_⟩
 have e:decide (V.int i=V.int j)=decide (i=j):=by simp
 rw[e]
 exact f _ M r _ H (KT.refl H) am (.bl _))
theorem Fy:DOp X (compareOp .NotEq) (gF (fI fun i j=>.bl (!decide (i=j)))):=OpR.imp Ba (by
 rintro x y H Q ⟨dx,dy,M,R,hx,hy,am,⟨z,e,r⟩,f⟩
 obtain⟨i,j,e1,e2,e3⟩:=jr e
 subst e1;subst e2;subst e3
 cases hx;cases hy
 refine⟨rfl,?_⟩
 have e:decide (V.int i=V.int j)=decide (i=j):=by simp
 rw[e]
 exact f _ M r _ H (KT.refl H) am (.bl _))
end
theorem Hg{c:Prop}[Decidable c]{A B:Prop}(h1:c→A)(h2:¬ c→B):if decide c=true then A else B:=by
 by_cases h:c
 ·rw[if_pos (decide_eq_true h)];exact h1 h
 ·rw[if_neg (by rw[decide_eq_false h];exact Ku)];exact h2 h
theorem FI{c:Prop}[Decidable c]{A B:Prop}(h1:¬ c→A)(h2:c→B):if (!decide c)=true then A else B:=by
 by_cases h:c
 ·rw[decide_eq_true h];rw[if_neg (by decide)];exact h2 h
 ·rw[decide_eq_false h];rw[if_pos (by decide)];exact h1 h
theorem X5{n k:Nat}(h:n<2 ^ k)(hk:0<k):n.log2<k:=by
 rcases Ny n with h0|h0
 ·subst h0;rw[Nat.log2_zero];exact hk
 ·exact(Nm (Nn.mp h0)).mpr h
theorem D8{a b:Int}(m n:Nat)(ha:a.natAbs<2 ^ m)(hb:b.natAbs<2 ^ n)(h:m+n≤100000):IntMulOk a b:=by
 have hx:∀(x:Int) (k:Nat),x.natAbs<2 ^ k→Builtin.Int.intBits x≤k:=fun x k hx=>by
  unfold Builtin.Int.intBits
  split
  ·exact KU _
  ·rename_i h0
   have:x.natAbs≠0:=by
    intro z;apply h0
    first|exact(by simpa using NA.mp z)|(simp;omega)
   have:=(Nm this).mpr hx
   omega
 exact PySem.IntMulOk.of_le (hx a m ha) (hx b n hb) (by omega)
noncomputable def Hd(t T:String):Option Bool:=if PySem.W.kitMeta T=true then(fastBuiltinMro t).map (·.contains (.type T))else none
theorem Fc(K:JB):wW K:=by
 intro t T b h
 unfold yn at h
 by_cases e:t=T
 ·subst e
  rw[if_pos rfl]at h
  cases h
  unfold PySem.W.kitOne
  rw[if_pos (beq_self_eq_true _)]
 ·rw[if_neg e]at h
  have hne:¬ (Value.type t == Value.type T)=true:=fun z=>e (by have:=eq_of_beq z;injection this)
  unfold PySem.W.kitOne
  rw[if_neg hne]
  show Hd t T=some b
  split at h
  ·cases h;decide +kernel
  ·split at h
   ·rename_i hh
    obtain⟨ht,hT⟩:=hh
    simp only[JJ,Ks,or_false]at ht hT
    cases h
    rcases ht with rfl|rfl|rfl|rfl|rfl|rfl|rfl<;>rcases hT with rfl|rfl|rfl|rfl|rfl<;>first|exact absurd rfl e|decide +kernel|(exfalso;simp_all)
   ·cases h
theorem ny{K:JB}{H:Hp}{a:Addr}{ns:List Int}(hO:rZ H)(hS:SqL K H a (ns.map V.int)):Has K H (.ref a) (.vl (ns.map D.int)):=by
 rcases hS with(h|⟨o,h⟩)|h
 ·rcases hO a with z|⟨o,xs,z⟩
  ·rw[z]at h;cases h
  ·rw[z]at h;cases h
 ·exact .vl (.inl ⟨o,h⟩) (HasL.ints ns)
 ·exact .vl (.inr fun _=>.inr h) (HasL.ints ns)
theorem Dr{K:JB}{H:Hp}{a:Addr}{ns:List Int}{sp:DSp}(hO:rZ H)(hS:SqL K H a (ns.map V.int))(h:sp [.vl (ns.map D.int)] (fun _=>none) (fun d _=>d = .bl true) Y0) :
  km K sp [.ref a] H (fun v _=>v = .bl true) (fun _ _ _=>False) :=
 ⟨[.vl (ns.map D.int)],fun _=>none,fun d _=>d = .bl true,Y0,.cons (ny hO hS) .nil,fun _ _ z=>(by cases z),h,fun d M' e v H' _ _ hv=>by subst e;cases hv;rfl,fun _ _ z=>z.elim⟩
section
variable {X:Cx} {o e:Expr} {es:List Expr} {to:DTE} {t:DTA} {name:Str} {apos cpos:Pos} {id:String}
noncomputable abbrev DRM:=D→List D→Mem→DK→Prop
noncomputable def upM(K:JB)(g:DRM):V→List V→Hp→VK→Prop:=fun x xs H Q=>∃ dx ds M R,Has K H x dx∧HasL K H xs ds∧m8 K H M∧g dx ds M R∧eV K H R Q
def DMt(X:Cx)(id:String)(g:DRM):Prop:=MtR X id (upM X.K g)
theorem MtR.imp{r r':V→List V→Hp→VK→Prop}(h:MtR X id r)(i:∀ x xs H Q,r' x xs H Q→r x xs H Q):MtR X id r':=fun pins s σ H x xs v us Q I rx rv q=>h pins s σ H x xs v us Q I rx rv (i x xs H Q q)
def dLM(g:DRM)(to:DTE)(t:DTA):DTE:=fun e M R=>to e M fun x M1=>(∃ l ds,x = .ref l∧M1 l=some (.lst ds))∧t e M1 fun xs M2=>g x xs M2 R
theorem lD{g:DRM}(slot:Slot "list" name id)(hty:typeOf (.builtin id)=pure (.type "method_descriptor"))(hm:DMt X id g)(ho:JE X o to)(ha:JA X (e :: es) t)
  (hbase:attributeBase o name X.env (eval o X.env)=eval o X.env:=by rfl)
  (hfew:((backTo cpos (starEach (e :: es) X.env)).all (fun x=>!x.1) && (backToKw cpos (keywordEach [] X.env)).all (fun x=>x.1.isSome)
   && decide ((e :: es).length+([]:List Keyword).length+(if ([]:List Keyword).isEmpty then 0 else 1)<30))=true:=by rfl)
  (hline:(apos.endLine == cpos.line)=true:=by rfl) (hs:starEach (e :: es) X.env=(false,eval e X.env) :: starEach es X.env:=by rfl) (hplain:(backTo cpos (starEach es X.env)).any (·.1)=false:=by rfl):JE X (.Call (.Attribute o name apos) (e :: es) [] cpos) (dLM g to t):=⟨have ho:=ho.out;have ha:=ha.out;(Fp PySem.F.plainAttrs_list slot hty hm ho ha hbase hfew hline hs hplain).imp (by rintro σ H Q ⟨e,M,R,ok,am,t,f⟩;exact⟨e,M,_,ok,am,t,fun x M1 ⟨⟨l,ds,z,hM⟩,h1⟩ v H1 k1 a1 r1=>by
  subst z
  have r1':=r1
  cases r1
  obtain⟨xs,hx,_⟩:=a1.lst hM
  refine⟨.inl ⟨rfl,xs,SqL.of hx⟩,e,M1,_,ok.mono k1,a1,h1,fun zs M2 h2 vs H2 k2 a2 r2=>?_⟩
  exact⟨_,zs,M2,R,r1'.mono k2,r2,a2,h2,f.mono (k1.trans k2)⟩⟩)⟩
noncomputable def fB(f:Bool→Bool→D):D→D→Option D
 | .bl i,.bl j=>some (f i j)
 | _,_=>none
end
section
variable {X:Cx}
def Bf:DRC:=fun ds M R=>∃ x ys,ds=[x]∧R6 M x=some ys∧R (.tup ys) M
theorem wN:bL X (.type "tuple") Bf:=C3.imp fk (by
 rintro xs H Q ⟨ds,M,R,hl,am,⟨x,ys,z,e,r⟩,f⟩
 subst z
 obtain⟨v,rfl,hv⟩:=hl.one
 obtain⟨a,vs,rfl,s,l⟩:=E6 am hv e
 exact⟨a,vs,rfl,.inl ⟨s,fun p hp=>f _ M r _ _ (KT.alloc hp) (am.alloc hp) (.tup (SqT.of i3) (l.mono (KT.alloc hp)))⟩⟩)
def FU:DR2:=fun x y M R=>∃ xs ys,x = .tup xs∧y = .tup ys∧xs≠[]∧ys≠[]∧xs.length+ys.length≤sizeLine∧R (.tup (xs++ys)) M
end
section
variable {X:Cx} {st:Stmt} {F8:List Stmt} {t u:DTS}
def Bo(t u:DTS):DTS:=fun F e M=>∃ P:Ev→Mem→Prop,t { F with nx:=P } e M∧∀ e' M',P e' M'→u F e' M'
theorem gw(h1:JS X st t)(h2:JSs X F8 u):JSs X (st :: F8) (Bo t u):=⟨have h1:=h1.out;have h2:=h2.out;(kN h1 h2).imp (by rintro E σ H ⟨e,M,F,ok,am,⟨P,t,hP⟩,f⟩;exact⟨e,M,{ F with nx:=P },ok,am,t,⟨fun e' M' h σ' H' k a o=>⟨e',M',F,o,a,hP e' M' h,f.mono k⟩,f.rt,f.bk,f.ct⟩⟩)⟩
end
section
variable {X:Cx}
theorem De:DOp X (binaryOp .Add) FU:=OpR.imp yX (by
 rintro x y H Q ⟨dx,dy,M,R,hx,hy,am,⟨xs,ys,e1,e2,n1,n2,hz,r⟩,f⟩
 subst e1;subst e2
 cases hx with
 | tup s1 l1 =>
  cases hy with
  | tup s2 l2 =>
   have k1:=l1.length
   have k2:=l2.length
   refine⟨_,_,_,_,rfl,rfl,s1,s2,?_,by rw[k1,k2];exact hz,fun z=>?_,fun _ p hp=>?_⟩
   ·intro z;subst z
    cases l1;exact n1 rfl
   ·subst z
    cases l2;exact absurd rfl n2
   ·exact f _ M r _ _ (KT.alloc hp) (am.alloc hp) (.tup (SqT.of i3) ((l1.append l2).mono (KT.alloc hp))))
end
structure GlD(K:JB)(mg:Str→Option Value)(x:Str)(d:D):Prop where
 ex:∃(v:V) (u:Value),mg x=some u∧o7 v u∧GB K v d
theorem R5{X:Cx}{x:Str}{d:D}{pos:Pos}(hg:Gl X x)(g:GlD X.K X.mg x d)(hd:(x == ("__debug__" : Str))=false:=by decide):JE X (.Name x pos) (dC d):=⟨by
 obtain⟨v,u,h1,h2,h3⟩:=g.ex
 exact DI hg h1 h2 h3 hd⟩
theorem qu{K:JB}{mg:Str→Option Value}{h:Heap}{x:Str}{a:Addr}{od:Option Addr}{osl:Array (Option Value)}{i j:Int}{t u:Tok}{cap:Nat}(X:K.In h)(G:h.Ns mainGlobals mg)
  (n:PySem.W.nsIn K mainGlobals x=some (some (.ref a))) (l:K.lookup a=some ⟨.type "tuple",od,.seq #[.int i t,.int j u] cap,osl⟩):GlD K mg x (.tup [.int i,.int j]) :=
 ⟨.ref a,.ref a,PySem.W.mg_of X G n,rfl,fun H=>.tup (xs:=[.int i,.int j]) (.inr ⟨_,_,_,l,rfl,rfl,(show 2≤sizeLine by decide),.cons (show o7 (.int i) (.int i t)from⟨t,rfl⟩) (.cons (show o7 (.int j) (.int j u)from⟨u,rfl⟩) .nil)⟩) (.cons (.int i) (.cons (.int j) .nil))⟩
noncomputable def fS(f:Str→Str→D):D→D→Option D
 | .str i,.str j=>some (f i j)
 | _,_=>none
theorem qw{f:Str→Str→D}{x y z:D}(h:fS f x y=some z):∃ i j,x = .str i∧y = .str j∧z=f i j:=by
 cases x with
 | str i =>
  cases y with
  | str j=>exact⟨i,j,rfl,rfl,(Option.some.inj h).symm⟩
  | _=>cases h
 | _=>cases h
section
variable {X:Cx}
theorem ey:DOp X (compareOp .Eq) (gF (fS fun i j=>.bl (decide (i=j)))):=OpR.imp Bb (by
 rintro x y H Q ⟨dx,dy,M,R,hx,hy,am,⟨z,e,r⟩,f⟩
 obtain⟨i,j,e1,e2,e3⟩:=qw e
 subst e1;subst e2;subst e3
 cases hx;cases hy
 refine⟨rfl,?_⟩
 have e:decide (V.str i=V.str j)=decide (i=j):=by simp
 rw[e]
 exact f _ M r _ H (KT.refl H) am (.bl _))
theorem Fx:DOp X (compareOp .NotEq) (gF (fS fun i j=>.bl (!decide (i=j)))):=OpR.imp Ba (by
 rintro x y H Q ⟨dx,dy,M,R,hx,hy,am,⟨z,e,r⟩,f⟩
 obtain⟨i,j,e1,e2,e3⟩:=qw e
 subst e1;subst e2;subst e3
 cases hx;cases hy
 refine⟨rfl,?_⟩
 have e:decide (V.str i=V.str j)=decide (i=j):=by simp
 rw[e]
 exact f _ M r _ H (KT.refl H) am (.bl _))
end
structure mi(K:JB)(H1:Hp)(J:It)(ds:List D)(stay:Mem→Prop):Prop where
 go:∀ i H' M',i<ds.length→KT H1 H'→m8 K H' M'→stay M'→J.go i H'
 yld:∀ i H' M' x H'',i<ds.length→KT H1 H'→m8 K H' M'→stay M'→J.yld i H' x H''→∃ d,ds[i]? = some d∧KT H' H''∧m8 K H'' M'∧Has K H'' x d
 stop:∀ i H' M',ds.length≤i→KT H1 H'→m8 K H' M'→stay M'→J.stop i H'
 up:∀ M' p o,stay M'→M' p=none→stay (B8 M' p o)
def upI(K:JB)(ti:DTI):TI:=fun σ H R=>∃ e M R',u8 K H σ e∧m8 K H M∧ti e M R'∧∀ ds stay M1,R' ds stay M1→∀ H1,KT H H1→m8 K H1 M1→∀ J,mi K H1 J ds stay→R J H1
def DPI(X:Cx)(tg iter:Expr)(ti:DTI):Prop:=PI X tg iter (upI X.K ti)
structure JI(X:Cx)(tg iter:Expr)(ti:DTI):Prop where
 out:DPI X tg iter ti
theorem PI.imp{X:Cx}{tg iter:Expr}{wi wi':TI}(h:PI X tg iter wi)(i:∀ σ H R,wi' σ H R→wi σ H R):PI X tg iter wi':=fun pins s σ H R I q=>h pins s σ H R I (i σ H R q)
section
variable {X:Cx} {tg iter:Expr} {ti:DTE} {ta:DTA}
theorem tY{K:JB}{H1:Hp}{a:Addr}{xs:List V}{ds:List D}(s:SqT K H1 a xs)(l:HasL K H1 xs ds):mi K H1 (Itt K a) ds (fun _=>True) where
 go:=fun i H' M' hi k _ _=>⟨xs,_,k.sq s,Kg (by rw[l.length];exact hi)⟩
 yld:=fun i H' M' x H'' hi k am _ zz=>by
  obtain⟨e,y⟩:=zz
  subst e
  obtain⟨d,hd,r⟩:=l.getV (y xs (k.sq s))
  exact⟨d,hd,KT.refl _,am,r.mono k⟩
 stop:=fun i H' M' hi k _ _=>⟨xs,k.sq s,by rw[l.length];exact hi⟩
 up:=fun _ _ _ _ _=>trivial
theorem ue{K:JB}{H1:Hp}{p:Addr}{ds:List D}:mi K H1 (Itl K p) ds (fun M'=>M' p=some (.lst ds)) where
 go:=fun i H' M' hi k am st=>by
  obtain⟨ys,hy,ly⟩:=am.lst st
  exact⟨ys,_,SqL.of hy,Kg (by rw[ly.length];exact hi)⟩
 yld:=fun i H' M' x H'' hi k am st zz=>by
  obtain⟨e,y⟩:=zz
  subst e
  obtain⟨ys,hy,ly⟩:=am.lst st
  obtain⟨d,hd,r⟩:=ly.getV (y ys (SqL.of hy))
  exact⟨d,hd,KT.refl _,am,r⟩
 stop:=fun i H' M' hi k am st=>by
  obtain⟨ys,hy,ly⟩:=am.lst st
  exact⟨ys,SqL.of hy,by rw[ly.length];exact hi⟩
 up:=fun M' q o st hq=>by rw[J9 (by intro e;subst e;rw[hq]at st;cases st)];exact st
theorem tZ{K:JB}{H1:Hp}{lo:Int}{n:Nat}:mi K H1 (Itr lo n) (R1 lo n) (fun _=>True) where
 go:=fun i H' M' hi k am st=>by rw[E8]at hi;exact hi
 yld:=fun i H' M' x H'' hi k am st zz=>by
  obtain⟨e,y⟩:=zz
  subst e;subst y
  rw[E8]at hi
  exact⟨_,mW hi,KT.refl _,am,.int _⟩
 stop:=fun i H' M' hi k am st=>by rw[E8]at hi;exact hi
 up:=fun _ _ _ _ _=>trivial
theorem zu{a:Expr}{p p2:Pos}(hr:Gl X "range")(hm:X.mg "range" = none)(ha:JA X [a] ta)(hs0:starEach [a] X.env=[(false,eval a X.env)]:=by rfl):JI X tg (.Call (.Name "range" p) [a] [] p2) (Bl ta):=⟨have ha:=ha.out;PI.imp (qZ hr hm ha hs0) (by rintro σ H R ⟨e,M,R',ok,am,t,f⟩;exact⟨e,M,_,ok,am,t,fun ds M1 ⟨j,z,b1,b2,r⟩ vs H1 k1 a1 r1=>by
  subst z
  obtain⟨v,rfl,hv⟩:=r1.one
  cases hv
  exact⟨j,rfl,b1,b2,f _ _ M1 r H1 k1 a1 _ tZ⟩⟩)⟩
def p7(M:Mem)(x:D)(ds:List D):Prop:=x = .tup ds∨(∃ p,x = .ref p∧M p=some (.lst ds))∨x = .vl ds
noncomputable def eE:D→Bool
 | .tup _=>false
 | _=>true
theorem r9{K:JB}{H:Hp}{M:Mem}{v:V}{x:D}{ds:List D}(h:p7 M x ds)(am:m8 K H M)(r:Has K H v x):∃ a xs,v = .ref a∧SqK K (eE x) H a xs∧HasL K H xs ds:=by
 rcases h with rfl|⟨p,rfl,m⟩|rfl
 rotate_left 2
 ·obtain⟨a,xs,e,sq,l⟩:=r.il
  exact⟨a,xs,e,sq,l⟩
 ·cases r with
  | tup s l=>exact⟨_,_,rfl,s,l⟩
 ·cases r
  obtain⟨xs,hx,l⟩:=am.lst m
  exact⟨p,xs,rfl,SqL.of hx,l⟩
theorem S7{M:Mem}{x:D}{ds:List D}{q:Addr}{o:MO}(h:p7 M x ds)(hq:M q=none):p7 (B8 M q o) x ds:=by
 rcases h with h|⟨p,e,h⟩|h
 ·exact .inl h
 ·exact .inr (.inl ⟨p,e,by rw[J9 (by intro e;subst e;rw[hq]at h;cases h)];exact h⟩)
 ·exact .inr (.inr h)
noncomputable def P2(ds es:List D):List D:=List.zipWith (fun a b=>.tup [a,b]) ds es
theorem bt(ds es:List D):(P2 ds es).length=min ds.length es.length:=by simp[P2]
theorem sk{ds es:List D}{i:Nat}{a b:D}(h1:ds[i]? = some a)(h2:es[i]? = some b):(P2 ds es)[i]? = some (.tup [a,b]):=by
 unfold P2
 rw[List.getElem?_zipWith,h1,h2]
theorem tX{K:JB}{H1:Hp}{x y:D}{l1 l2:Addr}{ds es:List D}(h1:Has K H1 (.ref l1) x)(h2:Has K H1 (.ref l2) y) :
  mi K H1 (Itz K (eE x) (eE y) l1 l2) (P2 ds es) (fun M'=>p7 M' x ds∧p7 M' y es) where
 go:=fun i H' M' hi k am zz=>by
  obtain⟨s1,s2⟩:=zz
  rw[bt]at hi
  obtain⟨a,xs,e1,q1,m1⟩:=r9 s1 am (h1.mono k)
  obtain⟨b,ys,e2,q2,m2⟩:=r9 s2 am (h2.mono k)
  cases e1;cases e2
  exact⟨xs,ys,_,_,q1,q2,Kg (by rw[m1.length];omega),Kg (by rw[m2.length];omega)⟩
 yld:=fun i H' M' v H'' hi k am ⟨s1,s2⟩ ⟨T,a,b,hT,ev,eH,u1,u2⟩=>by
  subst ev;subst eH
  obtain⟨a',xs,e1,q1,m1⟩:=r9 s1 am (h1.mono k)
  obtain⟨b',ys,e2,q2,m2⟩:=r9 s2 am (h2.mono k)
  cases e1;cases e2
  obtain⟨d1,g1,r1⟩:=m1.getV (u1 xs q1)
  obtain⟨d2,g2,r2⟩:=m2.getV (u2 ys q2)
  have kt:KT H' (upd H' T (.tup [a,b])):=KT.alloc hT
  exact⟨_,sk g1 g2,kt,am.alloc hT,.tup (SqT.of i3) (.cons (r1.mono kt) (.cons (r2.mono kt) .nil))⟩
 stop:=fun i H' M' hi k am zz=>by
  obtain⟨s1,s2⟩:=zz
  rw[bt]at hi
  obtain⟨a,xs,e1,q1,m1⟩:=r9 s1 am (h1.mono k)
  obtain⟨b,ys,e2,q2,m2⟩:=r9 s2 am (h2.mono k)
  cases e1;cases e2
  refine⟨xs,ys,q1,q2,?_⟩
  rw[m1.length,m2.length]
  omega
 up:=fun _ _ _ st hq=>⟨S7 st.1 hq,S7 st.2 hq⟩
def Bj(ta:DTA):DTI:=fun e M R=>ta e M fun xs M1=>∃ x y ds es,xs=[x,y]∧p7 M1 x ds∧p7 M1 y es∧R (P2 ds es) (fun M'=>p7 M' x ds∧p7 M' y es) M1
theorem cB{elts:List Expr}{kx:Nat}{tp:Pos}{a b:Expr}{p pos:Pos}(hg:Gl X "zip")(hm:X.mg "zip" = none)(ha:JA X [a,b] ta)
  (hs:starEach [a,b] X.env=[(false,eval a X.env),(false,eval b X.env)]:=by rfl) (hs2:starEach [b] X.env=[(false,eval b X.env)]:=by rfl):JI X (.Tuple elts kx tp) (.Call (.Name "zip" p) [a,b] [] pos) (Bj ta):=⟨have ha:=ha.out;PI.imp (CH hg hm ha hs hs2) (by rintro σ H R ⟨e,M,R',ok,am,t,f⟩;exact⟨e,M,_,ok,am,t,fun xs M1 ⟨x,y,ds,es,z,s1,s2,r⟩ vs H1 k1 a1 r1=>by
  subst z
  obtain⟨v,v',rfl,hv,hv'⟩:=r1.two
  obtain⟨a,zs,rfl,q1,m1⟩:=r9 s1 a1 hv
  obtain⟨b,ws,rfl,q2,m2⟩:=r9 s2 a1 hv'
  exact⟨_,_,a,b,rfl,⟨zs,q1⟩,⟨ws,q2⟩,f _ _ M1 r H1 k1 a1 _ (tX hv hv')⟩⟩)⟩
end
section
variable {X:Cx} {tg iter:Expr} {body:List Stmt} {ti:DTI} {g:DTG} {tb:DTS} {pos:Pos}
theorem u9(hp:PassesOwn (model X.prog X.w) X.A X.env X.xe)(hc:X.calm=true)(hi:JI X tg iter ti)(hg:JG X tg g)(hb:JSs X body tb)
  (hs:∀ x,foldedSetIterable iter X.env x=pure x:=by intro _;rfl):JS X (.For tg iter body [] pos) (Gj ti g tb):=⟨have hi:=hi.out;have hg:=hg.out;have hb:=hb.out;(CF hp hc hi hg hb hs).imp (by rintro E σ H ⟨e,M,F,ok,am,t,f⟩;exact⟨e,M,_,ok,am,t,fun ds stay M1 ⟨W,w0,hst,step,done⟩ H1 k1 a1 J wk=>by
  refine⟨fun i m σ' H'=>m=ds.length - i∧i≤ds.length∧∃ e' M',KT H1 H'∧u8 X.K H' σ' e'∧m8 X.K H' M'∧W i e' M',⟨ds.length,by simp,KU _,e,M1,KT.refl H1,ok.mono k1,a1,w0⟩,?_⟩
  rintro i m σ2 H2 ⟨rfl,hi,e2,M2,k2,ok2,a2,w2⟩
  have st:=hst i e2 M2 hi w2
  by_cases hlt:i<ds.length
  ·refine .inr ⟨wk.go i H2 M2 hlt k2 a2 st,fun σ' H'=>∃ e' M',KT H1 H'∧u8 X.K H' σ' e'∧m8 X.K H' M'∧W (i+1) e' M',fun σ' H' h=>⟨ds.length - (i+1),by omega,rfl,hlt,h⟩,fun y H' yl=>?_⟩
   obtain⟨d,hd,k3,a3,r⟩:=wk.yld i H2 M2 y H' hlt k2 a2 st yl
   exact wd f k1 (k2.trans k3) (ok2.mono k3) a3 r (step i d e2 M2 hd w2)
  ·have e':i=ds.length:=by omega
   subst e'
   exact .inl ⟨wk.stop _ H2 M2 (JY _) k2 a2 st,f.nx e2 M2 (done e2 M2 w2) σ2 H2 (k1.trans k2) a2 ok2⟩⟩)⟩
end
noncomputable def lZ(n:Nat)(caps:List Nat)(e:Ev):Ev:=LA n none++caps.map fun i=>(e[i]?).getD none
theorem zK{K:JB}{H:Hp}{σ:St}{e:Ev}(n:Nat)(caps:List Nat)(ok:u8 K H σ e):u8 K H (jC n caps σ) (lZ n caps e):=by
 refine⟨by simp[jC,lZ],fun i d h=>?_⟩
 unfold lZ at h
 unfold jC
 rw[Mi]at h ⊢
 rw[LZ]at h ⊢
 by_cases hi:i<n
 ·rw[if_pos hi]at h
  rw[Lk]at h
  split at h<;>cases h
 ·rw[if_neg hi]at h ⊢
  rw[Ki]at h ⊢
  cases hj:caps[i - n]? with
  | none=>rw[hj]at h;cases h
  | some j =>
   rw[hj]at h
   have h':(e[j]?).getD none=some d:=by simpa using h
   have he:e[j]? = some (some d):=by
    cases q:e[j]? with
    | none=>rw[q]at h';cases h'
    | some z=>rw[q]at h';rw[show z=some d by simpa using h']
   obtain⟨v,h1,h2⟩:=ok.has j d he
   exact⟨v,by simp[h1],h2⟩
theorem fq{p:Str→Prop}{a:Str}(h:p a):∀ x∈[a],p x:=fun x hx=>by
 simp only[JJ,Ks,or_false]at hx
 subst hx;exact h
theorem Gv{p:Str→Prop}{a b:Str}(h:p a)(h2:p b):∀ x∈[a,b],p x:=fun x hx=>by
 simp only[JJ,Ks,or_false]at hx
 rcases hx with rfl|rfl
 ·exact h
 ·exact h2
section
variable {X:Cx}
def Hi(K:JB)(tl:TE):TI:=fun σ H R=>tl σ H fun x H1=>∃(a:Addr) (k:Bool),x = .ref a∧(∃ xs,SqK K k H1 a xs)∧R (if k=true then Itl K a else Itt K a) H1
theorem CI{tg l:Expr}{tl:TE}(hl:PE X l tl):PI X tg l (Hi X.K tl):=by
 intro pins s σ H R I h
 refine thn (hl pins s σ H _ I h) fun v s1 zz=>?_
 obtain⟨x,H1,I1,r1,q1⟩:=zz
 obtain⟨a,k,e,⟨xs,hq⟩,q⟩:=q1
 subst e
 cases r1
 obtain⟨its,rv,p⟩:=I1.sqk hq
 have nf:∀ b∈[s1.heap.objs.size],Y4 X pins H1 b:=fun b hb=>by
  have e:b=s1.heap.objs.size:=by simpa using hb
  subst e
  exact I1.fpOk (JY _) (I1.hok.fresh (JY _))
 cases k with
 | true=>exact wpAny_pyIter_list p ⟨s1.heap.objs.size,[s1.heap.objs.size],_,_,H1,rfl,I1.kept (t':=s1.toks) fun b o e=>JL _ e,qP a _,⟨_,Kk _ rfl,rfl,rfl⟩,nf,q⟩
 | false=>exact wpAny_pyIter_tuple p ⟨s1.heap.objs.size,[s1.heap.objs.size],_,_,H1,rfl,I1.kept (t':=s1.toks) fun b o e=>JL _ e,mw a _,⟨_,Kk _ rfl,rfl,rfl⟩,nf,q⟩
def Bk(ti:DTE):DTI:=fun e M R=>ti e M fun x M1=>∃ ds,p7 M1 x ds∧R ds (fun M'=>p7 M' x ds) M1
theorem t5{tg iter:Expr}{ti:DTE}(hi:JE X iter ti):JI X tg iter (Bk ti):=⟨have hi:=hi.out;PI.imp (CI hi) (by rintro σ H R ⟨e,M,R',ok,am,t,f⟩;exact⟨e,M,_,ok,am,t,fun x M1 ⟨ds,sq,r⟩ v H1 k1 a1 r1=>by
 have sq':=sq
 rcases sq with rfl|⟨p,rfl,hm⟩|rfl
 rotate_left 2
 ·obtain⟨a,xs,rfl,sq,l⟩:=r1.il
  have wk:mi X.K H1 (Itl X.K a) ds (fun M'=>p7 M' (.vl ds) ds):=⟨fun i H' M' hi k am _=>by
    obtain⟨a',ys,e,sq',l'⟩:=(r1.mono k).il
    cases e
    exact⟨ys,_,sq',Kg (by rw[l'.length];exact hi)⟩,
   fun i H' M' x H'' hi k am _ zz=>by
    obtain⟨e,y⟩:=zz
    subst e
    obtain⟨a',ys,e,sq',l'⟩:=(r1.mono k).il
    cases e
    obtain⟨d,hd,r⟩:=l'.getV (y ys sq')
    exact⟨d,hd,KT.refl _,am,r⟩,
   fun i H' M' hi k am _=>by
    obtain⟨a',ys,e,sq',l'⟩:=(r1.mono k).il
    cases e
    exact⟨ys,sq',by rw[l'.length];exact hi⟩,fun _ _ _ st hq=>S7 st hq⟩
  exact⟨a,true,rfl,⟨xs,sq⟩,f ds _ M1 r H1 k1 a1 _ wk⟩
 ·cases r1 with
  | tup s l =>
   refine⟨_,false,rfl,⟨_,s⟩,f ds _ M1 r H1 k1 a1 _ ?_⟩
   have w:=tY (K:=X.K) s l
   exact⟨fun i H' M' a b c _=>w.go i H' M' a b c trivial,fun i H' M' y H2 a b c _ g=>w.yld i H' M' y H2 a b c trivial g,fun i H' M' a b c _=>w.stop i H' M' a b c trivial,fun _ _ _ st hq=>S7 st hq⟩
 ·cases r1
  obtain⟨xs,hx,l⟩:=a1.lst hm
  refine⟨p,true,rfl,⟨xs,SqL.of hx⟩,f ds _ M1 r H1 k1 a1 _ ?_⟩
  have w:=ue (K:=X.K) (H1:=H1) (p:=p) (ds:=ds)
  have cv:∀{M':Mem},p7 M' (.ref p) ds→M' p=some (.lst ds):=fun z=>by
   rcases z with z|⟨p',z,h⟩|z
   ·cases z
   ·cases z;exact h
   ·cases z
  exact⟨fun i H' M' a b c z=>w.go i H' M' a b c (cv z),fun i H' M' y H2 a b c z g=>w.yld i H' M' y H2 a b c (cv z) g,fun i H' M' a b c z=>w.stop i H' M' a b c (cv z),fun _ _ _ st hq=>S7 st hq⟩⟩)⟩
end
theorem vW{K:JB}{mg:Str→Option Value}{h:Heap}{x:Str}{a b c:Addr}{od od1 od2:Option Addr}{osl osl1 osl2:Array (Option Value)}{i j k l:Int}{t1 t2 t3 t4:Tok}{cap cap1 cap2:Nat}(X:K.In h)(G:h.Ns mainGlobals mg)
  (n:PySem.W.nsIn K mainGlobals x=some (some (.ref a))) (l0:K.lookup a=some ⟨.type "tuple",od,.seq #[.ref b,.ref c] cap,osl⟩)
  (l1:K.lookup b=some ⟨.type "tuple",od1,.seq #[.int i t1,.int j t2] cap1,osl1⟩) (l2:K.lookup c=some ⟨.type "tuple",od2,.seq #[.int k t3,.int l t4] cap2,osl2⟩):GlD K mg x (.tup [.tup [.int i,.int j],.tup [.int k,.int l]]):=by
 have two:(2:Nat)≤sizeLine:=by decide
 have p1:∀ H:Hp,Has K H (.ref b) (.tup [.int i,.int j]):=fun H=>.tup (xs:=[.int i,.int j]) (.inr ⟨_,_,_,l1,rfl,rfl,two,.cons (show o7 (.int i) (.int i t1)from⟨t1,rfl⟩) (.cons (show o7 (.int j) (.int j t2)from⟨t2,rfl⟩) .nil)⟩) (.cons (.int i) (.cons (.int j) .nil))
 have p2:∀ H:Hp,Has K H (.ref c) (.tup [.int k,.int l]):=fun H=>.tup (xs:=[.int k,.int l]) (.inr ⟨_,_,_,l2,rfl,rfl,two,.cons (show o7 (.int k) (.int k t3)from⟨t3,rfl⟩) (.cons (show o7 (.int l) (.int l t4)from⟨t4,rfl⟩) .nil)⟩) (.cons (.int k) (.cons (.int l) .nil))
 exact⟨.ref a,.ref a,PySem.W.mg_of X G n,rfl,fun H=>.tup (xs:=[.ref b,.ref c]) (.inr ⟨_,_,_,l0,rfl,rfl,two,.cons (show o7 (.ref b) (.ref b)from rfl) (.cons (show o7 (.ref c) (.ref c)from rfl) .nil)⟩) (.cons (p1 H) (.cons (p2 H) .nil))⟩
theorem zX{ds:List D}{r:Int}(h0:0≤r)(h1:r<ds.length):∃ d,atI ds r=some d∧d∈ds:=by
 unfold atI ixN
 rw[if_pos h0,if_pos h1]
 have hl:r.toNat<ds.length:=by omega
 exact⟨ds[r.toNat],by simp[hl],LJ hl⟩
section
variable {X:Cx}
end
section
variable {X:Cx}
def qv:DRM:=fun x xs M R=>∃ l ds v,x = .ref l∧xs=[v]∧M l=some (.lst ds)∧ds.length<sizeLine∧R .non (B8 M l (.lst (ds++[v])))
theorem M9:DMt X "list.append" qv:=MtR.imp (r:=pN) gq (by
 rintro x xs H Q ⟨dx,ds,M,R,hx,hl,am,⟨l,es,v,e1,e2,hM,hz,r⟩,f⟩
 subst e1;subst e2
 cases hx
 obtain⟨w,rfl,hw⟩:=hl.one
 obtain⟨ys,hy,ly⟩:=am.lst hM
 exact⟨l,ys,w,rfl,rfl,hy,by rw[ly.length];exact hz,f _ _ r _ _ (KT.write hy) (am.write hy (ly.append (.cons hw .nil))) .non⟩)
end
section
variable {X:Cx}
end
noncomputable abbrev DTO:=Ev→Mem→(Option Int→Mem→Prop)→Prop
def upO(K:JB)(t:DTO):TO:=fun σ H Q=>∃ e M R,u8 K H σ e∧m8 K H M∧t e M R∧∀ o M',R o M'→∀ H',KT H H'→m8 K H' M'→Q o H'
def DPO(X:Cx)(e:Option Expr)(t:DTO):Prop:=PO X e (upO X.K t)
structure JO(X:Cx)(e:Option Expr)(t:DTO):Prop where
 out:DPO X e t
def qD:DTO:=fun _ M R=>R none M
def Bp(t:DTE):DTO:=fun e M R=>t e M fun x M1=>∃ i,x = .int i∧R (some i) M1
theorem PO.imp{X:Cx}{e:Option Expr}{t t':TO}(h:PO X e t)(i:∀ σ H Q,t' σ H Q→t σ H Q):PO X e t':=fun pins s σ H Q I q=>h pins s σ H Q I (i σ H Q q)
section
variable {X:Cx} {e:Expr} {te:DTE} {lo hi:Option Expr} {tl th:DTO} {pos p2:Pos}
theorem t8:JO X none qD:=⟨PO.imp yH (by rintro σ H Q ⟨e,M,R,ok,am,t,f⟩;exact f none M t H (KT.refl H) am)⟩
theorem t7(h:JE X e te):JO X (some e) (Bp te):=⟨have h:=h.out;PO.imp (yG h) (by rintro σ H Q ⟨e,M,R,ok,am,t,f⟩;exact⟨e,M,_,ok,am,t,fun x M1 ⟨i,z,r⟩ v H1 k1 a1 r1=>by
 subst z;cases r1
 exact⟨i,rfl,f (some i) M1 r H1 k1 a1⟩⟩)⟩
noncomputable def J6(ds:List D)(lo hi:Option Int):List D:=(ds.drop (HT.sIx ds.length 0 lo)).take (HT.sIx ds.length ds.length hi - HT.sIx ds.length 0 lo)
theorem HasL.cut{K:JB}{H:Hp}{xs:List V}{ds:List D}(h:HasL K H xs ds)(lo hi:Option Int):HasL K H (lP xs lo hi) (J6 ds lo hi):=by
 unfold lP J6
 rw[h.length]
 exact(h.drop _).take _
end
noncomputable def R7(ds:List D):List D:=ds.mapIdx fun i d=>.tup [.int i,d]
theorem G6(ds:List D):(R7 ds).length=ds.length:=by simp[R7]
theorem rR{ds:List D}{i:Nat}{d:D}(h:ds[i]? = some d):(R7 ds)[i]? = some (.tup [.int i,d]):=by
 unfold R7
 rw[Nj,h];rfl
theorem lJ{ds:List D}{i:Nat}{x:D}(h:(R7 ds)[i]? = some x):∃ d,ds[i]? = some d∧x = .tup [.int i,d]:=by
 unfold R7 at h
 rw[Nj]at h
 cases e:ds[i]? with
 | none=>rw[e]at h;cases h
 | some d=>rw[e]at h;exact⟨d,rfl,(Option.some.inj h).symm⟩
theorem qO{K:JB}{H1:Hp}{x:D}{l:Addr}{ds:List D}(h1:Has K H1 (.ref l) x):mi K H1 (Ite K (eE x) l) (R7 ds) (fun M'=>p7 M' x ds) where
 go:=fun i H' M' hi k am s1=>by
  rw[G6]at hi
  obtain⟨a,xs,e1,q1,m1⟩:=r9 s1 am (h1.mono k)
  cases e1
  exact⟨xs,_,q1,Kg (by rw[m1.length];omega)⟩
 yld:=fun i H' M' v H'' hi k am s1 zz=>by
  obtain⟨T,a,hT,ev,eH,u1⟩:=zz
  subst ev;subst eH
  obtain⟨a',xs,e1,q1,m1⟩:=r9 s1 am (h1.mono k)
  cases e1
  obtain⟨d1,g1,r1⟩:=m1.getV (u1 xs q1)
  have kt:KT H' (upd H' T (.tup [.int i,a])):=KT.alloc hT
  exact⟨_,rR g1,kt,am.alloc hT,.tup (SqT.of i3) (.cons (.int _) (.cons (r1.mono kt) .nil))⟩
 stop:=fun i H' M' hi k am s1=>by
  rw[G6]at hi
  obtain⟨a,xs,e1,q1,m1⟩:=r9 s1 am (h1.mono k)
  cases e1
  exact⟨xs,q1,by rw[m1.length];exact hi⟩
 up:=fun _ _ _ st hq=>S7 st hq
section
variable {X:Cx} {ta:DTA}
def wt(ta:DTA):DTI:=fun e M R=>ta e M fun xs M1=>∃ x ds,xs=[x]∧p7 M1 x ds∧R (R7 ds) (fun M'=>p7 M' x ds) M1
theorem lC{elts:List Expr}{kx:Nat}{tp:Pos}{a:Expr}{p pos:Pos}(hg:Gl X "enumerate")(hm:X.mg "enumerate" = none)(ha:JA X [a] ta)(hs:starEach [a] X.env=[(false,eval a X.env)]:=by rfl):JI X (.Tuple elts kx tp) (.Call (.Name "enumerate" p) [a] [] pos) (wt ta):=⟨have ha:=ha.out;PI.imp (yI hg hm ha hs) (by rintro σ H R ⟨e,M,R',ok,am,t,f⟩;exact⟨e,M,_,ok,am,t,fun xs M1 ⟨x,ds,z,s1,r⟩ vs H1 k1 a1 r1=>by
  subst z
  obtain⟨v,rfl,hv⟩:=r1.one
  obtain⟨a,zs,rfl,q1,m1⟩:=r9 s1 a1 hv
  exact⟨_,a,rfl,⟨zs,q1⟩,f _ _ M1 r H1 k1 a1 _ (qO hv)⟩⟩)⟩
end
noncomputable def bg(M:Mem)(a:Addr):Mem:=fun b=>if b=a then none else M b
theorem jw{M:Mem}{a b:Addr}(h:b≠a):bg M a b=M b:=by unfold bg;rw[if_neg h]
theorem aD{M:Mem}{a:Addr}{o:MO}(h:M a=none):bg (B8 M a o) a=M:=by
 funext b;unfold bg B8;by_cases e:b=a
 ·rw[if_pos e,e,h]
 ·rw[if_neg e,if_neg e]
section
variable {K:JB} {H:Hp} {M:Mem} {p:Addr}
theorem m8.at{o:HO}(h:m8 K H M)(k:KT0 H (upd H p o))(hp:M p=none):m8 K (upd H p o) M:=fun a u m=>by
 cases u with
 | lst ds =>
  obtain⟨xs,z,l⟩:=h a _ m
  have hn:a≠p:=by intro e;subst e;rw[hp]at m;cases m
  exact⟨xs,by rw[g6 hn];exact z,l.mono0 k⟩
 | ins C fs =>
  obtain⟨C0,dx,ys,z,l,hc⟩:=h a _ m
  have hn:a≠p:=by intro e;subst e;rw[hp]at m;cases m
  exact⟨C0,dx,ys,by rw[g6 hn];exact z,l.mono0 k,hc⟩
theorem m8.del(h:m8 K H M):m8 K H (bg M p):=fun a u m=>by
 by_cases e:a=p
 ·subst e;unfold bg at m;rw[if_pos rfl]at m;cases m
 ·rw[jw e]at m;exact h a u m
theorem gy:bg M p p=none:=by unfold bg;rw[if_pos rfl]
theorem m8.none_ext{φ:Heap→Prop}(h:m8 K H M)(e:H p=some (.ext φ)):M p=none:=by
 cases q:M p with
 | none=>rfl
 | some o =>
  cases o with
  | lst ds=>obtain⟨xs,z,_⟩:=h p _ q;rw[e]at z;cases z
  | ins C fs=>obtain⟨_,dx,ys,z,_⟩:=h p _ q;rw[e]at z;cases z
end
section
variable {X:Cx} {x:Expr} {t:DTE} {es:List Expr} {tr:DTA} {pos:Pos}
def Gi(t:DTE):DTE:=fun e M R=>t e M fun x M1=>∃ p ds,x = .ref p∧M1 p=some (.lst ds)∧R (.vl ds) (bg M1 p)
theorem nt(h:JE X x t):JE X x (Gi t):=⟨have h:=h.out;(dU h).imp (by rintro σ H Q ⟨e,M,R,ok,am,t,f⟩;exact⟨e,M,_,ok,am,t,fun d M1 ⟨p,ds,z,hm,r⟩ v H1 k1 a1 r1=>by
 subst z
 cases r1
 obtain⟨xs,hx,lx⟩:=a1.lst hm
 exact⟨p,xs,rfl,hx,fun o=>f _ _ r _ _ (k1.trans (KT.any hx)) (a1.del.at (KT.any hx).toKT0 gy) (.vl (.inl ⟨o,i3⟩) (lx.mono (KT.any hx)))⟩⟩)⟩
def Gk(t:DTE):DTE:=fun e M R=>t e M fun x M1=>∃ M2:Mem,(∀ b o,M2 b=some o→M1 b=some o)∧R x M2
theorem bb(h:JE X x t):JE X x (Gk t):=⟨have h:=h.out;PE.imp h (by rintro σ H Q ⟨e,M,R,ok,am,t,f⟩;exact⟨e,M,_,ok,am,t,fun d M1 ⟨M2,hs,r⟩ v H1 k1 a1 r1=>f d M2 r v H1 k1 (fun a o q=>a1 a o (hs a o q)) r1⟩)⟩
def Bs(t:DTA):DTE:=fun e M R=>t e M fun ds M1=>ds.length≤sizeLine∧R (.vl ds) M1
theorem cE{K:JB}{H0 H:Hp}{M:Mem}{R:DK}{Q:VK}{vs:List V}{ds:List D}(f:eV K H0 R Q)(k:KT H0 H)(am:m8 K H M)(l:HasL K H vs ds)(r:R (.vl ds) M)(p:Addr)(hp:H p=none) :
  ∃ q xs,V.ref p = .ref q∧upd H p (.lst vs) q=some (.lst xs)∧∀ o,Q (.ref p) (upd (upd H p (.lst vs)) q (.frz o (.lst xs))) :=
 ⟨p,vs,rfl,i3,fun o=>by
  rw[Y6]
  exact f _ M r _ _ (k.trans (KT.alloc hp)) (am.alloc hp) (.vl (.inl ⟨o,i3⟩) (l.mono (KT.alloc hp)))⟩
theorem D6(h:JA X es tr):JE X (.List es pos) (Bs tr):=⟨have h:=h.out;(dU (vd h)).imp (by rintro σ H Q ⟨e,M,R,ok,am,t,f⟩;exact⟨e,M,_,ok,am,t,fun ds M1 ⟨hz,h1⟩ vs H1 k1 a1 r1=>⟨by rw[r1.length];exact hz,fun p hp=>cE f k1 a1 r1 h1 p hp⟩⟩)⟩
def wa(x y:D)(M:Mem)(R:DK):Prop:=∃ xs ys,R6 M x=some xs∧R6 M y=some ys∧xs.length+ys.length≤sizeLine∧R (.vl (xs++ys)) M
def Bw(ta tb:DTE):DTE:=fun e M R=>ta e M fun x M1=>tb e M1 fun y M2=>wa x y M2 R
theorem G4{a b:Expr}{ta tb:DTE}(ha:JE X a ta)(hb:JE X b tb):JE X (.BinOp a .Add b pos) (Bw ta tb):=⟨have ha:=ha.out;have hb:=hb.out;(dU (AZ yY ha hb)).imp (by rintro σ H Q ⟨e,M,R,ok,am,t,f⟩;exact⟨e,M,_,ok,am,t,fun x M1 h1 v H1 k1 a1 r1=>⟨e,M1,_,ok.mono k1,a1,h1,fun y M2 ⟨xs,ys,e1,e2,hz,r⟩ u H2 k2 a2 r2=>by
  obtain⟨a,vs,rfl,s1,l1⟩:=E6 a2 (r1.mono k2) e1
  obtain⟨b,ws,rfl,s2,l2⟩:=E6 a2 r2 e2
  exact⟨a,b,vs,ws,rfl,rfl,s1,s2,by rw[l1.length,l2.length];exact hz,fun p hp=>cE f (k1.trans k2) a2 (l1.append l2) r p hp⟩⟩⟩)⟩
def zI(x:D)(lo hi:Option Int)(M:Mem)(R:DK):Prop:=(∃ ds,R6 M x=some ds∧R (.vl (J6 ds lo hi)) M) ∨ ∃ ds,x = .tup ds∧¬ (HT.sIx ds.length 0 lo=0∧HT.sIx ds.length ds.length hi=ds.length)∧R (.tup (J6 ds lo hi)) M
def FZ(te:DTE)(tl th:DTO):DTE:=fun e M R=>te e M fun x M1=>tl e M1 fun l M2=>th e M2 fun u M3=>zI x l u M3 R
theorem t9{e:Expr}{te:DTE}{lo hi:Option Expr}{tl th:DTO}{p2:Pos}(he:JE X e te)(hl:JO X lo tl)(hu:JO X hi th):JE X (.Subscript e (.Slice lo hi none p2) pos) (FZ te tl th):=⟨have he:=he.out;have hl:=hl.out;have hu:=hu.out;(yN (vc (SlR.or yo Cj) he hl hu)).imp (by rintro σ H Q ⟨e,M,R,ok,am,t,f⟩;exact⟨e,M,_,ok,am,t,fun x M1 h1 v H1 k1 a1 r1=>⟨e,M1,_,ok.mono k1,a1,h1,fun l M2 h2 H2 k2 a2=>⟨e,M2,_,(ok.mono k1).mono k2,a2,h2,fun u M3 h3 H3 k3 a3=>by
  rcases h3 with⟨ds,hi,r⟩|⟨ds,rfl,hw,r⟩
  ·obtain⟨a,xs,rfl,sq,lx⟩:=E6 a3 ((r1.mono k2).mono k3) hi
   exact .inl ⟨a,xs,rfl,sq,fun p hp=>.inl (cE f (k1.trans (k2.trans k3)) a3 (lx.cut l u) r p hp)⟩
  ·cases(r1.mono k2).mono k3 with
   | tup sq lx =>
    exact .inr ⟨_,_,rfl,sq,by rw[lx.length];exact hw,fun p hp=>.inr (f _ M3 r _ _ ((k1.trans (k2.trans k3)).trans (KT.alloc hp)) (a3.alloc hp) (.tup (SqT.of i3) ((lx.cut l u).mono (KT.alloc hp))))⟩⟩⟩⟩)⟩
def eI(ds:List D)(M:Mem)(R:DK):Prop:=∃ x ys,ds=[x]∧p7 M x ys∧R (.vl ys) M
def wB(t:DTA):DTE:=fun e M R=>t e M fun ds M1=>eI ds M1 R
end
section
variable {X:Cx} {e:Expr} {es:List Expr} {t:DTA} {x:Str} {p pos:Pos}
theorem lE(hg:Gl X x)(hm:X.mg x=none)(hv:bootBuiltins x=some (.type "list"))(ha:JA X (e :: es) t)
  (hn:x ≠ "__name__" := by decide) (hdb:(x == ("__debug__" : Str))=false:=by decide) (he:starEach (e :: es) X.env=(false,eval e X.env) :: starEach es X.env:=by rfl) (hpl:(backTo pos (starEach es X.env)).any (·.1)=false:=by rfl):JE X (.Call (.Name x p) (e :: es) [] pos) (wB t):=⟨have ha:=ha.out;(dU (gn jD hg hm hv ha hn hdb he hpl)).imp (by rintro σ H Q ⟨e,M,R,ok,am,t,f⟩;exact⟨e,M,_,ok,am,t,fun ds M1 ⟨d,ys,z,sq,r⟩ vs H1 k1 a1 r1=>by
  subst z
  obtain⟨v,rfl,hv⟩:=r1.one
  obtain⟨a,xs,rfl,q1,m1⟩:=r9 sq a1 hv
  refine⟨a,xs,rfl,?_,fun p hp=>cE f k1 a1 m1 r p hp⟩
  cases hk:eE d with
  | true=>rw[hk]at q1;exact .inl q1
  | false=>rw[hk]at q1;exact .inr q1⟩)⟩
variable {te:DTE} {pos':Pos}
end
section
variable {X:Cx}
def DB(neg:Bool):DR2:=fun x y M R=>∃ ds,cl 60 x=true∧p7 M y ds∧clL 59 ds=true∧R (.bl (neg.xor (@decide (x∈ds) (KA _)))) M
noncomputable def B7(h:Heap)(p:PyData)(y:Value):Bool:=@decide (∃ d as,Reads h y d as∧PyData.eqv d p=true) (KA _)
theorem qX{h:Heap}{p d:PyData}{y:Value}{as:List Addr}(c:d.canLay0=true)(r:Reads h y d as):B7 h p y=PyData.eqv d p:=by
 unfold B7
 cases e:PyData.eqv d p with
 | true=>exact @decide_eq_true _ (KA _) ⟨d,as,r,e⟩
 | false =>
  refine @decide_eq_false _ (KA _) ?_
  rintro⟨d',as',r',e'⟩
  rw[← SeqAt.Reads.unique d d' y as as' c r r',e]at e'
  cases e'
theorem J3{X:Cx}{pins:List (Addr × Obj)}{s:Shared}{σ:St}{H:Hp}{M:Mem}{B:Around}{x:D}{u:Value}{bs:List Addr}(I:Inv X pins σ H s)(am:m8 X.K H M)(hB:B.units+62<cLine)(cx:cl 60 x=true)(rx:Reads s.heap u (pyD x) bs) :
  ∀{ds:List D} {vs:List V} {us:List Value},clL 59 ds=true→HasL X.K H vs ds→i8 vs us→(∀ w∈us,SeqAt.EqAt B s w u (B7 s.heap (pyD x) w))∧us.any (B7 s.heap (pyD x)) = @decide (x∈ds) (KA _)
 | [],_,_,_,h,r=>by
  cases h;cases r
  refine⟨fun w hw=>(nomatch hw),?_⟩
  rw[List.any_nil]
  exact(@decide_eq_false _ (KA _) (fun z=>nomatch z)).symm
 | d :: ds,_,_,c,h,r=>by
  cases h with
  | cons h hl =>
   cases r with
   | cons r rl =>
    have c':cl 59 d=true∧clL 59 ds=true:=by simpa[clL]using c
    obtain⟨ih1,ih2⟩:=J3 I am hB cx rx c'.2 hl rl
    obtain⟨p1,p2,p3⟩:=eP (M:=M) c'.1
    obtain⟨q1,q2,q3⟩:=eP (M:=M) cx
    obtain⟨as,rd⟩:=F0 I am p1 h r
    have es:=qX (p:=pyD x) p2 rd
    refine⟨fun w hw=>?_,?_⟩
    ·rcases JJ.mp hw with rfl|hw
     ·rw[es]
      exact SeqAt.eqAt_reads _ _ B s _ _ _ _ rd rx p2 q2 (by have:=Od (pyD d).depth (pyD x).depth;omega)
     ·exact ih1 w hw
    ·rw[List.any_cons,es,ih2]
     have ev:=nK c'.1 cx
     by_cases e:d=x
     ·rw[ev.mpr e]
      exact(@decide_eq_true _ (KA _) (by rw[e];exact JH)).symm
     ·have:PyData.eqv (pyD d) (pyD x)=false:=by
       cases z:PyData.eqv (pyD d) (pyD x)with
       | false=>rfl
       | true=>exact absurd (ev.mp z) e
      rw[this,Bool.false_or]
      congr 1
      refine propext ⟨fun z=>JF _ z,fun z=>?_⟩
      rcases JJ.mp z with z|z
      ·exact absurd z.symm e
      ·exact z
theorem Fz(hu:X.A.units+64<cLine):DOp X (compareOp .In) (DB false):=by
 intro pins s σ H x y v u Q I rx ry h
 obtain⟨dx,dy,M,R,hx,hy,am,⟨ds,c1,sq,c2,r⟩,f⟩:=h
 obtain⟨a,xs,rfl,q1,m1⟩:=r9 sq am hy
 cases ry
 obtain⟨bs,rd⟩:=F0 I am (eP (M:=M) c1).1 hx rx
 have fin:=f _ M r _ H (KT.refl H) am (.bl _)
 cases hk:eE dy with
 | true =>
  rw[hk]at q1
  obtain⟨its,rv,pl,hz⟩:=I.list q1
  obtain⟨i1,i2⟩:=J3 (B:=X.A.in1) I am (by show X.A.units+1+62<cLine;omega) c1 rd c2 m1 rv
  refine SeqAt.in_listAt (B7 s.heap (pyD dx)) pl.isList (fun w hw=>i1 w (by simpa using hw)) ⟨.bl _,H,I,rfl,?_⟩
  rw[show its.toArray.any (B7 s.heap (pyD dx))=its.any (B7 s.heap (pyD dx))by simp,i2]
  simpa using fin
 | false =>
  rw[hk]at q1
  obtain⟨its,rv,pl,hz⟩:=I.tuple q1
  obtain⟨i1,i2⟩:=J3 (B:=X.A.in1) I am (by show X.A.units+1+62<cLine;omega) c1 rd c2 m1 rv
  refine SeqAt.in_tupleAt (B7 s.heap (pyD dx)) pl (fun w hw=>i1 w (by simpa using hw)) ⟨.bl _,H,I,rfl,?_⟩
  rw[show its.toArray.any (B7 s.heap (pyD dx))=its.any (B7 s.heap (pyD dx))by simp,i2]
  simpa using fin
theorem vB(hu:X.A.units+64<cLine):DOp X (compareOp .NotIn) (DB true):=by
 intro pins s σ H x y v u Q I rx ry h
 obtain⟨dx,dy,M,R,hx,hy,am,⟨ds,c1,sq,c2,r⟩,f⟩:=h
 obtain⟨a,xs,rfl,q1,m1⟩:=r9 sq am hy
 cases ry
 obtain⟨bs,rd⟩:=F0 I am (eP (M:=M) c1).1 hx rx
 have fin:=f _ M r _ H (KT.refl H) am (.bl _)
 cases hk:eE dy with
 | true =>
  rw[hk]at q1
  obtain⟨its,rv,pl,hz⟩:=I.list q1
  obtain⟨i1,i2⟩:=J3 (B:=X.A.in1) I am (by show X.A.units+1+62<cLine;omega) c1 rd c2 m1 rv
  refine SeqAt.notIn_listAt (B7 s.heap (pyD dx)) pl.isList (fun w hw=>i1 w (by simpa using hw)) ⟨.bl _,H,I,rfl,?_⟩
  rw[show its.toArray.any (B7 s.heap (pyD dx))=its.any (B7 s.heap (pyD dx))by simp,i2]
  simpa using fin
 | false =>
  rw[hk]at q1
  obtain⟨its,rv,pl,hz⟩:=I.tuple q1
  obtain⟨i1,i2⟩:=J3 (B:=X.A.in1) I am (by show X.A.units+1+62<cLine;omega) c1 rd c2 m1 rv
  refine SeqAt.notIn_tupleAt (B7 s.heap (pyD dx)) pl (fun w hw=>i1 w (by simpa using hw)) ⟨.bl _,H,I,rfl,?_⟩
  rw[show its.toArray.any (B7 s.heap (pyD dx))=its.any (B7 s.heap (pyD dx))by simp,i2]
  simpa using fin
end
noncomputable abbrev aH:=Ev→Mem→(Bool→Mem→Prop)→Prop
abbrev GC(X:Cx)(ifs:List Expr)(t:aH):Prop:=br X ifs (upT X.K t)
structure Ae(X:Cx)(ifs:List Expr)(t:aH):Prop where
 out:GC X ifs t
def zM:aH:=fun _ M R=>R true M
theorem br.imp{X:Cx}{ifs:List Expr}{t t':TT}(h:br X ifs t)(i:∀ σ H Q,t' σ H Q→t σ H Q):br X ifs t':=fun pins s σ H Q I q=>h pins s σ H Q I (i σ H Q q)
theorem v6{X:Cx}:Ae X [] zM:=⟨br.imp uY (by rintro σ H Q ⟨e,M,R,ok,am,t,f⟩;exact f true M t H (KT.refl H) am)⟩
theorem rM{X:Cx}{c:Expr}{t:DTT}(h:JT X c t):Ae X [c] t:=⟨have h:=h.out;uX h⟩
structure mn(e0:Ev)(g:DTG)(tc:aH)(te:DTE)(ds:List D)(stay:Mem→Prop)(M1:Mem)(E:List D→Mem→Prop)(W:Nat→List D→Mem→Prop):Prop where
 start:W 0 [] M1
 stays:∀ i ys M,i≤ds.length→W i ys M→stay M
 turn:∀(i:Nat) (d:D) ys M,ds[i]? = some d→W i ys M→g d e0 M fun e2 M2=>tc e2 M2 fun b M3=>if b=true then te e2 M3 fun v M4=>ys.length<sizeLine∧W (i+1) (ys++[v]) M4 else W (i+1) ys M3
 done:∀ ys M,W ds.length ys M→E ys M
def BL(e0:Ev)(g:DTG)(tc:aH)(te:DTE)(ds:List D)(stay:Mem→Prop)(M1:Mem)(R:DK):Prop:=∃ W,mn e0 g tc te ds stay M1 (fun ys M=>R (.vl ys) M) W
def nE(n:Nat)(caps:List Nat)(ti:DTI)(g:DTG)(tc:aH)(te:DTE):DTE:=fun e M R=>ti e M fun ds stay M1=>BL (lZ n caps e) g tc te ds stay M1 R
section
variable {X:Cx} {elt tg iter:Expr} {scope:Scope} {tgs cps:List Str} {caps:List Nat} {ti:DTI} {g:DTG} {tc:aH} {te:DTE} {pos:Pos} {ifs:List Expr}
def CWH(K:JB)(H1:Hp)(D0:Addr)(len:Nat)(W:Nat→List D→Mem→Prop)(i m:Nat)(H':Hp):Prop:=m=len - i∧i≤len∧∃ M' ys xs,KT H1 H'∧m8 K H' M'∧H' D0=some (.lst xs)∧M' D0=none∧HasL K H' xs ys∧W i ys M'
theorem gA{K:JB}{H1:Hp}{J:It}{ds:List D}{stay:Mem→Prop}{M1:Mem}{n:Nat}{caps:List Nat}{σ:St}{e:Ev}{E:List D→Mem→Prop}{W:Nat→List D→Mem→Prop}{D0:Addr}{Qd:Hp→Prop}(ok:u8 K H1 σ e)(a1:m8 K H1 M1)(wk:mi K H1 J ds stay)(hD:H1 D0=none)
  (C:mn (lZ n caps e) g tc te ds stay M1 E W) (fin:∀ ys M xs H',KT H1 H'→m8 K H' M→H' D0=some (.lst xs)→M D0=none→HasL K H' xs ys→E ys M→Qd H') (i m:Nat) (H2:Hp) (w:CWH K H1 D0 ds.length W i m H2) :
  (J.stop i H2∧Qd H2)∨(J.go i H2∧∀ x H',J.yld i H2 x H'→(∃ p,ui p (upG K g) x (jC n caps σ) H' fun σ2 H3=>∃ p,uh p (upT K tc) σ2 H3 fun b H3'=>if b=true then ∃ p,uj p (up K te) σ2 H3' fun v H4 =>
   ∃ ys,H4 D0=some (.lst ys)∧ys.length<sizeLine∧∃ m',m'<m∧CWH K H1 D0 ds.length W (i+1) m' (upd H4 D0 (.lst (ys++[v])))else ∃ m',m'<m∧CWH K H1 D0 ds.length W (i+1) m' H3')):=by
 obtain⟨rfl,hi,M2,ys,xs,k2,a2,hx,hM,lx,w2⟩:=w
 have a2':m8 K H2 (B8 M2 D0 (.lst ys)):=fun a o q=>by
  by_cases e:a=D0
  ·subst e;rw[g7]at q;cases q;exact⟨xs,hx,lx⟩
  ·rw[J9 e]at q;exact a2 a o q
 have st:=wk.up _ D0 (.lst ys) (C.stays i ys M2 hi w2) hM
 by_cases hlt:i<ds.length
 ·refine .inr ⟨wk.go i H2 _ hlt k2 a2' st,fun y H' yl=>?_⟩
  obtain⟨d,hd,k3,a3',r⟩:=wk.yld i H2 _ y H' hlt k2 a2' st yl
  obtain⟨xs',hx',lx'⟩:=a3'.lst g7
  have a3:m8 K H' M2:=fun a o q=>by
   have e:a≠D0:=by intro e;subst e;rw[hM]at q;cases q
   exact a3' a o (by rw[J9 e];exact q)
  have kh:KT H' (upd H' D0 (az D0 xs')):=KT.any hx'
  have k1h:=(k2.trans k3).trans kh
  have same:∀{H3:Hp},H3 D0=some (az D0 xs')→upd (upd H3 D0 (.lst xs')) D0 (az D0 xs')=H3:=fun{H3} q=>by
   rw[Y6];funext b;by_cases e:b=D0
   ·subst e;rw[i3,q]
   ·rw[g6 e]
  refine⟨D0,xs',hx',d,lZ n caps e,M2,_,r.mono kh,zK n caps (ok.mono k1h),a3.at kh.toKT0 hM,C.turn i d ys M2 hd w2,fun e3 M3 h3 σ3 H3 k4 a4 ok3=>?_⟩
  have q3:H3 D0=some (az D0 xs'):=k4.ex D0 _ i3
  refine⟨q3,D0,xs',i3,?_⟩
  rw[same q3]
  refine⟨e3,M3,_,ok3,a4,h3,fun b M4 h4 H4 k5 a5=>?_⟩
  have q4:H4 D0=some (az D0 xs'):=k5.ex D0 _ q3
  refine⟨q4,?_⟩
  have kk:=k1h.trans (k4.trans k5)
  cases b with
  | false =>
   have h4':W (i+1) ys M4:=h4
   show ∃ m',m'<ds.length - i∧CWH K H1 D0 ds.length W (i+1) m' (upd H4 D0 (.lst xs'))
   exact⟨ds.length - (i+1),by omega,rfl,hlt,M4,ys,xs',kk.new hD,a5.at (KT0.ext q4) (a5.none_ext q4),i3,a5.none_ext q4,(lx'.mono (kh.trans (k4.trans k5))).mono0 (KT0.ext q4),h4'⟩
  | true =>
   show ∃ p,uj p (up K te) σ3 (upd H4 D0 (.lst xs')) _
   refine⟨D0,xs',i3,?_⟩
   rw[same q4]
   refine⟨e3,M4,_,ok3.mono k5,a5,h4,fun dv M5 ⟨hz,w5⟩ vv H5 k6 a6 r6=>?_⟩
   have q5:H5 D0=some (az D0 xs'):=k6.ex D0 _ q4
   refine⟨q5,xs',i3,by rw[lx'.length];exact hz,ds.length - (i+1),by omega,rfl,hlt,M5,ys++[dv],xs'++[vv],?_,?_,i3,a6.none_ext q5,?_,w5⟩
   ·rw[Y6];exact(kk.trans k6).new hD
   ·rw[Y6];exact a6.at (KT0.ext q5) (a6.none_ext q5)
   ·rw[Y6];exact((lx'.mono (kh.trans (k4.trans (k5.trans k6)))).mono0 (KT0.ext q5)).append (.cons (r6.mono0 (KT0.ext q5)) .nil)
 ·have e':i=ds.length:=by omega
  subst e'
  exact .inl ⟨wk.stop _ H2 _ (JY _) k2 a2' st,fin ys M2 xs H2 k2 a2 hx hM lx (C.done ys M2 w2)⟩
theorem J5(caps:List Nat)(tgs cps:List Str)(hc:X.calm=true)(hcell:∀ x∈scope.names,x.2 ≠ .cell)(hkind:scope.kind = .function)(hnames:∀ x∈scope.names,x.2 = .local→scope.names.lookup x.1=some .local)
  (hfr:∀ x∈scope.names,x.2 = .free→x.1∈cps) (hN:caps.map (fun i=>X.N[i]?)=cps.map some) (hX:∀ x∈cps,X.env.scope.names.lookup x=some .cell∧scope.names.lookup x=some .free)
  (hsc:∀ x∈cps,(relabel scope X.env).names.lookup x=some .cell∨(relabel scope X.env).names.lookup x=some .free)
  (hi:JI X tg iter ti) (hg:∀ cl s3 H3 C fp pins,JG (cxF X scope cl (tgs++cps) s3 H3 C fp pins) tg g) (hq:∀ cl s3 H3 C fp pins,Ae (cxF X scope cl (tgs++cps) s3 H3 C fp pins) ifs tc) (he:∀ cl s3 H3 C fp pins,JE (cxF X scope cl (tgs++cps) s3 H3 C fp pins) elt te)
  (hs:∀ x,foldedSetIterable iter X.env x=pure x:=by intro _;rfl):JE X (.ListComp elt [⟨tg,iter,ifs,0⟩] scope pos) (nE tgs.length caps ti g tc te):=⟨have hi:=hi.out;have hg:=fun v0 v1 v2 v3 v4 v5=>(hg v0 v1 v2 v3 v4 v5).out;have hq:=fun v0 v1 v2 v3 v4 v5=>(hq v0 v1 v2 v3 v4 v5).out;have he:=fun v0 v1 v2 v3 v4 v5=>(he v0 v1 v2 v3 v4 v5).out;(dU (vh (tgs:=tgs) (cps:=cps) (caps:=caps) hc hcell hkind hnames hfr hN hX hsc hi (fun cl s3 H3 C fp pins=>pP (hg cl s3 H3 C fp pins)) (fun cl s3 H3 C fp pins=>gm (hq cl s3 H3 C fp pins)) (fun cl s3 H3 C fp pins=>pQ (he cl s3 H3 C fp pins)) hs)).imp (by rintro σ H Q ⟨e,M,R,ok,am,t,f⟩;exact⟨e,M,_,ok,am,t,fun ds stay M1 hW H1 k1 a1 J wk=>by
  intro D0 hD
  obtain⟨W,C⟩:=hW
  refine⟨fun i m H'=>CWH X.K H1 D0 ds.length W i m H',⟨ds.length,by simp,KU _,M1,[],[],KT.alloc hD,a1.alloc hD,i3,a1.fresh hD,.nil,C.start⟩,fun i m H2 w=>gA (Qd:=fun H'=>∃ p xs,V.ref D0 = .ref p∧H' p=some (.lst xs)∧∀ o,Q (.ref D0) (upd H' p (.frz o (.lst xs)))) (ok.mono k1) a1 wk hD C (fun ys M2 xs H' k2 a2 hx hM lx r=>?_) i m H2 w⟩
  exact⟨D0,xs,rfl,hx,fun o=>f _ M2 r _ _ (k1.trans (k2.trans (KT.any hx))) (a2.at (KT.any hx).toKT0 hM) (.vl (.inl ⟨o,i3⟩) (lx.mono (KT.any hx)))⟩⟩)⟩
theorem D5{i:Nat}{x:Str}{pos' pos2:Pos}(caps:List Nat)(tgs cps:List Str)(hNd:X.N.Nodup)(hxi:X.N[i]? = some x)(hx:Loc X.env.scope x)(hc:X.calm=true)(hcell:∀ x∈scope.names,x.2 ≠ .cell)(hkind:scope.kind = .function)(hnames:∀ x∈scope.names,x.2 = .local→scope.names.lookup x.1=some .local)
  (hfr:∀ x∈scope.names,x.2 = .free→x.1∈cps) (hN:caps.map (fun i=>X.N[i]?)=cps.map some) (hX:∀ x∈cps,X.env.scope.names.lookup x=some .cell∧scope.names.lookup x=some .free)
  (hsc:∀ x∈cps,(relabel scope X.env).names.lookup x=some .cell∨(relabel scope X.env).names.lookup x=some .free)
  (hi:JI X tg iter ti) (hg:∀ cl s3 H3 C fp pins,JG (cxF X scope cl (tgs++cps) s3 H3 C fp pins) tg g) (hq:∀ cl s3 H3 C fp pins,Ae (cxF X scope cl (tgs++cps) s3 H3 C fp pins) ifs tc) (he:∀ cl s3 H3 C fp pins,JE (cxF X scope cl (tgs++cps) s3 H3 C fp pins) elt te)
  (hsw:swapsWith (.ListComp elt [⟨tg,iter,ifs,0⟩] scope pos) (some (.Name x pos')) pos2.line X.env=pure true:=by rfl) (hs:∀ x,foldedSetIterable iter X.env x=pure x:=by intro _;rfl) (hf:X.fn x=true∨X.env.scope.names.lookup x=some .local:=by first|exact .inl rfl|exact .inr rfl|assumption):JS X (.Assign [.Name x pos'] (.ListComp elt [⟨tg,iter,ifs,0⟩] scope pos) pos2) (wC (nE tgs.length caps ti g tc te) (bf i)):=⟨have hi:=hi.out;have hg:=fun v0 v1 v2 v3 v4 v5=>(hg v0 v1 v2 v3 v4 v5).out;have hq:=fun v0 v1 v2 v3 v4 v5=>(hq v0 v1 v2 v3 v4 v5).out;have he:=fun v0 v1 v2 v3 v4 v5=>(he v0 v1 v2 v3 v4 v5).out;(yE (Cw (uU (tgs:=tgs) (cps:=cps) (caps:=caps) hc hcell hkind hnames hfr hN hX hsc hi (fun cl s3 H3 C fp pins=>pP (hg cl s3 H3 C fp pins)) (fun cl s3 H3 C fp pins=>gm (hq cl s3 H3 C fp pins)) (fun cl s3 H3 C fp pins=>pQ (he cl s3 H3 C fp pins)) hNd hxi hx hf hs)) hsw).imp (by rintro E σ H ⟨e,M,F,ok,am,t,f⟩;exact⟨e,M,_,ok,am,t,fun ds stay M1 hW H1 k1 a1 J wk=>by
  intro D0 hD
  obtain⟨W,C⟩:=hW
  refine⟨fun i m H'=>CWH X.K H1 D0 ds.length W i m H',⟨ds.length,by simp,KU _,M1,[],[],KT.alloc hD,a1.alloc hD,i3,a1.fresh hD,.nil,C.start⟩,fun j m H2 w=>gA (Qd:=fun H'=>∃ p xs,V.ref D0 = .ref p∧H' p=some (.lst xs)∧∀ o,E.nx (σ.set i (some (.ref D0))) (upd H' p (.frz o (.lst xs)))) (ok.mono k1) a1 wk hD C (fun ys M2 xs H' k2 a2 hx hM lx r=>?_) j m H2 w⟩
  exact⟨D0,xs,rfl,hx,fun o=>f.nx _ M2 r _ _ (k1.trans (k2.trans (KT.any hx))) (a2.at (KT.any hx).toKT0 hM) ((ok.mono (k1.trans (k2.trans (KT.any hx)))).set (.vl (.inl ⟨o,i3⟩) (lx.mono (KT.any hx))) i)⟩⟩)⟩
end
section
variable {X:Cx} {e:Expr} {te:DTE} {p1 p2 pos pos2:Pos}
theorem SqL.upd{K:JB}{H:Hp}{a it:Addr}{xs:List V}{o:HO}(h:SqL K H a xs)(ne:a≠it):SqL K (upd H it o) a xs:=h.elim (fun z=>.inl (by unfold Rd at z ⊢;rw[g6 ne];exact z)) .inr
theorem SqK.upd{K:JB}{k:Bool}{H:Hp}{a it:Addr}{xs:List V}{o:HO}(h:SqK K k H a xs)(ne:a≠it):SqK K k (L2.upd H it o) a xs:=by
 cases k with
 | true=>exact SqL.upd (show SqL K H a xs from h) ne
 | false=>exact(show SqT K H a xs from h).elim (fun z=>.inl (by unfold Rd at z ⊢;rw[g6 ne];exact z)) .inr
def wu(n:Nat)(t:S5):DTG:=fun d e M R=>∃ ds,R6 M d=some ds∧ds.length=n∧t ds e M R
theorem vO{xs:List Expr}{k:Nat}{t:S5}{n:Nat}(hc:X.calm=true)(h:JGs X xs t)
  (hn:(assignEach xs X.env).length=n:=by rfl) (hst:(assignEach xs X.env).findIdx? (·.1)=none:=by rfl):JG X (.Tuple xs k pos) (wu n t):=⟨have h:=h.out;PG.imp (yK hc h hn hst) (by
  rintro v σ H Q ⟨d,e,M,R,r,ok,am,⟨ds,hi,hl,g⟩,f⟩
  obtain⟨a,xs,e1,sq,lx⟩:=E6 am r hi
  exact⟨a,xs,e1,sq,by rw[lx.length];exact hl,ds,e,M,R,lx,ok,am,g,f⟩)⟩
end
end DL
namespace L2
open PySem PySem.Spec PyProof.Rows
section
variable {X:Cx} {pos:Pos}
end
end L2
namespace DL
open PySem PySem.Spec L2
open PyProof.Rows hiding St
section
variable {X:Cx}
theorem HasL.intsV{K:JB}{H:Hp}:∀{ns:List Int} {vs:List V},HasL K H vs (ns.map D.int)→vs=ns.map V.int
 | [],_,h=>by cases h;rfl
 | n :: r,_,h=>by
  cases h with
  | cons a b=>cases a;rw[HasL.intsV (ns:=r) b];rfl
end
section
variable {X:Cx}
theorem rX(hc:X.calm=true):C3 X (.builtin "sum") (fun xs H Q=>∃(l:Addr) (ns:List Int),xs=[.ref l]∧SqL X.K H l (ns.map V.int)∧Q (.int ns.sum) H):=by
 intro pins s σ H xs us Q I r h
 obtain⟨l,ns,rfl,hS,q⟩:=h
 obtain⟨u,rfl,ru⟩:=kl r
 cases ru
 obtain⟨its,rv,p,_⟩:=I.list hS
 have hi:IntsAre its ns:=nv rv
 have hl:s.heap.IsList l its.toArray:=p.isList
 obtain⟨xs,e⟩:=hi.allInts.items
 have hns:ns=xs.toList.map (·.1):=by
  rw[← hi.numsOf,← nums_intItems,← e]
 rw[e]at hl
 refine PySem.sum_intListG (I.ok.hd hc) hl fun h2 t2 t3 kept2=>?_
 refine⟨.int _,H,I.kept kept2,⟨t3,rfl⟩,?_⟩
 rw[preSum_eq,KN (by simp),← hns]
 exact q
def FP:DRC:=fun ds M R=>∃(d:D) (ns:List Int),ds=[d]∧R6 M d=some (ns.map D.int)∧R (.int ns.sum) M
theorem Gu(hc:X.calm=true):bL X (.builtin "sum") FP:=C3.imp (rX hc) (by
 rintro xs H Q ⟨ds,M,R,hl,am,⟨d,ns,z,hM,r⟩,f⟩
 subst z
 obtain⟨v,rfl,hv⟩:=hl.one
 obtain⟨a,vs,rfl,s,l⟩:=E6 am hv hM
 rw[l.intsV]at s
 exact⟨a,ns,rfl,s,f _ M r _ H (KT.refl H) am (.int _)⟩)
end
theorem DQ:bootBuiltins "sum" = some (.builtin "sum"):=by decide +kernel
section
variable {X:Cx} {a b c:Expr} {ta tb tc:DTE} {pos:Pos}
end
section
variable {K:JB}
end
section
variable {X:Cx} {x:Expr} {t:DTE}
end
noncomputable def FA(X:Cx):St:=LA X.N.length none
def Cov(B s0:Heap)(H':Hp)(fs:List Addr)(h:Heap):Prop:=∀ b o,h.get? b=some o→((∃ u,H' b=some u) ∨ ∃ o0,s0.get? b=some o0)→b∉fs→B.get? b=some o
def Air(B:Heap)(l:List Env)(a:Addr)(cls a0:Value)(h:Heap):Prop:=Heap.FlyingW B l a cls a0 h ∨ ∃ env l' L,l=env :: l'∧env.frame=some L∧Heap.HeldW B l a cls a0 L h
section
variable {M:Model} {A:Around} {E:Value→Shared→Prop} {s:Shared} {B:Heap} {l outer:List Env} {env:Env} {L a:Addr} {cls a0:Value} {Q:Unit→Shared→Prop}
theorem Air.frames{h:Heap}(x:Air B l a cls a0 h):h.FunFrames B l:=by
 rcases x with x|⟨_,_,_,_,_,x⟩
 ·exact x.2.2.1
 ·exact x.2.2.1
theorem Air.base{h:Heap}(x:Air B l a cls a0 h):B.StaysIn h∧B.get? a=none:=by
 rcases x with x|⟨_,_,_,_,_,x⟩
 ·exact⟨x.1,x.2.1⟩
 ·exact⟨x.1,x.2.1⟩
theorem Air.data{h:Heap}(x:Air B l a cls a0 h):∃ oe vs,h.get? a=some oe∧oe.data = .fields vs:=by
 rcases x with⟨_,_,_,oe,vs,_,_,_,h1,_,h2,_⟩|⟨_,_,_,_,_,_,_,_,oe,vs,_,_,_,h1,_,h2,_⟩<;>exact⟨oe,vs,h1,h2⟩
end
noncomputable def XP(X:Cx)(mk:Bool)(EX:Value→Hp→Prop):Value→Shared→Prop:=fun e s' =>
 (mk=true∧∃ a cls h vs H',e = .ref a∧EX cls H'∧Heap.MadeExcOf h s'.heap a cls vs∧Inv X [] (FA X) H' { s' with heap:=h }) ∨
 (∃ pins σ Hc sc a cls a0 H' B,Inv X pins σ Hc sc∧e = .ref a∧s'.os=sc.os∧AllBare s'.gens∧Un (frs X.stack) [] Hc H' sc.heap s'.heap∧HOk X.prog X.w H' s'.heap ∧
  X.base.StaysIn B∧Cov B sc.heap H' (frs X.stack) s'.heap∧Air B X.stack a cls a0 s'.heap∧EX cls H')
section
variable {P:Program} {w:World} {K:JB} {mg:Str→Option Value} {base:Heap} {N:List Str} {qual:Str} {scope:Scope} {f:Addr} {cd:Value} {A:Around} {outer:List Env} {s:Shared} {H:Hp} {E:XK}
end
noncomputable def xN(x:Str):Value:=.str x 0
noncomputable def Hr(X:Cx)(H₀:Hp)(Y:DXK):Value→Hp→Prop:=fun c H'=>KT H₀ H'∧∃(x:Str) (C:Addr) (M':Mem),c = .ref C∧X.mg x=some (.ref C)∧m8 X.K H' M'∧Y (xN x) M'
noncomputable abbrev Cx.ex'(X:Cx)(mk:Bool)(H₀:Hp)(Y:DXK):Cx:=X.wish (XP X mk (Hr X H₀ Y))
section
variable {X:Cx} {mk:Bool} {H₀:Hp} {Y:DXK} {st:Stmt} {F8:List Stmt} {t u:DTS} {pos:Pos}
end
section
variable {P:Program} {w:World} {K:JB} {mg:Str→Option Value} {base:Heap}
end
section
variable {X:Cx} {mk:Bool} {H₀:Hp} {Y:DXK} {pos cpos:Pos} {x:Str} {j:Nat} {ps:List Str} {sp:DSp} {p:Pos} {e:Expr} {es:List Expr} {t:DTA}
end
section
variable {X:Cx} {mk:Bool} {H₀:Hp} {Y:DXK} {pos:Pos} {e:Expr} {te:DTE}
end
section
variable {X:Cx} {mk:Bool} {EX:Value→Hp→Prop}
end
section
variable {X:Cx} {mk:Bool} {H₀:Hp} {Y:DXK} {pos:Pos} {c:Expr} {body:List Stmt} {tc:DTT} {tb:DTS}
end
section
variable {X:Cx} {H₀:Hp} {Y:DXK} {pos cpos np:Pos} {x:Str} {e₀:Expr} {te:DTE}
end
noncomputable abbrev Cx.pinned(X:Cx)(pn:List (Addr × Obj)):Cx:={ X with pn:=pn }
noncomputable abbrev Cx.hand(X:Cx)(a:Addr):Cx:={ X with A:=X.A.mark (some (.ref a)),calm:=false }
section
variable {X:Cx} {pins pn:List (Addr × Obj)} {σ:St} {H:Hp} {s:Shared}
end
section
variable {X:Cx} {body suite:List Stmt} {b0:Stmt} {c:Str} {np hpos pos:Pos} {tb:DXK→DTS} {ts:DTS}
end
section
variable {X:Cx} {body suite:List Stmt} {b0:Stmt} {c:Str} {np hpos pos:Pos} {tb:DXK→DTS} {ts:DTS}
end
end DL
namespace DL
open PySem PySem.Spec L2
def BlK(x:D)(M:Mem)(Q:Bool→Mem→Prop):Prop:=∃ k,x = .bl k∧Q k M
def IfK(c:Bool)(A B:Prop):Prop:=if c=true then A else B
def SzK(n:Nat)(A:Prop):Prop:=n≤sizeLine∧A
def Gz(i j:Nat)(ds:List D)(F:aI)(e:Ev)(M:Mem):Prop:=∃ x y,ds=[x,y]∧F.nx ((e.set i (some x)).set j (some y)) M
def Ac(x:D)(M:Mem)(Q:List D→(Mem→Prop)→Mem→Prop):Prop:=∃ ds,p7 M x ds∧Q ds (fun M'=>p7 M' x ds) M
def xf(xs:List D)(M:Mem)(Q:List D→(Mem→Prop)→Mem→Prop):Prop:=∃ x ds,xs=[x]∧p7 M x ds∧Q (R7 ds) (fun M'=>p7 M' x ds) M
def wV(xs:List D)(M:Mem)(Q:List D→(Mem→Prop)→Mem→Prop):Prop:=∃ x y ds es,xs=[x,y]∧p7 M x ds∧p7 M y es∧Q (P2 ds es) (fun M'=>p7 M' x ds∧p7 M' y es) M
def Gy(xs:List D)(M:Mem)(Q:List D→(Mem→Prop)→Mem→Prop):Prop:=∃ j:Int,xs=[.int j]∧-(2 ^ 62)≤j∧j<2 ^ 62∧Q (R1 0 j.toNat) (fun _=>True) M
def U9(g:DTG)(tb:DTS)(F:aI)(ds:List D)(stay:Mem→Prop)(e:Ev)(M1:Mem):Prop:=∃ W:Nat→Ev→Mem→Prop,W 0 e M1∧(∀ i e M,i≤ds.length→W i e M→stay M) ∧
 (∀(i:Nat) (d:D) e M,ds[i]? = some d→W i e M→g d e M fun e2 M2=>tb { F with nx:=W (i+1),ct:=W (i+1),bk:=F.nx } e2 M2)∧∀ e M,W ds.length e M→F.nx e M
def Ea(x:D)(M1:Mem)(R:DK):Prop:=∃ p ds,x = .ref p∧M1 p=some (.lst ds)∧R (.vl ds) (bg M1 p)
def BJ(x:D)(M:Mem)(Q:Option Int→Mem→Prop):Prop:=∃ i,x = .int i∧Q (some i) M
def Ec(x:D)(M1:Mem)(R:DK):Prop:=∃ M2:Mem,(∀ b o,M2 b=some o→M1 b=some o)∧R x M2
def LMK(x:D)(M:Mem)(A:Prop):Prop:=(∃ l ds,x = .ref l∧M l=some (.lst ds))∧A
end DL
namespace DL
open PySem PySem.Spec L2
open PyProof.Rows hiding St
section
variable {e:Ev} {M:Mem} {R:DK} {F:aI} {ta tb tc:DTE} {tA tB:DTT} {tr:DTA} {t u:DTS}
theorem z_C{d:D}:dC d e M R=R d M:=rfl
theorem EJ{g:DR2}:dOp g ta tb e M R=ta e M fun x M1=>tb e M1 fun y M2=>g x y M2 R:=rfl
theorem EH{g:D→Mem→DK→Prop}:dUn g ta e M R=ta e M fun x M1=>g x M1 R:=rfl
theorem EF{f:Int→Int→D}{i j:Int}:gF (fI f) (.int i) (.int j) M R=R (f i j) M:=propext ⟨fun zz=>by obtain⟨_,h,r⟩:=zz;cases h;exact r,fun r=>⟨_,rfl,r⟩⟩
theorem EG{f:Bool→Bool→D}{i j:Bool}:gF (fB f) (.bl i) (.bl j) M R=R (f i j) M:=propext ⟨fun zz=>by obtain⟨_,h,r⟩:=zz;cases h;exact r,fun r=>⟨_,rfl,r⟩⟩
theorem EE{f:Str→Str→D}{i j:Str}:gF (fS f) (.str i) (.str j) M R=R (f i j) M:=propext ⟨fun zz=>by obtain⟨_,h,r⟩:=zz;cases h;exact r,fun r=>⟨_,rfl,r⟩⟩
theorem ED{C:Int→Int→Prop}{f:Int→Int→D}{i j:Int}:gI C f (.int i) (.int j) M R=(C i j∧R (f i j) M):=propext ⟨fun zz=>by obtain⟨_,_,h1,h2,c,r⟩:=zz;cases h1;cases h2;exact⟨c,r⟩,fun⟨c,r⟩=>⟨_,_,rfl,rfl,c,r⟩⟩
theorem EC{f:Int→D}{i:Int}:gU f (.int i) M R=R (f i) M:=propext ⟨fun zz=>by obtain⟨_,h,r⟩:=zz;cases h;exact r,fun r=>⟨_,rfl,r⟩⟩
theorem tD{Q:Bool→Mem→Prop}:qC ta e M Q=ta e M fun x M'=>BlK x M' Q:=rfl
theorem AO{b:Bool}{Q:Bool→Mem→Prop}:BlK (.bl b) M Q=Q b M:=propext ⟨fun zz=>by obtain⟨_,h,r⟩:=zz;cases h;exact r,fun r=>⟨_,rfl,r⟩⟩
theorem AR{Q:Bool→Mem→Prop}:Gm tA tB e M Q=tA e M fun c M1=>IfK c (tB e M1 Q) (Q false M1):=rfl
theorem EI{Q:Bool→Mem→Prop}:dOr tA tB e M Q=tA e M fun c M1=>IfK c (Q true M1) (tB e M1 Q):=rfl
theorem AB{Q:Bool→Mem→Prop}:Ge tA e M Q=tA e M fun c M1=>Q (!c) M1:=rfl
theorem tW:Bx ta tb e M R=ta e M fun x M1=>BlK x M1 fun c M1=>IfK c (tb e M1 R) (R (.bl false) M1):=rfl
theorem tL:Bq ta e M R=ta e M fun x M1=>BlK x M1 fun c M1=>R (.bl (!c)) M1:=rfl
theorem EL:dIf tA ta tb e M R=tA e M fun c M1=>IfK c (ta e M1 R) (tb e M1 R):=rfl
theorem AH:Gh tA t u F e M=tA e M fun c M1=>IfK c (t F e M1) (u F e M1):=rfl
theorem AD{Q:List D→Mem→Prop}:Gf e M Q=Q [] M:=rfl
theorem tT{Q:List D→Mem→Prop}:Bv ta tr e M Q=ta e M fun x M1=>tr e M1 fun xs M2=>Q (x :: xs) M2:=rfl
theorem Aw:FY tr e M R=tr e M fun ds M1=>SzK ds.length (R (.tup ds) M1):=rfl
theorem AF:Gg tr e M R=tr e M fun ds M1=>SzK ds.length (∀ p,M1 p=none→R (.ref p) (B8 M1 p (.lst ds))):=rfl
theorem U7{x y z:D}(h:ixD M x y=some z):gIx x y M R=R z M:=propext ⟨fun zz=>by obtain⟨_,h',r⟩:=zz;rw[h]at h';cases h';exact r,fun r=>⟨_,h,r⟩⟩
theorem dh{neg:Bool}{x y:D}{b:Bool}(h:isD x y=some b):gIs neg x y M R=R (.bl (neg.xor b)) M:=propext ⟨fun zz=>by obtain⟨_,h',r⟩:=zz;rw[h]at h';cases h';exact r,fun r=>⟨_,h,r⟩⟩
theorem AN{neg:Bool}{x y:D}:DC neg x y M R=(cl 60 x=true∧cl 60 y=true∧R (.bl (neg.xor (@decide (x=y) (KA _)))) M):=rfl
theorem tV{sp:DSp}{dds:List D}{Y:DXK}:qE sp dds Y tr e M R=tr e M fun ds M1=>sp (ds++dds) M1 R Y:=rfl
theorem EM{g:DRC}:dCB g tr e M R=tr e M fun ds M1=>g ds M1 R:=rfl
theorem tM:Br F e M=F.nx e M:=rfl
theorem Ay:Ga t u F e M=t { F with nx:=u F } e M:=rfl
theorem tS:Bu ta F e M=ta e M fun _ M1=>F.nx e M1:=rfl
theorem Az:Gb ta F e M=ta e M F.rt:=rfl
theorem oY:wA F e M=False:=rfl
variable {Q:Ev→Mem→Prop}
theorem oO{i:Nat}{d:D}:bf i d e M Q=Q (e.set i (some d)) M:=rfl
theorem tw:Bn [] e M Q=Q e M:=propext ⟨fun h=>h.2,fun h=>⟨rfl,h⟩⟩
theorem oP{g:DTG}{gs:S5}{d:D}{ds:List D}:wx g gs (d :: ds) e M Q=g d e M fun e' M'=>gs ds e' M' Q:=propext ⟨fun zz=>by obtain⟨_,_,h,r⟩:=zz;cases h;exact r,fun r=>⟨_,_,rfl,r⟩⟩
theorem ke{n:Nat}{gs:S5}{ds:List D}(h:ds.length=n):wu n gs (.vl ds) e M Q=gs ds e M Q:=propext ⟨fun zz=>by obtain⟨_,h',_,r⟩:=zz;cases h';exact r,fun r=>⟨_,rfl,h,r⟩⟩
theorem df{n:Nat}{gs:S5}{ds:List D}(h:ds.length=n):lN n gs (.tup ds) e M Q=gs ds e M Q:=propext ⟨fun zz=>by obtain⟨_,h',_,r⟩:=zz;cases h';exact r,fun r=>⟨_,rfl,h,r⟩⟩
theorem tu{to ti:DTE}{ts:xg}{d:D}:Bm to ti ts d e M Q=to e M fun o M1=>ti e M1 fun i M2=>ts o i d M2 fun M3=>Q e M3:=rfl
theorem AQ{g:DTG}:wC ta g F e M=ta e M fun x M1=>g x e M1 F.nx:=rfl
theorem AA{i j:Nat}:Gd i j tr F e M=tr e M fun ds M1=>Gz i j ds F e M1:=rfl
theorem tK{i j:Nat}{x y:D}:Gz i j [x,y] F e M=F.nx ((e.set i (some x)).set j (some y)) M:=propext ⟨fun zz=>by obtain⟨_,_,h,r⟩:=zz;cases h;exact r,fun r=>⟨_,_,rfl,r⟩⟩
theorem AS{i:Int}:FV [.int i] M R=R (.int (i.natAbs:Int)) M:=propext ⟨fun zz=>by obtain⟨_,h,r⟩:=zz;cases h;exact r,fun r=>⟨_,rfl,r⟩⟩
theorem AE{i j:Int}:FR [.int i,.int j] M R=R (.int (max i j)) M:=propext ⟨fun zz=>by obtain⟨_,_,h,r⟩:=zz;cases h;exact r,fun r=>⟨_,_,rfl,r⟩⟩
theorem pd{d:D}{n:Nat}(h:Dq M d=some n):rQ [d] M R=R (.int (n:Int)) M:=propext ⟨fun zz=>by obtain⟨_,_,h',h2,r⟩:=zz;cases h';rw[h]at h2;cases h2;exact r,fun r=>⟨_,_,rfl,h,r⟩⟩
theorem p5{d:D}{ty T:String}{b:Bool}(h1:tyD M d=some ty)(h2:yn ty T=some b):y8 [d,.ty T] M R=R (.bl b) M:=propext ⟨fun zz=>by
 obtain⟨_,_,_,_,h,h1',h2',r⟩:=zz
 injection h with h h';subst h;injection h' with h';injection h' with h';subst h'
 rw[h1]at h1';cases h1';rw[h2]at h2';cases h2';exact r,fun r=>⟨_,_,_,_,rfl,h1,h2,r⟩⟩
theorem AI{c:Bool}{A B:Prop}:IfK c A B=((c=true→A)∧(c=false→B)):=by cases c<;>simp[IfK]
theorem AG{A B:Prop}:IfK true A B=A:=by simp[IfK]
theorem AJ{A B:Prop}:IfK false A B=B:=by simp[IfK]
theorem B6{n:Nat}{A:Prop}(h:n≤1000):SzK n A=A:=propext ⟨fun h=>h.2,fun a=>⟨sl n h,a⟩⟩
theorem Ep{d:D}{r:Ev}:bQ 0 (some d :: r) M R=R d M:=propext ⟨fun zz=>by obtain⟨_,h,q⟩:=zz;cases h;exact q,fun q=>⟨_,rfl,q⟩⟩
theorem EB{y z:Option D}{r:Ev}:(y :: r:Ev).set 0 z=z :: r:=rfl
theorem Eo{x0:Option D}{d:D}{r:Ev}:bQ 1 (x0 :: some d :: r) M R=R d M:=propext ⟨fun zz=>by obtain⟨_,h,q⟩:=zz;cases h;exact q,fun q=>⟨_,rfl,q⟩⟩
theorem EA{x0:Option D}{y z:Option D}{r:Ev}:(x0 :: y :: r:Ev).set 1 z=x0 :: z :: r:=rfl
theorem En{x0 x1:Option D}{d:D}{r:Ev}:bQ 2 (x0 :: x1 :: some d :: r) M R=R d M:=propext ⟨fun zz=>by obtain⟨_,h,q⟩:=zz;cases h;exact q,fun q=>⟨_,rfl,q⟩⟩
theorem Ez{x0 x1:Option D}{y z:Option D}{r:Ev}:(x0 :: x1 :: y :: r:Ev).set 2 z=x0 :: x1 :: z :: r:=rfl
theorem Em{x0 x1 x2:Option D}{d:D}{r:Ev}:bQ 3 (x0 :: x1 :: x2 :: some d :: r) M R=R d M:=propext ⟨fun zz=>by obtain⟨_,h,q⟩:=zz;cases h;exact q,fun q=>⟨_,rfl,q⟩⟩
theorem Ey{x0 x1 x2:Option D}{y z:Option D}{r:Ev}:(x0 :: x1 :: x2 :: y :: r:Ev).set 3 z=x0 :: x1 :: x2 :: z :: r:=rfl
theorem El{x0 x1 x2 x3:Option D}{d:D}{r:Ev}:bQ 4 (x0 :: x1 :: x2 :: x3 :: some d :: r) M R=R d M:=propext ⟨fun zz=>by obtain⟨_,h,q⟩:=zz;cases h;exact q,fun q=>⟨_,rfl,q⟩⟩
theorem Ex{x0 x1 x2 x3:Option D}{y z:Option D}{r:Ev}:(x0 :: x1 :: x2 :: x3 :: y :: r:Ev).set 4 z=x0 :: x1 :: x2 :: x3 :: z :: r:=rfl
theorem Ek{x0 x1 x2 x3 x4:Option D}{d:D}{r:Ev}:bQ 5 (x0 :: x1 :: x2 :: x3 :: x4 :: some d :: r) M R=R d M:=propext ⟨fun zz=>by obtain⟨_,h,q⟩:=zz;cases h;exact q,fun q=>⟨_,rfl,q⟩⟩
theorem Ew{x0 x1 x2 x3 x4:Option D}{y z:Option D}{r:Ev}:(x0 :: x1 :: x2 :: x3 :: x4 :: y :: r:Ev).set 5 z=x0 :: x1 :: x2 :: x3 :: x4 :: z :: r:=rfl
theorem Ej{x0 x1 x2 x3 x4 x5:Option D}{d:D}{r:Ev}:bQ 6 (x0 :: x1 :: x2 :: x3 :: x4 :: x5 :: some d :: r) M R=R d M:=propext ⟨fun zz=>by obtain⟨_,h,q⟩:=zz;cases h;exact q,fun q=>⟨_,rfl,q⟩⟩
theorem Eu{x0 x1 x2 x3 x4 x5:Option D}{y z:Option D}{r:Ev}:(x0 :: x1 :: x2 :: x3 :: x4 :: x5 :: y :: r:Ev).set 6 z=x0 :: x1 :: x2 :: x3 :: x4 :: x5 :: z :: r:=rfl
theorem Ei{x0 x1 x2 x3 x4 x5 x6:Option D}{d:D}{r:Ev}:bQ 7 (x0 :: x1 :: x2 :: x3 :: x4 :: x5 :: x6 :: some d :: r) M R=R d M:=propext ⟨fun zz=>by obtain⟨_,h,q⟩:=zz;cases h;exact q,fun q=>⟨_,rfl,q⟩⟩
theorem Et{x0 x1 x2 x3 x4 x5 x6:Option D}{y z:Option D}{r:Ev}:(x0 :: x1 :: x2 :: x3 :: x4 :: x5 :: x6 :: y :: r:Ev).set 7 z=x0 :: x1 :: x2 :: x3 :: x4 :: x5 :: x6 :: z :: r:=rfl
theorem Eh{x0 x1 x2 x3 x4 x5 x6 x7:Option D}{d:D}{r:Ev}:bQ 8 (x0 :: x1 :: x2 :: x3 :: x4 :: x5 :: x6 :: x7 :: some d :: r) M R=R d M:=propext ⟨fun zz=>by obtain⟨_,h,q⟩:=zz;cases h;exact q,fun q=>⟨_,rfl,q⟩⟩
theorem Es{x0 x1 x2 x3 x4 x5 x6 x7:Option D}{y z:Option D}{r:Ev}:(x0 :: x1 :: x2 :: x3 :: x4 :: x5 :: x6 :: x7 :: y :: r:Ev).set 8 z=x0 :: x1 :: x2 :: x3 :: x4 :: x5 :: x6 :: x7 :: z :: r:=rfl
theorem Eg{x0 x1 x2 x3 x4 x5 x6 x7 x8:Option D}{d:D}{r:Ev}:bQ 9 (x0 :: x1 :: x2 :: x3 :: x4 :: x5 :: x6 :: x7 :: x8 :: some d :: r) M R=R d M:=propext ⟨fun zz=>by obtain⟨_,h,q⟩:=zz;cases h;exact q,fun q=>⟨_,rfl,q⟩⟩
theorem Er{x0 x1 x2 x3 x4 x5 x6 x7 x8:Option D}{y z:Option D}{r:Ev}:(x0 :: x1 :: x2 :: x3 :: x4 :: x5 :: x6 :: x7 :: x8 :: y :: r:Ev).set 9 z=x0 :: x1 :: x2 :: x3 :: x4 :: x5 :: x6 :: x7 :: x8 :: z :: r:=rfl
theorem Ai{x0 x1 x2 x3 x4 x5 x6 x7 x8 x9:Option D}{d:D}{r:Ev}:bQ 10 (x0 :: x1 :: x2 :: x3 :: x4 :: x5 :: x6 :: x7 :: x8 :: x9 :: some d :: r) M R=R d M:=propext ⟨fun zz=>by obtain⟨_,h,q⟩:=zz;cases h;exact q,fun q=>⟨_,rfl,q⟩⟩
theorem Au{x0 x1 x2 x3 x4 x5 x6 x7 x8 x9:Option D}{y z:Option D}{r:Ev}:(x0 :: x1 :: x2 :: x3 :: x4 :: x5 :: x6 :: x7 :: x8 :: x9 :: y :: r:Ev).set 10 z=x0 :: x1 :: x2 :: x3 :: x4 :: x5 :: x6 :: x7 :: x8 :: x9 :: z :: r:=rfl
theorem u0{M:Mem}{ds es:List D}:p7 M (.tup ds) es=(es=ds):=by
 apply propext
 constructor
 ·intro h
  rcases h with h|⟨_,h,_⟩|h
  ·injection h with h;exact h.symm
  ·exact absurd h (by intro z;cases z)
  ·exact absurd h (by intro z;cases z)
 ·intro h;exact .inl (by rw[h])
theorem h9{M:Mem}{ds es:List D}:p7 M (.vl ds) es=(es=ds):=by
 apply propext
 constructor
 ·intro h
  rcases h with h|⟨_,h,_⟩|h
  ·exact absurd h (by intro z;cases z)
  ·exact absurd h (by intro z;cases z)
  ·injection h with h;exact h.symm
 ·intro h;exact .inr (.inr (by rw[h]))
theorem p9{ds:List D}{n:Nat}{d:D}(h:ds[n]? = some d):atI ds (n:Int)=some d:=by
 obtain⟨hl,_⟩:=JV.mp h
 unfold atI ixN
 rw[if_pos (Int.natCast_nonneg n),if_pos (by omega)]
 simpa using h
theorem tN:Bs tr e M R=tr e M fun ds M1=>SzK ds.length (R (.vl ds) M1):=rfl
theorem tU:Bw ta tb e M R=ta e M fun x M1=>tb e M1 fun y M2=>wa x y M2 R:=rfl
theorem Ax{tl th:DTO}:FZ ta tl th e M R=ta e M fun x M1=>tl e M1 fun l M2=>th e M2 fun u M3=>zI x l u M3 R:=rfl
theorem ki{Q:Option Int→Mem→Prop}:qD e M Q=Q none M:=rfl
theorem tJ{Q:Option Int→Mem→Prop}:Bp ta e M Q=ta e M fun x M1=>BJ x M1 Q:=rfl
theorem oX{i:Int}{Q:Option Int→Mem→Prop}:BJ (.int i) M Q=Q (some i) M:=propext ⟨fun zz=>by obtain⟨_,h,r⟩:=zz;cases h;exact r,fun r=>⟨_,rfl,r⟩⟩
theorem oZ:wB tr e M R=tr e M fun ds M1=>eI ds M1 R:=rfl
theorem dg{ds:List D}:eI [.tup ds] M R=R (.vl ds) M:=propext ⟨fun zz=>by obtain⟨_,_,h,h2,r⟩:=zz;cases h;rw[u0]at h2;subst h2;exact r,fun r=>⟨_,_,rfl,.inl rfl,r⟩⟩
theorem tQ{neg:Bool}{x:D}{ds:List D}:DB neg x (.vl ds) M R=(cl 60 x=true∧clL 59 ds=true∧R (.bl (neg.xor (@decide (x∈ds) (KA _)))) M):=propext ⟨fun zz=>by obtain⟨_,a,b,c,r⟩:=zz;rw[h9]at b;subst b;exact⟨a,c,r⟩,fun⟨a,c,r⟩=>⟨ds,a,by rw[h9],c,r⟩⟩
theorem aJ{ds:List D}:eI [.vl ds] M R=R (.vl ds) M:=propext ⟨fun zz=>by obtain⟨_,_,h,h2,r⟩:=zz;cases h;rw[h9]at h2;subst h2;exact r,fun r=>⟨_,_,rfl,.inr (.inr rfl),r⟩⟩
theorem kc{ds:List D}:Bf [.vl ds] M R=R (.tup ds) M:=propext ⟨fun zz=>by obtain⟨_,_,h,h2,r⟩:=zz;cases h;cases h2;exact r,fun r=>⟨_,_,rfl,rfl,r⟩⟩
theorem kf{xs ys:List D}:wa (.vl xs) (.vl ys) M R=SzK (xs.length+ys.length) (R (.vl (xs++ys)) M):=propext ⟨fun zz=>by obtain⟨_,_,h,h2,z,r⟩:=zz;cases h;cases h2;exact⟨z,r⟩,fun⟨z,r⟩=>⟨_,_,rfl,rfl,z,r⟩⟩
theorem oN{xs:List D}{lo hi:Option Int}:zI (.vl xs) lo hi M R=R (.vl (J6 xs lo hi)) M:=propext ⟨fun h=>by
 rcases h with⟨_,h,r⟩|⟨_,h,_⟩
 ·cases h;exact r
 ·exact(nomatch h),fun r=>.inl ⟨_,rfl,r⟩⟩
theorem oM{xs:List D}{lo hi:Option Int}:zI (.tup xs) lo hi M R=(¬ (HT.sIx xs.length 0 lo=0∧HT.sIx xs.length xs.length hi=xs.length)∧R (.tup (J6 xs lo hi)) M):=propext ⟨fun h=>by
 rcases h with⟨_,h,r⟩|⟨_,h,hw,r⟩
 ·cases h
 ·cases h;exact⟨hw,r⟩,fun⟨hw,r⟩=>.inr ⟨_,rfl,hw,r⟩⟩
theorem AK:Gi ta e M R=ta e M fun x M1=>Ea x M1 R:=rfl
theorem mq{p:Addr}{ds:List D}(h:M p=some (.lst ds)):Ea (.ref p) M R=R (.vl ds) (bg M p):=propext ⟨fun zz=>by obtain⟨_,_,e,h',r⟩:=zz;cases e;rw[h]at h';cases h';exact r,fun r=>⟨_,_,rfl,h,r⟩⟩
theorem pk{n:Nat}{caps:List Nat}{ti:DTI}{g:DTG}{tc:aH}{te:DTE}:nE n caps ti g tc te e M R=ti e M fun ds stay M1=>BL (lZ n caps e) g tc te ds stay M1 R:=rfl
theorem Av{Q:Bool→Mem→Prop}:zM e M Q=Q true M:=rfl
section
variable {Q:List D→(Mem→Prop)→Mem→Prop}
theorem oR:Bk ta e M Q=ta e M fun x M1=>Ac x M1 Q:=rfl
theorem tH{ds:List D}:Ac (.tup ds) M Q=Q ds (fun M'=>p7 M' (.tup ds) ds) M:=propext ⟨fun zz=>by obtain⟨_,h,r⟩:=zz;rw[u0]at h;subst h;exact r,fun r=>⟨_,.inl rfl,r⟩⟩
theorem tF{ds:List D}:Ac (.vl ds) M Q=Q ds (fun M'=>p7 M' (.vl ds) ds) M:=propext ⟨fun zz=>by obtain⟨_,h,r⟩:=zz;rw[h9]at h;subst h;exact r,fun r=>⟨_,.inr (.inr rfl),r⟩⟩
theorem kg:wt tr e M Q=tr e M fun xs M1=>xf xs M1 Q:=rfl
theorem pj{ds:List D}:xf [.tup ds] M Q=Q (R7 ds) (fun M'=>p7 M' (.tup ds) ds) M:=propext ⟨fun zz=>by obtain⟨_,_,h,h2,r⟩:=zz;cases h;rw[u0]at h2;subst h2;exact r,fun r=>⟨_,_,rfl,.inl rfl,r⟩⟩
theorem pf{ds:List D}:xf [.vl ds] M Q=Q (R7 ds) (fun M'=>p7 M' (.vl ds) ds) M:=propext ⟨fun zz=>by obtain⟨_,_,h,h2,r⟩:=zz;cases h;rw[h9]at h2;subst h2;exact r,fun r=>⟨_,_,rfl,.inr (.inr rfl),r⟩⟩
theorem oQ:Bj tr e M Q=tr e M fun xs M1=>wV xs M1 Q:=rfl
theorem oW{ds es:List D}:wV [.tup ds,.tup es] M Q=Q (P2 ds es) (fun M'=>p7 M' (.tup ds) ds∧p7 M' (.tup es) es) M:=propext ⟨fun zz=>by obtain⟨_,_,_,_,h,h2,h3,r⟩:=zz;cases h;rw[u0]at h2 h3;subst h2;subst h3;exact r,fun r=>⟨_,_,_,_,rfl,.inl rfl,.inl rfl,r⟩⟩
theorem oT{ds es:List D}:wV [.vl ds,.vl es] M Q=Q (P2 ds es) (fun M'=>p7 M' (.vl ds) ds∧p7 M' (.vl es) es) M:=propext ⟨fun zz=>by obtain⟨_,_,_,_,h,h2,h3,r⟩:=zz;cases h;rw[h9]at h2 h3;subst h2;subst h3;exact r,fun r=>⟨_,_,_,_,rfl,.inr (.inr rfl),.inr (.inr rfl),r⟩⟩
theorem oV{ds es:List D}:wV [.tup ds,.vl es] M Q=Q (P2 ds es) (fun M'=>p7 M' (.tup ds) ds∧p7 M' (.vl es) es) M:=propext ⟨fun zz=>by obtain⟨_,_,_,_,h,h2,h3,r⟩:=zz;cases h;rw[u0]at h2;rw[h9]at h3;subst h2;subst h3;exact r,fun r=>⟨_,_,_,_,rfl,.inl rfl,.inr (.inr rfl),r⟩⟩
theorem oU{ds es:List D}:wV [.vl ds,.tup es] M Q=Q (P2 ds es) (fun M'=>p7 M' (.vl ds) ds∧p7 M' (.tup es) es) M:=propext ⟨fun zz=>by obtain⟨_,_,_,_,h,h2,h3,r⟩:=zz;cases h;rw[h9]at h2;rw[u0]at h3;subst h2;subst h3;exact r,fun r=>⟨_,_,_,_,rfl,.inr (.inr rfl),.inl rfl,r⟩⟩
theorem oS:Bl tr e M Q=tr e M fun xs M1=>Gy xs M1 Q:=rfl
theorem tI{j:Int}:Gy [.int j] M Q=((-(2 ^ 62)≤j∧j<2 ^ 62)∧Q (R1 0 j.toNat) (fun _=>True) M):=propext ⟨fun zz=>by obtain⟨_,h,a,b,r⟩:=zz;cases h;exact⟨⟨a,b⟩,r⟩,fun⟨⟨a,b⟩,r⟩=>⟨_,rfl,a,b,r⟩⟩
end
theorem AL{ti:DTI}{g:DTG}:Gj ti g t F e M=ti e M fun ds stay M1=>U9 g t F ds stay e M1:=rfl
theorem U9.by{g:DTG}{ds:List D}{stay:Mem→Prop}{M1:Mem}(W:Nat→Ev→Mem→Prop)(w0:W 0 e M1)(st:∀ i e M,i≤ds.length→W i e M→stay M)
  (turn:∀(i:Nat) (d:D) e M,ds[i]? = some d→W i e M→g d e M fun e2 M2=>t { F with nx:=W (i+1),ct:=W (i+1),bk:=F.nx } e2 M2) (done:∀ e M,W ds.length e M→F.nx e M):U9 g t F ds stay e M1:=⟨W,w0,st,turn,done⟩
theorem qM{F:aI}(W:Nat→Ev→Mem→Prop)(m:Nat)(w0:W m e M)(turn:∀ m e M,W m e M→tA e M fun b M1=>IfK b (t { F with nx:=fun e' M'=>∃ m',m'<m∧W m' e' M',ct:=fun e' M'=>∃ m',m'<m∧W m' e' M',bk:=F.nx } e M1) (F.nx e M1)):wz tA t F e M:=⟨W,⟨m,w0⟩,turn⟩
theorem xa{F:aI}(P:Ev→Mem→Prop)(h1:t { F with nx:=P } e M)(h2:∀ e' M',P e' M'→u F e' M'):Bo t u F e M:=⟨P,h1,h2⟩
theorem EK{g:DRM}:dLM g ta tr e M R=ta e M fun x M1=>LMK x M1 (tr e M1 fun xs M2=>g x xs M2 R):=rfl
theorem V9{x0:D}{r:List D}:gIx (.tup (x0 :: r)) (.int 0) M R=R x0 M:=U7 (p9 (n:=0) rfl)
theorem sV{x0:D}{r:List D}:gIx (.vl (x0 :: r)) (.int 0) M R=R x0 M:=U7 (p9 (n:=0) rfl)
theorem V8{x0 x1:D}{r:List D}:gIx (.tup (x0 :: x1 :: r)) (.int 1) M R=R x1 M:=U7 (p9 (n:=1) rfl)
theorem sU{x0 x1:D}{r:List D}:gIx (.vl (x0 :: x1 :: r)) (.int 1) M R=R x1 M:=U7 (p9 (n:=1) rfl)
theorem gK{x0 x1 x2:D}{r:List D}:gIx (.tup (x0 :: x1 :: x2 :: r)) (.int 2) M R=R x2 M:=U7 (p9 (n:=2) rfl)
theorem sT{x0 x1 x2:D}{r:List D}:gIx (.vl (x0 :: x1 :: x2 :: r)) (.int 2) M R=R x2 M:=U7 (p9 (n:=2) rfl)
theorem tm{x0 x1 x2 x3:D}{r:List D}:gIx (.tup (x0 :: x1 :: x2 :: x3 :: r)) (.int 3) M R=R x3 M:=U7 (p9 (n:=3) rfl)
theorem sS{x0 x1 x2 x3:D}{r:List D}:gIx (.vl (x0 :: x1 :: x2 :: x3 :: r)) (.int 3) M R=R x3 M:=U7 (p9 (n:=3) rfl)
theorem sZ{x0 x1 x2 x3 x4:D}{r:List D}:gIx (.tup (x0 :: x1 :: x2 :: x3 :: x4 :: r)) (.int 4) M R=R x4 M:=U7 (p9 (n:=4) rfl)
theorem sR{x0 x1 x2 x3 x4:D}{r:List D}:gIx (.vl (x0 :: x1 :: x2 :: x3 :: x4 :: r)) (.int 4) M R=R x4 M:=U7 (p9 (n:=4) rfl)
theorem sY{x0 x1 x2 x3 x4 x5:D}{r:List D}:gIx (.tup (x0 :: x1 :: x2 :: x3 :: x4 :: x5 :: r)) (.int 5) M R=R x5 M:=U7 (p9 (n:=5) rfl)
theorem sQ{x0 x1 x2 x3 x4 x5:D}{r:List D}:gIx (.vl (x0 :: x1 :: x2 :: x3 :: x4 :: x5 :: r)) (.int 5) M R=R x5 M:=U7 (p9 (n:=5) rfl)
theorem sX{x0 x1 x2 x3 x4 x5 x6:D}{r:List D}:gIx (.tup (x0 :: x1 :: x2 :: x3 :: x4 :: x5 :: x6 :: r)) (.int 6) M R=R x6 M:=U7 (p9 (n:=6) rfl)
theorem sP{x0 x1 x2 x3 x4 x5 x6:D}{r:List D}:gIx (.vl (x0 :: x1 :: x2 :: x3 :: x4 :: x5 :: x6 :: r)) (.int 6) M R=R x6 M:=U7 (p9 (n:=6) rfl)
theorem sW{x0 x1 x2 x3 x4 x5 x6 x7:D}{r:List D}:gIx (.tup (x0 :: x1 :: x2 :: x3 :: x4 :: x5 :: x6 :: x7 :: r)) (.int 7) M R=R x7 M:=U7 (p9 (n:=7) rfl)
theorem sO{x0 x1 x2 x3 x4 x5 x6 x7:D}{r:List D}:gIx (.vl (x0 :: x1 :: x2 :: x3 :: x4 :: x5 :: x6 :: x7 :: r)) (.int 7) M R=R x7 M:=U7 (p9 (n:=7) rfl)
theorem As{A:Prop}:SzK (0) A=A:=B6 (by decide)
theorem Ar{A:Prop}:SzK (0+1) A=A:=B6 (by decide)
theorem Aq{A:Prop}:SzK (0+1+1) A=A:=B6 (by decide)
theorem Ap{A:Prop}:SzK (0+1+1+1) A=A:=B6 (by decide)
theorem Ao{A:Prop}:SzK (0+1+1+1+1) A=A:=B6 (by decide)
theorem An{A:Prop}:SzK (0+1+1+1+1+1) A=A:=B6 (by decide)
theorem Am{A:Prop}:SzK (0+1+1+1+1+1+1) A=A:=B6 (by decide)
theorem Al{A:Prop}:SzK (0+1+1+1+1+1+1+1) A=A:=B6 (by decide)
theorem Ak{A:Prop}:SzK (0+1+1+1+1+1+1+1+1) A=A:=B6 (by decide)
theorem Aj{A:Prop}:SzK (0+1+1+1+1+1+1+1+1+1) A=A:=B6 (by decide)
theorem yd{i:Int}:cl 60 (.int i)=true:=rfl
theorem xV:cl 60 .non=true:=rfl
theorem xJ{ds:List D}:cl 60 (.tup ds)=clL 59 ds:=rfl
theorem xD{ds:List D}:cl 60 (.vl ds)=clL 59 ds:=rfl
theorem xo:clL 59 []=true:=rfl
theorem xv{d:D}{r:List D}:clL 59 (d :: r)=(cl 59 d && clL 59 r):=rfl
theorem ye{i:Int}:cl 59 (.int i)=true:=rfl
theorem xW:cl 59 .non=true:=rfl
theorem xK{ds:List D}:cl 59 (.tup ds)=clL 58 ds:=rfl
theorem xE{ds:List D}:cl 59 (.vl ds)=clL 58 ds:=rfl
theorem xp:clL 58 []=true:=rfl
theorem xw{d:D}{r:List D}:clL 58 (d :: r)=(cl 58 d && clL 58 r):=rfl
theorem yf{i:Int}:cl 58 (.int i)=true:=rfl
theorem xX:cl 58 .non=true:=rfl
theorem xM{ds:List D}:cl 58 (.tup ds)=clL 57 ds:=rfl
theorem xF{ds:List D}:cl 58 (.vl ds)=clL 57 ds:=rfl
theorem xq:clL 57 []=true:=rfl
theorem xx{d:D}{r:List D}:clL 57 (d :: r)=(cl 57 d && clL 57 r):=rfl
theorem yg{i:Int}:cl 57 (.int i)=true:=rfl
theorem xY:cl 57 .non=true:=rfl
theorem xO{ds:List D}:cl 57 (.tup ds)=clL 56 ds:=rfl
theorem xG{ds:List D}:cl 57 (.vl ds)=clL 56 ds:=rfl
theorem xr:clL 56 []=true:=rfl
theorem xA{d:D}{r:List D}:clL 56 (d :: r)=(cl 56 d && clL 56 r):=rfl
theorem yh{i:Int}:cl 56 (.int i)=true:=rfl
theorem xZ:cl 56 .non=true:=rfl
theorem xP{ds:List D}:cl 56 (.tup ds)=clL 55 ds:=rfl
theorem xH{ds:List D}:cl 56 (.vl ds)=clL 55 ds:=rfl
theorem xt:clL 55 []=true:=rfl
theorem xB{d:D}{r:List D}:clL 55 (d :: r)=(cl 55 d && clL 55 r):=rfl
theorem yi{i:Int}:cl 55 (.int i)=true:=rfl
theorem yc:cl 55 .non=true:=rfl
theorem xQ{ds:List D}:cl 55 (.tup ds)=clL 54 ds:=rfl
theorem xI{ds:List D}:cl 55 (.vl ds)=clL 54 ds:=rfl
theorem xu:clL 54 []=true:=rfl
theorem xC{d:D}{r:List D}:clL 54 (d :: r)=(cl 54 d && clL 54 r):=rfl
theorem tO{xs:List D}:rQ [.vl xs] M R=R (.int (xs.length:Int)) M:=pd rfl
theorem tP{xs:List D}:rQ [.tup xs] M R=R (.int (xs.length:Int)) M:=pd rfl
theorem BZ{A:Prop}:SzK 1 A=A:=B6 (by decide)
theorem BY{A:Prop}:SzK 2 A=A:=B6 (by decide)
theorem BX{A:Prop}:SzK 3 A=A:=B6 (by decide)
theorem BW{A:Prop}:SzK 4 A=A:=B6 (by decide)
theorem BV{A:Prop}:SzK 5 A=A:=B6 (by decide)
theorem BU{A:Prop}:SzK 6 A=A:=B6 (by decide)
theorem BS{A:Prop}:SzK 7 A=A:=B6 (by decide)
theorem BR{A:Prop}:SzK 8 A=A:=B6 (by decide)
theorem BQ{A:Prop}:SzK 9 A=A:=B6 (by decide)
theorem xm{A:Prop}:SzK 10 A=A:=B6 (by decide)
theorem xl{A:Prop}:SzK 11 A=A:=B6 (by decide)
theorem xk{A:Prop}:SzK 12 A=A:=B6 (by decide)
theorem bD:y8 [.dic,.ty "tuple"] M R=R (.bl false) M:=p5 rfl rfl
theorem cY:y8 [.dic,.ty "list"] M R=R (.bl false) M:=p5 rfl rfl
theorem fY:y8 [.dic,.ty "int"] M R=R (.bl false) M:=p5 rfl rfl
theorem cZ:y8 [.dic,.ty "bool"] M R=R (.bl false) M:=p5 rfl rfl
theorem fX:y8 [.dic,.ty "str"] M R=R (.bl false) M:=p5 rfl rfl
theorem bz{ds:List D}:y8 [.tup ds,.ty "tuple"] M R=R (.bl true) M:=p5 rfl rfl
theorem cQ{ds:List D}:y8 [.tup ds,.ty "list"] M R=R (.bl false) M:=p5 rfl rfl
theorem fP{ds:List D}:y8 [.tup ds,.ty "int"] M R=R (.bl false) M:=p5 rfl rfl
theorem cR{ds:List D}:y8 [.tup ds,.ty "bool"] M R=R (.bl false) M:=p5 rfl rfl
theorem fO{ds:List D}:y8 [.tup ds,.ty "str"] M R=R (.bl false) M:=p5 rfl rfl
theorem bx{ds:List D}:y8 [.vl ds,.ty "tuple"] M R=R (.bl false) M:=p5 rfl rfl
theorem cO{ds:List D}:y8 [.vl ds,.ty "list"] M R=R (.bl true) M:=p5 rfl rfl
theorem fN{ds:List D}:y8 [.vl ds,.ty "int"] M R=R (.bl false) M:=p5 rfl rfl
theorem cP{ds:List D}:y8 [.vl ds,.ty "bool"] M R=R (.bl false) M:=p5 rfl rfl
theorem fM{ds:List D}:y8 [.vl ds,.ty "str"] M R=R (.bl false) M:=p5 rfl rfl
theorem bC{i:Int}:y8 [.int i,.ty "tuple"] M R=R (.bl false) M:=p5 rfl rfl
theorem cW{i:Int}:y8 [.int i,.ty "list"] M R=R (.bl false) M:=p5 rfl rfl
theorem fW{i:Int}:y8 [.int i,.ty "int"] M R=R (.bl true) M:=p5 rfl rfl
theorem cX{i:Int}:y8 [.int i,.ty "bool"] M R=R (.bl false) M:=p5 rfl rfl
theorem fV{i:Int}:y8 [.int i,.ty "str"] M R=R (.bl false) M:=p5 rfl rfl
theorem bB:y8 [.non,.ty "tuple"] M R=R (.bl false) M:=p5 rfl rfl
theorem cU:y8 [.non,.ty "list"] M R=R (.bl false) M:=p5 rfl rfl
theorem fU:y8 [.non,.ty "int"] M R=R (.bl false) M:=p5 rfl rfl
theorem cV:y8 [.non,.ty "bool"] M R=R (.bl false) M:=p5 rfl rfl
theorem fT:y8 [.non,.ty "str"] M R=R (.bl false) M:=p5 rfl rfl
theorem bA{x:Str}:y8 [.str x,.ty "tuple"] M R=R (.bl false) M:=p5 rfl rfl
theorem cS{x:Str}:y8 [.str x,.ty "list"] M R=R (.bl false) M:=p5 rfl rfl
theorem fR{x:Str}:y8 [.str x,.ty "int"] M R=R (.bl false) M:=p5 rfl rfl
theorem cT{x:Str}:y8 [.str x,.ty "bool"] M R=R (.bl false) M:=p5 rfl rfl
theorem fQ{x:Str}:y8 [.str x,.ty "str"] M R=R (.bl true) M:=p5 rfl rfl
theorem bE{b:Bool}:y8 [.bl b,.ty "tuple"] M R=R (.bl false) M:=p5 rfl rfl
theorem dc{b:Bool}:y8 [.bl b,.ty "list"] M R=R (.bl false) M:=p5 rfl rfl
theorem gc{b:Bool}:y8 [.bl b,.ty "int"] M R=R (.bl true) M:=p5 rfl rfl
theorem de{b:Bool}:y8 [.bl b,.ty "bool"] M R=R (.bl true) M:=p5 rfl rfl
theorem fZ{b:Bool}:y8 [.bl b,.ty "str"] M R=R (.bl false) M:=p5 rfl rfl
theorem AM:Gk ta e M R=ta e M fun x M1=>Ec x M1 R:=rfl
theorem jJ{x:D}{ds:List D}{Q:List D→(Mem→Prop)→Mem→Prop}(h:p7 M x ds)(r:Q ds (fun M'=>p7 M' x ds) M):Ac x M Q:=⟨ds,h,r⟩
theorem eU{l:Addr}{ds:List D}{A:Prop}(h:M l=some (.lst ds))(a:A):LMK (.ref l) M A:=⟨⟨l,ds,rfl,h⟩,a⟩
theorem eX{l:Addr}{ds:List D}{v:D}(h:M l=some (.lst ds))(hz:ds.length<1000)(r:R .non (B8 M l (.lst (ds++[v])))):qv (.ref l) [v] M R:=⟨l,ds,v,rfl,rfl,h,JN hz (by decide),r⟩
theorem jM{x:D}{M1 M2:Mem}(h:∀ b o,M2 b=some o→M1 b=some o)(r:R x M2):Ec x M1 R:=⟨M2,h,r⟩
theorem tE{ns:List Int}:FP [.vl (ns.map D.int)] M R=R (.int ns.sum) M:=propext ⟨fun zz=>by
 obtain⟨_,ms,e,h,r⟩:=zz
 cases e
 have h:ns.map D.int=ms.map D.int:=Option.some.inj h
 have e2:ns=ms:=(Lg (fun a b z=>by injection z)).mp h
 rw[e2];exact r,fun r=>⟨_,ns,rfl,rfl,r⟩⟩
end
theorem Y3{p:Str→Prop}:∀ x∈([]:List Str),p x:=fun _ h=>nomatch h
section
variable {e0:Ev} {g:DTG} {te:DTE} {tc:aH} {ds:List D} {stay:Mem→Prop} {M1:Mem} {E:List D→Mem→Prop}
theorem A3{α:Type}{xs:List α}{enc:α→D}(f:α→D)(hn:xs.length≤1000)(hst:stay M1)(step:∀ x∈xs,∀ Q:DK,Q (f x) M1→g (enc x) e0 M1 fun e2 M2=>te e2 M2 Q)(h:E (xs.map f) M1):∃ W,mn e0 g zM te (xs.map enc) stay M1 E W:=by
 refine⟨fun i ys M=>M=M1∧ys=(xs.take i).map f,⟨⟨rfl,rfl⟩,fun i ys M _ w=>by rw[w.1];exact hst,fun i d ys M hd w=>?_,fun ys M w=>?_⟩⟩
 ·obtain⟨rfl,rfl⟩:=w
  rw[Ki]at hd
  cases hx:xs[i]? with
  | none=>rw[hx]at hd;cases hd
  | some x =>
   rw[hx]at hd
   obtain rfl:enc x=d:=by simpa using hd
   refine step x (Kd hx) _ ⟨?_,rfl,?_⟩
   ·rw[JD,JX]
    exact Kz (JR (Mg _ _) hn) (by decide)
   ·obtain⟨hl,he⟩:=JV.mp hx
    rw[Lb hl,Kp,he];rfl
 ·obtain⟨rfl,rfl⟩:=w
  rw[JD,La];exact h
theorem jz{α:Type}{xs:List α}{enc:α→D}(p:α→Bool)(f:α→D)(hn:xs.length≤1000)(hst:stay M1)
  (step:∀ x∈xs,∀(Q:DK) (N:Prop),(p x=true→Q (f x) M1)→(p x=false→N)→g (enc x) e0 M1 fun e2 M2=>tc e2 M2 fun b M3=>IfK b (te e2 M3 Q) (M3=M1∧N)) (h:E ((xs.filter p).map f) M1):∃ W,mn e0 g tc te (xs.map enc) stay M1 E W:=by
 refine⟨fun i ys M=>M=M1∧ys=((xs.take i).filter p).map f,⟨⟨rfl,rfl⟩,fun i ys M _ w=>by rw[w.1];exact hst,fun i d ys M hd w=>?_,fun ys M w=>?_⟩⟩
 ·obtain⟨rfl,rfl⟩:=w
  rw[Ki]at hd
  cases hx:xs[i]? with
  | none=>rw[hx]at hd;cases hd
  | some x =>
   rw[hx]at hd
   obtain rfl:enc x=d:=by simpa using hd
   obtain⟨hl,he⟩:=JV.mp hx
   have hle:(((xs.take i).filter p).map f).length<sizeLine:=by
    rw[JD]
    have h1:=LC p (xs.take i)
    rw[JX]at h1
    exact Kz (JR h1 (JR (Mg _ _) hn)) (by decide)
   have hs:=step x (Kd hx) (fun v M4=>(((xs.take i).filter p).map f).length<sizeLine∧M4=M∧((xs.take i).filter p).map f++[v]=((xs.take (i+1)).filter p).map f) (((xs.take i).filter p).map f=((xs.take (i+1)).filter p).map f)
    (fun hp=>⟨hle,rfl,by rw[Lb hl,NB,Kp,he];simp[hp]⟩)
    (fun hp=>by rw[Lb hl,NB,Kp,he];simp[hp])
   exact hs
 ·obtain⟨rfl,rfl⟩:=w
  rw[JD,La];exact h
theorem nI{α:Type}(enc:α→D)(ok:α→Prop)(St:Mem→Mem→Prop)(n:Nat)(hl:ds.length=n)(hn:n≤1000)(hst:∀ M,St M1 M→stay M)(s0:St M1 M1)
  (step:∀ d∈ds,∀ M,St M1 M→∀ Q:DK,(∀ x M',ok x→St M1 M'→Q (enc x) M')→g d e0 M fun e2 M2=>te e2 M2 Q) (h:∀(xs:List α) M,xs.length=n→(∀ x∈xs,ok x)→St M1 M→E (xs.map enc) M):∃ W,mn e0 g zM te ds stay M1 E W:=by
 refine⟨fun i ys M=>St M1 M∧∃ xs:List α,xs.length=i∧(∀ x∈xs,ok x)∧ys=xs.map enc,⟨⟨s0,[],rfl,(fun _ z=>nomatch z),rfl⟩,fun i ys M _ w=>hst M w.1,fun i d ys M hd w=>?_,fun ys M w=>?_⟩⟩
 ·obtain⟨sM,xs,hl,hok,rfl⟩:=w
  have hi:i<ds.length:=(JV.mp hd).1
  refine step d (Kd hd) M sM _ fun x M' hx sM'=>⟨?_,sM',xs++[x],by simp[hl],fun z hz=>?_,by simp⟩
  ·rw[JD,hl];exact JN (JN hi (by omega)) (show 1000≤sizeLine by decide)
  ·rcases Kf.mp hz with z1|z1
   ·exact hok z z1
   ·rw[Kl.mp z1];exact hx
 ·obtain⟨sM,xs,hl,hok,rfl⟩:=w
  exact h xs M (by omega) hok sM
end
section
variable {X:Cx} {pos:Pos}
theorem jc{x:Str}{j k:Nat}{ps:List Str}{sp:DSp}{p:Pos}{e:Expr}{es:List Expr}{t:DTA}(G:Fn X.prog X.w X.K X.mg X.base x j ps sp)(hr:F5 k X.A)(ha:JA X (e :: es) t)(hk:j≤k:=by decide)(hg:Gl X x:=by rfl)
  (hdb:(x == ("__debug__" : Str))=false:=by decide) (he:starEach (e :: es) X.env=(false,eval e X.env) :: starEach es X.env:=by rfl) (hpl:(backTo pos (starEach es X.env)).any (·.1)=false:=by rfl):JE X (.Call (.Name x p) (e :: es) [] pos) (qE sp [] Y0 t):=vR G (hr.mono hk) hg ha hdb he hpl
theorem jx{a b:Expr}{ta tb:DTE}(ha:JE X a ta)(hb:JE X b tb)(hs:jK b:=by exact fun _ _=>rfl):JE X (.Subscript a b pos) (dOp gIx ta tb):=FH FL ha hb hs
theorem jst(i:Nat){x:Str}{e:Expr}{tx:DTE}{q:Pos}(hN:X.N.Nodup)(he:JE X e tx)(hi:X.N[i]? = some x:=by rfl)(hx:Loc X.env.scope x:=by first|exact .inl rfl|exact .inr rfl)(hs:swapsWith e (some (.Name x q)) pos.line X.env=pure false:=by rfl)
  (hf:X.fn x=true∨X.env.scope.names.lookup x=some .local:=by first|exact .inl rfl|exact .inr rfl|assumption):JS X (.Assign [.Name x q] e pos) (wC tx (bf i)):=zv hN hi hx he hs hf
theorem jn(i:Nat){x:Str}(hN:X.N.Nodup)(hi:X.N[i]? = some x:=by rfl)(hx:Loc X.env.scope x:=by first|exact .inl rfl|exact .inr rfl)(hf:X.fn x=true∨X.env.scope.names.lookup x=some .local:=by first|exact .inl rfl|exact .inr rfl|assumption):JG X (.Name x pos) (bf i):=vP hN hi hx hf
theorem jm{op:CmpOp}{g:DR2}{a b:Expr}{ta tb:DTE}(ho:DOp X (compareOp op) g)(ha:JE X a ta)(hb:JE X b tb)(hm:behindInMarks op b=false:=by first|exact vD _|with_unfolding_all rfl):JE X (.Compare a [op] [b] pos) (dOp g ta tb):=Dw ho ha hb hm
theorem jtm{op:CmpOp}{g:DR2}{a b:Expr}{ta tb:DTE}(ho:DOp X (compareOp op) g)(ha:JE X a ta)(hb:JE X b tb)(hm:behindInMarks op b=false:=by first|exact vD _|with_unfolding_all rfl):JT X (.Compare a [op] [b] pos) (qC (dOp g ta tb)):=zw ho ha hb hm
end
end DL
namespace GM
open PySem PySem.Spec L2 DL
open PyProof.Rows hiding St
noncomputable def d7(q:Rat):D:=.tup [.int q.num,.int (q.den:Int)]
theorem R0{q r:Rat}(h:d7 q=d7 r):q=r:=by
 unfold d7 at h
 injection h with h
 injection h with h1 h2
 injection h1 with h1
 injection h2 with h2 _
 injection h2 with h2
 exact Rat.ext h1 (by omega)
theorem g8{q r:Rat}:d7 q=d7 r↔q=r:=⟨R0,fun h=>by rw[h]⟩
structure D7(M:Mem)(p:Addr):Prop where
 ex:∃ x y z:Int,M p=some (.lst [.int x,.int y,.int z])
def MK(M M':Mem):Prop:=∀ b o,M b=some o→M' b=some o
theorem MK.refl(M:Mem):MK M M:=fun _ _ h=>h
theorem MK.trans{M M1 M2:Mem}(a:MK M M1)(b:MK M1 M2):MK M M2:=fun c o h=>b c o (a c o h)
theorem MK.new{M:Mem}{p:Addr}{o:MO}(h:M p=none):MK M (B8 M p o):=fun b u e=>by
 have:b≠p:=by intro z;subst z;rw[h]at e;cases e
 rw[J9 this];exact e
theorem MK.pool{M M':Mem}(k:MK M M'){p:Addr}(h:D7 M p):D7 M' p:=let ⟨x,y,z,e⟩:=h.ex;⟨x,y,z,k _ _ e⟩
structure C2(p:Addr)(M M':Mem):Prop where
 keep:∀ b o,b≠p→M b=some o→M' b=some o
 pool:D7 M' p
theorem C2.refl{p:Addr}{M:Mem}(h:D7 M p):C2 p M M:=⟨fun _ _ _ h=>h,h⟩
theorem C2.trans{p:Addr}{M M1 M2:Mem}(a:C2 p M M1)(b:C2 p M1 M2):C2 p M M2:=⟨fun c o n h=>b.keep c o n (a.keep c o n h),b.pool⟩
theorem C2.upd{p:Addr}{M:Mem}(x y z:Int):C2 p M (B8 M p (.lst [.int x,.int y,.int z])):=⟨fun b o n h=>by rw[J9 n];exact h,⟨x,y,z,g7⟩⟩
theorem D7.ne{M:Mem}{p l:Addr}(h:D7 M p)(hl:M l=none):l≠p:=by
 intro e;subst e;obtain⟨x,y,z,q⟩:=h.ex;rw[hl]at q;cases q
def mD:DSp:=fun ds M R _=>∃ c:Int,ds=[.int c]∧∀ p M',M p=none→MK M M'→D7 M' p→R (.ref p) M'
def W2:DSp:=fun ds M R _=>∃(p:Addr) (b:Int),ds=[.ref p,.int b]∧D7 M p∧0<b∧b.natAbs.log2<9000∧∀(r:Int) M',0≤r→r<b→C2 p M M'→R (.int r) M'
theorem Gp:xi 10 18:=⟨by decide,by decide,by decide⟩
theorem Gq:xi 10 12:=⟨by decide,by decide,by decide⟩
theorem Di{a b:Int}(h1:-(2 ^ 64)<a)(h2:a<2 ^ 64):IntMulOk a b:=.of_left (intBits_le_64 h1 h2)
theorem Hb{x m k b:Int}(hm:0<m)(hm2:m<2 ^ 60)(hk:0≤k)(hk2:k<2 ^ 60):IntMulOk (x % m+k) b:=by
 have h1:=Mu x (show m≠0 by omega)
 have h2:=LQ x hm
 exact Di (by omega) (by omega)
theorem FD{x m b:Int}(hm:0<m)(hm2:m<2 ^ 60):IntMulOk (x % m) b:=by
 have h1:=Mu x (show m≠0 by omega)
 have h2:=LQ x hm
 exact Di (by omega) (by omega)
theorem Hn{i:Int}:CFd i 8:=⟨by decide,by decide⟩
theorem cF{a b:Int}(ha:0≤a)(hb:0≤b):a.fdiv b=a / b:=Int.fdiv_eq_ediv_of_nonneg a hb
theorem vX{a b:Int}(hb:b≠0):((Ll a.natAbs b.natAbs:Nat):Int)≠0:=by
 have hp:0<b.natAbs:=Int.natAbs_pos.mpr hb
 have:=LN a.natAbs hp
 omega
theorem jf{a b s:Int}(hb:b≠0)(hs:s=if b<0 then -((Ll a.natAbs b.natAbs:Nat):Int)else((Ll a.natAbs b.natAbs:Nat):Int)){M:Mem}{R:DK}(k:R (d7 (Lh a b)) M) :
  R (.tup [.int (a.fdiv s),.int (b.fdiv s)]) M:=by
 obtain⟨h1,h2⟩:=RM.Dm a b hb s hs
 rw[h1,h2];exact k
theorem eC{a b:Int}{n:Nat}(hn:0<n)(h1:a.natAbs<2 ^ n)(h2:b.natAbs<2 ^ n)(hb:b≠0):RM.sz (Lh a b)≤n :=
 JR (RM.G8 a b hb) (Mn.mpr ⟨RM.S3 h1 hn,RM.S3 h2 hn⟩)
def pA:DSp:=fun ds M R _=>∃ n:Int,ds=[.int n]∧R (.bl true) M
end GM
namespace GM
open PySem PySem.Spec L2 DL
def pB:DSp:=fun ds _ R _=>∃ ns:List Int,ds=[.vl (ns.map D.int)]∧ns.length≤63∧∀ M',R (.bl true) M'
end GM
namespace GM
open PySem PySem.Spec L2 DL
open RM (sz)
def L5:DSp:=fun ds M R _=>∃ a b:Nat,ds=[.int (a:Int),.int (b:Int)]∧R (.int ((Ll a b:Nat):Int)) M
def kr:DSp:=fun ds M R _=>∃ q:Rat,ds=[d7 q]∧R (d7 (-q)) M
def aN:DSp:=fun ds M R _=>∃ q r:Rat,ds=[d7 q,d7 r]∧sz q+sz r≤8900∧R (d7 (q+r)) M
def Y9:DSp:=fun ds M R _=>∃ q r:Rat,ds=[d7 q,d7 r]∧sz q+sz r≤8900∧R (d7 (q - r)) M
def mE:DSp:=fun ds M R _=>∃ q r:Rat,ds=[d7 q,d7 r]∧r≠0∧sz q+sz r≤8900∧R (d7 (q / r)) M
def du:DSp:=fun ds M R _=>∃ q r:Rat,ds=[d7 q,d7 r]∧sz q+sz r≤8900∧R (.bl (decide (q<r))) M
theorem ez(q:Rat):q.num.natAbs<2 ^ sz q:=JN (RM.av _) (Kw (by decide) (RM.P5 q))
theorem X9(q:Rat):((q.den:Int)).natAbs<2 ^ sz q:=by rw[JU];exact JN (RM.av _) (Kw (by decide) (RM.K8 q))
theorem mND{q r:Rat}(h:sz q+sz r≤8900):IntMulOk q.num (r.den:Int):=D8 _ _ (ez q) (X9 r) (by omega)
theorem mDD{q r:Rat}(h:sz q+sz r≤8900):IntMulOk (q.den:Int) (r.den:Int):=D8 _ _ (X9 q) (X9 r) (by omega)
theorem mDN{q r:Rat}(h:sz q+sz r≤8900):IntMulOk (q.den:Int) r.num:=D8 _ _ (X9 q) (ez r) (by omega)
theorem Dg{r:Rat}(h:r≠0):r.num≠0:=fun z=>h (Ms.mp z)
noncomputable def u7(q:Rat):Rat:=if 0≤q then q else -q
theorem Aa(q:Rat):0≤u7 q:=by
 unfold u7;split
 ·assumption
 ·grind
theorem DV(q:Rat):d7 (u7 q) = .tup [.int (q.num.natAbs:Int),.int (q.den:Int)]:=by
 unfold u7 d7
 have hz:0≤q↔0≤q.num:=Rat.num_nonneg.symm
 split
 ·rename_i h
  have:=hz.mp h
  rw[show q.num=(q.num.natAbs:Int)by omega];simp
 ·rename_i h
  have h':¬ 0≤q.num:=fun z=>h (hz.mpr z)
  rw[MI,MJ,show -q.num=(q.num.natAbs:Int)by omega]
end GM
namespace GM
open RM (sz)
theorem gC{a:Rat}{A:Int}{D S:Nat}(hS:0<S)(hD:D≠0)(hd:D<2 ^ S)(h:a*(D:Rat)=(A:Rat))(hA:A.natAbs<2 ^ S):sz a≤S:=by
 have hD':(D:Rat)≠0:=by
  intro z;exact hD (by exact_mod_cast z)
 have e:a=Lh A (D:Int):=by
  rw[LX]
  have:a=(A:Rat) / (D:Rat):=by grind
  rw[this];rfl
 rw[e]
 exact JR (RM.G8 A D (by omega)) (Mn.mpr ⟨RM.S3 hA hS,RM.S3 (by rw[JU];exact hd) hS⟩)
structure CD(S:Nat)(a b c d:Rat):Prop where
 ex:∃(A B C E:Int) (D:Nat),D≠0∧D<2 ^ S∧(A.natAbs<2 ^ S∧B.natAbs<2 ^ S∧C.natAbs<2 ^ S∧E.natAbs<2 ^ S)∧a*(D:Rat)=(A:Rat)∧b*(D:Rat)=(B:Rat)∧c*(D:Rat)=(C:Rat)∧d*(D:Rat)=(E:Rat)
theorem G3(q:Rat){k:Nat}(h:sz q≤k):q.num.natAbs<2 ^ k:=JN (RM.av _) (Kw (by decide) (JR (RM.P5 q) h))
theorem B5(q:Rat){k:Nat}(h:sz q≤k):q.den<2 ^ k:=JN (RM.av _) (Kw (by decide) (JR (RM.K8 q) h))
theorem K4(q:Rat):q*(q.den:Rat)=(q.num:Rat):=by
 have h:(q.den:Rat)≠0:=by
  intro z;exact q.den_nz (by exact_mod_cast z)
 have e:=LR q
 rw[LX,Kv]at e
 grind
theorem C8{a b m n:Nat}(h1:a<2 ^ m)(h2:b<2 ^ n):a*b<2 ^ (m+n):=by
 rw[Ob];exact MP h1 h2
theorem f8{a b:Int}{m n:Nat}(h1:a.natAbs<2 ^ m)(h2:b.natAbs<2 ^ n):(a*b).natAbs<2 ^ (m+n):=by
 rw[KS];exact C8 h1 h2
theorem X6{a b:Int}{m:Nat}(h1:a.natAbs<2 ^ m)(h2:b.natAbs<2 ^ m):(a+b).natAbs<2 ^ (m+1):=by
 have:=NJ a b
 rw[Ma];omega
theorem bH{a m n:Nat}(h:a<2 ^ m)(hn:m≤n):a<2 ^ n:=JN h (Kw (by decide) hn)
theorem CD.one:CD 1 1 0 0 1:=⟨1,0,0,1,1,by decide,by decide,⟨by decide,by decide,by decide,by decide⟩,by grind,by grind,by grind,by grind⟩
theorem CD.neg{S:Nat}{a b c d:Rat}(h:CD S a b c d):CD S (-a) (-b) (-c) (-d):=by
 obtain⟨A,B,C,E,D,h0,hd,⟨h1,h2,h3,h4⟩,e1,e2,e3,e4⟩:=h.ex
 refine⟨-A,-B,-C,-E,D,h0,hd,⟨by rw[Lm];exact h1,by rw[Lm];exact h2,by rw[Lm];exact h3,by rw[Lm];exact h4⟩,?_,?_,?_,?_⟩<;>(rw[Na];grind)
theorem CD.swap{S:Nat}{a b c d:Rat}(h:CD S a b c d):CD S c d a b:=by
 obtain⟨A,B,C,E,D,h0,hd,⟨h1,h2,h3,h4⟩,e1,e2,e3,e4⟩:=h.ex
 exact⟨C,E,A,B,D,h0,hd,⟨h3,h4,h1,h2⟩,e3,e4,e1,e2⟩
theorem CD.step{S k:Nat}{a b c d q:Rat}(h:CD S a b c d)(hq:sz q≤k):CD (S+k+1) (a+q*c) (b+q*d) c d:=by
 obtain⟨A,B,C,E,D,h0,hd,⟨h1,h2,h3,h4⟩,e1,e2,e3,e4⟩:=h.ex
 have hn:=G3 q hq
 have hm:=B5 q hq
 have hm':(q.den:Int).natAbs<2 ^ k:=by rw[JU];exact hm
 have e:=K4 q
 have z:∀{X:Int},X.natAbs<2 ^ S→(X*(q.den:Int)).natAbs<2 ^ (S+k):=fun h=>f8 h hm'
 have z2:∀{X:Int},X.natAbs<2 ^ S→(X*q.num).natAbs<2 ^ (S+k):=fun h=>f8 h hn
 refine⟨A*(q.den:Int)+C*q.num,B*(q.den:Int)+E*q.num,C*(q.den:Int),E*(q.den:Int),D*q.den,LS h0 q.den_nz,bH (C8 hd hm) (by omega),
  ⟨X6 (z h1) (z2 h3),X6 (z h2) (z2 h4),bH (z h3) (by omega),bH (z h4) (by omega)⟩,?_,?_,?_,?_⟩
 all_goals (simp only[KW,Nb,Kn,Kv];grind)
theorem CD.scale{S k:Nat}{a b c d q r:Rat}(h:CD S a b c d)(hq:sz q≤k)(hp:0<q.num)(hr:r*q=1):CD (S+2*k) (q*a) (q*b) (r*c) (r*d):=by
 obtain⟨A,B,C,E,D,h0,hd,⟨h1,h2,h3,h4⟩,e1,e2,e3,e4⟩:=h.ex
 have hn:=G3 q hq
 have hm:=B5 q hq
 have hm':(q.den:Int).natAbs<2 ^ k:=by rw[JU];exact hm
 have e:=K4 q
 obtain⟨n,en⟩:∃ n:Nat,q.num=(n:Int):=⟨q.num.toNat,by omega⟩
 rw[en]at hn e hp
 rw[JU]at hn
 rw[Kv]at e
 have hn':(n:Int).natAbs<2 ^ k:=by rw[JU];exact hn
 refine⟨A*((n:Int)*n),B*((n:Int)*n),C*((q.den:Int)*q.den),E*((q.den:Int)*q.den),D*(n*q.den),LS h0 (LS (by omega) q.den_nz),?_,⟨?_,?_,?_,?_⟩,?_,?_,?_,?_⟩
 ·rw[show S+2*k=S+(k+k)by omega];exact C8 hd (C8 hn hm)
 ·rw[show S+2*k=S+(k+k)by omega];exact f8 h1 (f8 hn' hn')
 ·rw[show S+2*k=S+(k+k)by omega];exact f8 h2 (f8 hn' hn')
 ·rw[show S+2*k=S+(k+k)by omega];exact f8 h3 (f8 hm' hm')
 ·rw[show S+2*k=S+(k+k)by omega];exact f8 h4 (f8 hm' hm')
 all_goals (simp only[KW,Kn,Kv];grind)
end GM
namespace GM
open PySem PySem.Spec L2 DL
open RM (sz)
noncomputable abbrev aT(y u:Rat):D:=.tup [d7 y,d7 u]
structure T4(S:Nat)(a b c d:Rat):Prop where
 a:sz a≤S
 b:sz b≤S
 c:sz c≤S
 d:sz d≤S
structure T2(S:Nat)(y u:Rat):Prop where
 y:sz y≤S
 u:sz u≤S
theorem CD.t4{S:Nat}{a b c d:Rat}(h:CD S a b c d)(hS:0<S:=by omega):T4 S a b c d:=by
 obtain⟨A,B,C,E,D,h0,hd,⟨h1,h2,h3,h4⟩,e1,e2,e3,e4⟩:=h.ex
 exact⟨gC hS h0 hd e1 h1,gC hS h0 hd e2 h2,gC hS h0 hd e3 h3,gC hS h0 hd e4 h4⟩
theorem CD.mono{S S':Nat}{a b c d:Rat}(h:CD S a b c d)(hs:S≤S'):CD S' a b c d:=by
 obtain⟨A,B,C,E,D,h0,hd,⟨h1,h2,h3,h4⟩,e1,e2,e3,e4⟩:=h.ex
 exact⟨A,B,C,E,D,h0,bH hd hs,⟨bH h1 hs,bH h2 hs,bH h3 hs,bH h4 hs⟩,e1,e2,e3,e4⟩
theorem uR(n:Int):d7 (n:Rat) = .tup [.int n,.int 1]:=by
 unfold d7
 rw[Oe,Of];rfl
theorem Cg{n:Int}{k:Nat}(hk:0<k)(h:n.natAbs<2 ^ k):sz (n:Rat)≤k:=by
 refine RM.uk _ hk ?_ ?_
 ·rw[Oe];exact h
 ·rw[Of];exact Nat.one_lt_two_pow (by omega)
theorem J2(q:Rat):sz (u7 q)=sz q:=by
 unfold u7;split
 ·rfl
 ·exact RM.D9 q
theorem jI{q:Rat}(h:q≠0):0<u7 q:=by
 unfold u7;split
 ·grind
 ·grind
noncomputable def f9(x:Str × Rat):D:=.tup [.str x.1,d7 x.2]
structure t6(x:Str × Rat):Prop where
 kind:(x.1 = "gap" ∧ 0≤x.2)∨x.1 = "glass" ∨ (x.1 = "stop" ∧ 0<x.2)
 sz:RM.sz x.2≤41
noncomputable def E5(x:Str × Rat)(y u:Rat):Rat × Rat:=if x.1 = "gap" then(y+x.2*u,u)else if x.1 = "glass" then(y,u - x.2*y)else(y,u)
noncomputable def o9(bs:List (Str × Rat))(r:Rat × Rat):Rat × Rat:=bs.foldl (fun r x=>E5 x r.1 r.2) r
theorem CD.led{S:Nat}{x:Str × Rat}{y u:Rat}(h:CD S y 0 u 0)(hx:sz x.2≤41):CD (S+42) (E5 x y u).1 0 (E5 x y u).2 0:=by
 unfold E5
 split
 ·have:=h.step hx
  rw[show(0:Rat)+x.2*0=0 by grind]at this
  exact this
 ·split
  ·have:=(h.swap.step (q:=-x.2) (k:=41) (by rw[RM.D9];exact hx)).swap
   rw[show(0:Rat) + -x.2*0=0 by grind,show u + -x.2*y=u - x.2*y by grind]at this
   exact this
  ·exact h.mono (by omega)
theorem CD.t2{S:Nat}{y u:Rat}(h:CD S y 0 u 0)(hS:0<S:=by omega):T2 S y u:=⟨h.t4.a,h.t4.c⟩
theorem CD.ray{y u:Rat}{k:Nat}(h1:sz y≤k)(h2:sz u≤k):CD (2*k) y 0 u 0:=by
 have n1:=G3 y h1
 have d1:=B5 y h1
 have n2:=G3 u h2
 have d2:=B5 u h2
 have d1':(y.den:Int).natAbs<2 ^ k:=by rw[JU];exact d1
 have d2':(u.den:Int).natAbs<2 ^ k:=by rw[JU];exact d2
 have e1:=K4 y
 have e2:=K4 u
 refine⟨y.num*(u.den:Int),0,u.num*(y.den:Int),0,y.den*u.den,LS y.den_nz u.den_nz,?_,⟨?_,?_,?_,?_⟩,?_,?_,?_,?_⟩
 ·rw[show 2*k=k+k by omega];exact C8 d1 d2
 ·rw[show 2*k=k+k by omega];exact f8 n1 d2'
 ·exact Og _
 ·rw[show 2*k=k+k by omega];exact f8 n2 d1'
 ·exact Og _
 all_goals (simp only[KW,Kn,Kv,Rat.intCast_zero];grind)
theorem kO{bs:List (Str × Rat)}{i:Nat}{x:Str × Rat}(h:bs[i]? = some x)(r:Rat × Rat):o9 (bs.take (i+1)) r=E5 x (o9 (bs.take i) r).1 (o9 (bs.take i) r).2:=by
 obtain⟨hl,he⟩:=JV.mp h
 unfold o9
 rw[Lb hl,KR,he]
 rfl
theorem CV{bs:List (Str × Rat)}{y u:Rat}{S:Nat}(h:CD S y 0 u 0)(hb:∀ x∈bs,t6 x):CD (S+42*bs.length) (o9 bs (y,u)).1 0 (o9 bs (y,u)).2 0:=by
 induction bs generalizing y u S with
 | nil=>exact h
 | cons x r ih =>
  have h1:=h.led (hb x JH).sz
  have h2:=ih (y:=(E5 x y u).1) (u:=(E5 x y u).2) h1 fun z hz=>hb z (JF _ hz)
  exact h2.mono (by simp only[JP];omega)
theorem rf{bs:List (Str × Rat)}{i:Nat}{d:D}(h:(bs.map f9)[i]? = some d):∃ x,bs[i]? = some x∧d=f9 x:=by
 rw[Ki]at h
 cases e:bs[i]? with
 | none=>rw[e]at h;cases h
 | some x=>rw[e]at h;exact⟨x,rfl,(Option.some.inj h).symm⟩
def pC:DSp:=fun ds M R _=>∃ q:Rat,ds=[d7 q]∧R (d7 (u7 q)) M
theorem gp{x y:Str × Rat}(h:f9 x=f9 y):x=y:=by
 unfold f9 at h
 injection h with h
 injection h with h1 h2
 injection h1 with h1
 injection h2 with h2 _
 exact Prod.ext h1 (R0 h2)
theorem i5{x y:Str × Rat}:f9 x=f9 y↔x=y:=⟨gp,fun h=>by rw[h]⟩
theorem h7{xs ys:List (Str × Rat)}:xs.map f9=ys.map f9↔xs=ys:=Lg (fun _ _ h=>gp h)
noncomputable def g5(l:Rat × Rat × Rat):D:=.tup [d7 l.1,d7 l.2.1,d7 l.2.2]
theorem gu{x y:Rat × Rat × Rat}(h:g5 x=g5 y):x=y:=by
 unfold g5 at h
 injection h with h
 injection h with h1 h2
 injection h2 with h2 h3
 injection h3 with h3 _
 exact Prod.ext (R0 h1) (Prod.ext (R0 h2) (R0 h3))
theorem i6{x y:Rat × Rat × Rat}:g5 x=g5 y↔x=y:=⟨gu,fun h=>by rw[h]⟩
theorem h8{xs ys:List (Rat × Rat × Rat)}:xs.map g5=ys.map g5↔xs=ys:=Lg (fun _ _ h=>gu h)
theorem Ct{p q r:Rat}:D.tup [d7 p,d7 q,d7 r]=g5 (p,q,r):=rfl
theorem oH{gs:S5}{l:Rat × Rat × Rat}{e:Ev}{M:Mem}{Q:Ev→Mem→Prop}:lN 3 gs (g5 l) e M Q=gs [d7 l.1,d7 l.2.1,d7 l.2.2] e M Q:=df rfl
theorem oK{l:Rat × Rat × Rat}{M:Mem}{R:DK}:gIx (g5 l) (.int 0) M R=R (d7 l.1) M:=V9
theorem oJ{l:Rat × Rat × Rat}{M:Mem}{R:DK}:gIx (g5 l) (.int 1) M R=R (d7 l.2.1) M:=V8
theorem oI{l:Rat × Rat × Rat}{M:Mem}{R:DK}:gIx (g5 l) (.int 2) M R=R (d7 l.2.2) M:=gK
theorem sN{q:Rat}{M:Mem}{R:DK}:gIx (d7 q) (.int 0) M R=R (.int q.num) M:=V9
theorem sL{q:Rat}{M:Mem}{R:DK}:gIx (d7 q) (.int 1) M R=R (.int (q.den:Int)) M:=V8
theorem sJ{gs:S5}{q:Rat}{e:Ev}{M:Mem}{Q:Ev→Mem→Prop}:lN 2 gs (d7 q) e M Q=gs [.int q.num,.int (q.den:Int)] e M Q:=df rfl
theorem sI{q:Rat}{M:Mem}{R:DK}:rQ [d7 q] M R=R (.int 2) M:=pd rfl
theorem oG{x:Str × Rat}{M:Mem}{R:DK}:gIx (f9 x) (.int 0) M R=R (.str x.1) M:=V9
theorem oF{x:Str × Rat}{M:Mem}{R:DK}:gIx (f9 x) (.int 1) M R=R (d7 x.2) M:=V8
theorem oA{gs:S5}{x:Str × Rat}{e:Ev}{M:Mem}{Q:Ev→Mem→Prop}:lN 2 gs (f9 x) e M Q=gs [.str x.1,d7 x.2] e M Q:=df rfl
theorem kb{q:Rat}{M:Mem}{R:DK}:y8 [d7 q,.ty "tuple"] M R=R (.bl true) M:=p5 rfl rfl
theorem fL{x:Str × Rat}{M:Mem}{R:DK}:y8 [f9 x,.ty "tuple"] M R=R (.bl true) M:=p5 rfl rfl
theorem oz{x:Str × Rat}{M:Mem}{R:DK}:rQ [f9 x] M R=R (.int 2) M:=pd rfl
theorem xR{q:Rat}:cl 60 (d7 q)=true:=rfl
theorem xS{q:Rat}:cl 59 (d7 q)=true:=rfl
theorem xT{q:Rat}:cl 58 (d7 q)=true:=rfl
theorem xU{q:Rat}:cl 57 (d7 q)=true:=rfl
theorem r0:D.tup [.int 0,.int 1]=d7 0:=rfl
theorem r1:D.tup [.int 1,.int 1]=d7 1:=rfl
theorem r2:D.tup [.int 2,.int 1]=d7 2:=rfl
theorem r4:D.tup [.int 4,.int 1]=d7 4:=rfl
theorem uT{q:Rat}:D.tup [.int (q.num.natAbs:Int),.int (q.den:Int)]=d7 (u7 q):=(DV q).symm
theorem Fg{q:Rat}:D.tup [.int (-q.num),.int (q.den:Int)]=d7 (-q):=by unfold d7;rw[MI,MJ]
theorem Cs{q:Rat}:D.tup [.int q.num,.int (q.den:Int)]=d7 q:=rfl
theorem rm2:D.tup [.int (-2),.int 1]=d7 (-2):=rfl
theorem rm1:D.tup [.int (-1),.int 1]=d7 (-1):=rfl
end GM
local macro_rules|`(tactic| walk_at "inj")=>`(tactic| (rename_i e h;simp only[List.cons.injEq,and_true,true_and,GM.g8,GM.i5,GM.h7,GM.i6,GM.h8,DL.D.tup.injEq,DL.D.ref.injEq,DL.D.int.injEq,DL.D.str.injEq,DL.D.bl.injEq,DL.D.vl.injEq,Kt,and_assoc]at e;(repeat(obtain⟨e1,e⟩:=e;subst e1));subst e;exact h))
local macro_rules|`(tactic| walk_at "injs")=>`(tactic| (rename_i e o h;rcases o with o|o<;>(subst o;first|(exfalso;simp only[DL.D.tup.injEq,List.cons.injEq,reduceCtorEq,false_and,and_false]at e;done)|(simp only[List.cons.injEq,and_true,true_and,GM.g8,GM.i5,GM.h7,GM.i6,GM.h8,DL.D.tup.injEq,DL.D.ref.injEq,DL.D.int.injEq,DL.D.str.injEq,DL.D.bl.injEq,DL.D.vl.injEq,Kt,and_assoc]at e;(repeat(obtain⟨e1,e⟩:=e;subst e1));subst e;exact h))))
namespace GM
open PySem PySem.Spec L2 DL
open RM (sz)
theorem bu{a b:Nat}{M:Mem}{R:DK}{Y:DXK}:L5 [.int (a:Int),.int (b:Int)] M R Y=(R (.int ((Ll a b:Nat):Int)) M):=propext ⟨fun z=>by obtain⟨_,_,_,_⟩:=z;walk_at "inj",fun h=>⟨a,b,rfl,h⟩⟩
theorem nU{q:Rat}{M:Mem}{R:DK}{Y:DXK}:kr [d7 q] M R Y=(R (d7 (-q)) M):=propext ⟨fun z=>by obtain⟨_,_,_⟩:=z;walk_at "inj",fun h=>⟨q,rfl,h⟩⟩
theorem jO{q r:Rat}{M:Mem}{R:DK}{Y:DXK}:aN [d7 q,d7 r] M R Y=(sz q+sz r≤8900∧R (d7 (q+r)) M):=propext ⟨fun z=>by obtain⟨_,_,_,_⟩:=z;walk_at "inj",fun h=>⟨q,r,rfl,h⟩⟩
theorem ft{q r:Rat}{M:Mem}{R:DK}{Y:DXK}:Y9 [d7 q,d7 r] M R Y=(sz q+sz r≤8900∧R (d7 (q - r)) M):=propext ⟨fun z=>by obtain⟨_,_,_,_⟩:=z;walk_at "inj",fun h=>⟨q,r,rfl,h⟩⟩
theorem jP{q r:Rat}{M:Mem}{R:DK}{Y:DXK}:mE [d7 q,d7 r] M R Y=(r≠0∧sz q+sz r≤8900∧R (d7 (q / r)) M):=propext ⟨fun z=>by obtain⟨_,_,_,_⟩:=z;walk_at "inj",fun h=>⟨q,r,rfl,h⟩⟩
theorem jR{q r:Rat}{M:Mem}{R:DK}{Y:DXK}:du [d7 q,d7 r] M R Y=(sz q+sz r≤8900∧R (.bl (decide (q<r))) M):=propext ⟨fun z=>by obtain⟨_,_,_,_⟩:=z;walk_at "inj",fun h=>⟨q,r,rfl,h⟩⟩
theorem jN{c:Int}{M:Mem}{R:DK}{Y:DXK}:mD [.int c] M R Y=(∀ p M',M p=none→MK M M'→D7 M' p→R (.ref p) M'):=propext ⟨fun z=>by obtain⟨_,_,_⟩:=z;walk_at "inj",fun h=>⟨c,rfl,h⟩⟩
theorem jQ{p:Addr}{b:Int}{M:Mem}{R:DK}{Y:DXK}:W2 [.ref p,.int b] M R Y=(D7 M p∧0<b∧b.natAbs.log2<9000∧∀(r:Int) M',0≤r→r<b→C2 p M M'→R (.int r) M'):=propext ⟨fun z=>by obtain⟨_,_,_,_⟩:=z;walk_at "inj",fun h=>⟨p,b,rfl,h⟩⟩
theorem nV{q:Rat}{M:Mem}{R:DK}{Y:DXK}:pC [d7 q] M R Y=(R (d7 (u7 q)) M):=propext ⟨fun z=>by obtain⟨_,_,_⟩:=z;walk_at "inj",fun h=>⟨q,rfl,h⟩⟩
abbrev cf(x:Str × Rat)(y u:Rat)(M:Mem)(R:DK)(Y:DXK):Prop:=sz x.2+sz y+sz u≤8900∧R (aT (E5 x y u).1 (E5 x y u).2) M
def uH:DSp:=fun ds M R Y=>∃(x:Str × Rat) (y u:Rat),ds=[f9 x,aT y u]∧cf x y u M R Y
theorem oj{x:Str × Rat}{y u:Rat}{M:Mem}{R:DK}{Y:DXK}:uH [f9 x,aT y u] M R Y=(cf x y u M R Y):=propext ⟨fun z=>by obtain⟨_,_,_,_,_⟩:=z;walk_at "inj",fun h=>⟨x,y,u,rfl,h⟩⟩
theorem nJ{k:Nat}:∀{ds:List D},(∀ x∈ds,cl k x=true)→clL k ds=true
 | [],_=>rfl
 | d :: r,h=>by
  show(cl k d && clL k r)=true
  rw[h d JH,nJ (fun x hx=>h x (JF _ hx))];rfl
theorem Y7{bs:List (Str × Rat)}{y u:Rat}{S:Nat}(h:CD S y 0 u 0)(hb:∀ x∈bs,t6 x)(i:Nat):CD (S+42*bs.length) (o9 (bs.take i) (y,u)).1 0 (o9 (bs.take i) (y,u)).2 0 :=
 (CV h fun x hx=>hb x (Kx hx)).mono (by
  rw[JX];omega)
theorem C2.del{p l:Addr}{M M':Mem}(h:C2 p M M')(hl:M l=none)(hp:l≠p):C2 p M (bg M' l):=⟨fun b u hb e=>by
  rw[jw (by intro z;subst z;rw[hl]at e;cases e)];exact h.keep b u hb e,by
  obtain⟨x,y,z,e⟩:=h.pool.ex
  exact⟨x,y,z,by rw[jw (Ne.symm hp)];exact e⟩⟩
theorem bh{ds:List D}{n:Nat}:J6 ds none (some (n:Int))=ds.take n:=by
 unfold J6 HT.sIx
 simp only[Ou,Nat.sub_zero]
 rw[if_neg (by omega)]
 by_cases h:n≤ds.length
 ·congr 1;omega
 ·rw[KN (by omega),KN (by omega)]
theorem yS{x:Str × Rat}(h:t6 x):cl 59 (f9 x)=true:=by
 have hs:PyData.canLay0 (.str x.1)=true:=by
  rcases h.kind with⟨e,_⟩|e|⟨e,_⟩<;>rw[e]<;>decide +kernel
 show(PyData.canLay0 (.str x.1) && (cl 58 (d7 x.2) && true))=true
 rw[hs];rfl
theorem jo{xs:List D}{r:Int}{M:Mem}{R:DK}(h0:0≤r)(h1:r<xs.length)(h:∀ d∈xs,R d M):gIx (.vl xs) (.int r) M R:=by
 obtain⟨z,e,hz⟩:=zX h0 h1
 exact⟨z,e,h z hz⟩
end GM
set_option maxHeartbeats 1000000
namespace DL
open PySem PySem.Spec L2 PyProof.Rows
structure wY(P:Program)(base:Heap):Prop where
 n:base.NoSeer
 t:P.given.tree=none
structure LDv(X:Cx):Prop where
 see:wY X.prog X.base
 rm:X.A.depth+Builtin.pylongFrames<recursionLimit
 st:X.stack=X.env :: X.outer
 g:X.env.scope.isGenerator=false
 c:X.env.scope.isCoroutine=false
def CNz(_ j:Int):Prop:=j≠0
theorem vn{X:Cx}(hp:LDv X):OpR X (binaryOp .FloorDiv) (rI CNz fun i j=>.int (i.fdiv j)):=by
 intro pins s σ H x y v u Q I rx ry h
 obtain⟨i,j,rfl,rfl,hc,q⟩:=h
 obtain⟨t,rfl⟩:=rx
 obtain⟨t',rfl⟩:=ry
 exact floordiv_int hc ⟨.int _,H,I.tok _,⟨_,rfl⟩,q⟩ (.inr (PylongRoom.of I.nolimit hp.rm (SeerAt.of (hp.see.n.keeps I.bk) hp.see.t (I.ok.frames.trans (congrArg some hp.st)) hp.g hp.c I.ok.blt I.ok.glob)))
theorem cz{X:Cx}(hp:LDv X):DOp X (binaryOp .FloorDiv) (gI CNz fun i j=>.int (i.fdiv j)):=lM (vn hp) fun _ _ _=>.int _
theorem ldv{P:Program}{w:World}{K:JB}{mg:Str→Option Value}{base:Heap}{N ps:List Str}{x:Str}{sc:Scope}{f:Addr}{cdv:Value}{A:Around}{outer:List Env}{s:Shared}{H:Hp}{E:XK}{k:Nat}
  (S:wY P base) (hr:F5 k (A.deeper (envOfC x sc s.heap.objs.size f cdv))) (F:e8 N ps sc) (hk:32≤k:=by decide):LDv (lO CX0 P w K mg base N x sc f cdv A outer s H E).nox :=
 ⟨S,by
  have:=hr.dp
  show(A.deeper (envOfC x sc s.heap.objs.size f cdv)).depth+100<_
  omega,rfl,F.gen,F.co⟩
end DL
namespace GM
open PySem PySem.Spec L2 DL
open RM (sz)
noncomputable def fj(l:Rat × Rat × Rat)(y u:Rat):Bool:=decide (u7 (l.1*y+l.2.1*u)≤l.2.2)
noncomputable def j8(ls:List (Rat × Rat × Rat))(y u:Rat):Bool:=ls.all fun l=>fj l y u
structure LSz(n:Nat)(l:Rat × Rat × Rat):Prop where
 p:sz l.1≤n
 q:sz l.2.1≤n
 r:sz l.2.2≤n
theorem gr{ls:List (Rat × Rat × Rat)}{i:Nat}{d:D}(h:(ls.map g5)[i]? = some d):∃ l,ls[i]? = some l∧d=g5 l:=by
 rw[Ki]at h
 cases e:ls[i]? with
 | none=>rw[e]at h;cases h
 | some l=>rw[e]at h;exact⟨l,rfl,(Option.some.inj h).symm⟩
structure wX(w:Rat):Prop where
 n:w.num.natAbs≤4
 d:w.den≤4
 ne:w≠0
theorem small_one:wX 1:=⟨by decide,by decide,by decide⟩
theorem wX.sz{w:Rat}(h:wX w):RM.sz w≤3:=by
 rw[← LR w]
 exact eC (by decide) (by have:=h.n;omega) (by have:=h.d;omega) (RM.y9 w)
noncomputable def rD(r:Rat × Rat):D:=aT r.1 r.2
theorem Gr:CD 90 1 0 0 0:=⟨1,0,0,0,1,by decide,by decide,⟨by decide,by decide,by decide,by decide⟩,by grind,by grind,by grind,by grind⟩
theorem Gs:CD 90 0 0 1 0:=⟨0,0,1,0,1,by decide,by decide,⟨by decide,by decide,by decide,by decide⟩,by grind,by grind,by grind,by grind⟩
noncomputable def A9(bs:List (Str × Rat)):Nat→List (Rat × Rat × Rat)
 | 0=>[]
 | i+1=>A9 bs i++(match bs[i]? with|some x=>(if x.1 = "stop" then[((o9 (bs.take i) (1,0)).1,(o9 (bs.take i) (0,1)).1,x.2)]else[])|none=>[])
theorem rH{bs:List (Str × Rat)}{i:Nat}{x:Str × Rat}(h:bs[i]? = some x)(hx:x.1 = "stop"):A9 bs (i+1)=A9 bs i++[((o9 (bs.take i) (1,0)).1,(o9 (bs.take i) (0,1)).1,x.2)]:=by
 show A9 bs i++_=_
 rw[h];simp only[if_pos hx]
theorem vK{bs:List (Str × Rat)}{i:Nat}{x:Str × Rat}(h:bs[i]? = some x)(hx:¬ x.1 = "stop"):A9 bs (i+1)=A9 bs i:=by
 show A9 bs i++_=_
 rw[h];simp only[if_neg hx,LB]
theorem aw(bs:List (Str × Rat)):∀ i,(A9 bs i).length≤i
 | 0=>JY 0
 | i+1=>by
  have:=aw bs i
  show(A9 bs i++_).length≤i+1
  rw[JQ]
  split
  ·split
   ·show _+1≤_;omega
   ·show _+0≤_;omega
  ·show _+0≤_;omega
theorem qb{bs:List (Str × Rat)}(hl:bs.length≤12)(hok:∀ x∈bs,t6 x):∀ i,∀ l∈A9 bs i,LSz 600 l
 | 0,l,h=>by cases h
 | i+1,l,h=>by
  rcases Kf.mp h with h|h
  ·exact qb hl hok i l h
  ·cases e:bs[i]? with
   | none=>rw[e]at h;cases h
   | some x =>
    replace h:l∈(if x.1 = "stop" then[((o9 (bs.take i) (1,0)).1,(o9 (bs.take i) (0,1)).1,x.2)]else[]):=by rw[e]at h;exact h
    by_cases hx:x.1 = "stop"
    ·rw[if_pos hx]at h
     rw[Kl.mp h]
     have c1:CD 90 1 0 0 0:=Gr
     have c2:CD 90 0 0 1 0:=Gs
     have t1:=(Y7 c1 hok i).t2
     have t2:=(Y7 c2 hok i).t2
     have a1:=t1.y
     have a2:=t2.y
     have a3:=(hok x (Kd e)).sz
     exact⟨by show sz (o9 (bs.take i) (1,0)).1≤600;omega,by show sz (o9 (bs.take i) (0,1)).1≤600;omega,by show sz x.2≤600;omega⟩
    ·rw[if_neg hx]at h;cases h
abbrev J4(bs:List (Str × Rat))(M:Mem)(R:DK)(Y:DXK):Prop:=(bs.length≤12∧∀ x∈bs,t6 x)∧R (.vl ((A9 bs bs.length).map g5)) M
def L7:DSp:=fun ds M R Y=>∃(x0:D) (bs:List (Str × Rat)),ds=[x0]∧(x0 = .vl (bs.map f9)∨x0 = .tup (bs.map f9))∧J4 bs M R Y
theorem V6{bs:List (Str × Rat)}{M:Mem}{R:DK}{Y:DXK}:L7 [.vl (bs.map f9)] M R Y=(J4 bs M R Y):=propext ⟨fun z=>by obtain⟨_,_,_,_,_⟩:=z;walk_at "injs",fun h=>⟨_,bs,rfl,.inl rfl,h⟩⟩
theorem N1{bs:List (Str × Rat)}{M:Mem}{R:DK}{Y:DXK}:L7 [.tup (bs.map f9)] M R Y=(J4 bs M R Y):=propext ⟨fun z=>by obtain⟨_,_,_,_,_⟩:=z;walk_at "injs",fun h=>⟨_,bs,rfl,.inr rfl,h⟩⟩
abbrev Z5(bs:List (Str × Rat))(x:Rat)(M:Mem)(R:DK)(Y:DXK):Prop:=(bs.length≤12∧(∀ x∈bs,t6 x)∧sz x≤41)∧R (.vl ((A9 bs bs.length).map fun l=>g5 (l.1,l.1*x+l.2.1,l.2.2))) M
def pG:DSp:=fun ds M R Y=>∃(x0:D) (bs:List (Str × Rat)) (x:Rat),ds=[x0,d7 x]∧(x0 = .vl (bs.map f9)∨x0 = .tup (bs.map f9))∧Z5 bs x M R Y
theorem nZ{bs:List (Str × Rat)}{x:Rat}{M:Mem}{R:DK}{Y:DXK}:pG [.vl (bs.map f9),d7 x] M R Y=(Z5 bs x M R Y):=propext ⟨fun z=>by obtain⟨_,_,_,_,_,_⟩:=z;walk_at "injs",fun h=>⟨_,bs,x,rfl,.inl rfl,h⟩⟩
theorem fw{bs:List (Str × Rat)}{x:Rat}{M:Mem}{R:DK}{Y:DXK}:pG [.tup (bs.map f9),d7 x] M R Y=(Z5 bs x M R Y):=propext ⟨fun z=>by obtain⟨_,_,_,_,_,_⟩:=z;walk_at "injs",fun h=>⟨_,bs,x,rfl,.inr rfl,h⟩⟩
noncomputable def F9(l:Rat × Rat × Rat)(h:Rat):Rat:=-(l.1*h / l.2.1)
noncomputable def B1(l:Rat × Rat × Rat):Rat:=u7 (l.2.2 / l.2.1)
theorem ym(q r:Rat):Lh (q.num*(r.den:Int) - r.num*(q.den:Int)) ((q.den:Int)*(r.den:Int))=q - r:=by
 rw[MA,RM.jG q (-r),MI,MJ,Int.neg_mul,← Int.sub_eq_add_neg]
noncomputable def stp(st:Option (Rat × Rat))(a b:Rat):Option (Rat × Rat):=some (match st with|none=>(a,b)|some (l,h)=>(if l<a then a else l,if b<h then b else h))
noncomputable def A8(g:Rat):List (Rat × Rat × Rat)→Option (Rat × Rat)→Option (Option (Rat × Rat))
 | [],st=>some st
 | l :: r,st=>if l.2.1=0 then(if l.2.2<u7 (l.1*g)then none else A8 g r st)else A8 g r (stp st (F9 l g - B1 l) (F9 l g+B1 l))
theorem rV{g:Rat}{st:Option (Rat × Rat)}:A8 g [] st=some st:=rfl
theorem O6{g:Rat}{l:Rat × Rat × Rat}{r:List (Rat × Rat × Rat)}{st:Option (Rat × Rat)}:A8 g (l :: r) st=if l.2.1=0 then(if l.2.2<u7 (l.1*g)then none else A8 g r st)else A8 g r (stp st (F9 l g - B1 l) (F9 l g+B1 l)):=rfl
theorem FK{neg:Bool}{M:Mem}{R:DK}:gIs neg .non .non M R=R (.bl (neg.xor true)) M:=dh rfl
theorem FJ{neg:Bool}{q:Rat}{M:Mem}{R:DK}:gIs neg (d7 q) .non M R=R (.bl (neg.xor false)) M:=dh rfl
noncomputable def rj:Option Rat→D
 | none=>.non
 | some q=>d7 q
noncomputable def qI:Option (Option (Rat × Rat))→D
 | none=>.non
 | some none=>.tup [.non,.non]
 | some (some (l,h))=>if h<l then .non else .tup [d7 l,d7 h]
noncomputable def p6(bs:List (Str × Rat))(x:Rat):List (Rat × Rat × Rat):=(A9 bs bs.length).map fun l=>(l.1,l.1*x+l.2.1,l.2.2)
theorem gh(bs:List (Str × Rat))(x:Rat):(p6 bs x).length≤bs.length:=by
 unfold p6;rw[JD];exact aw bs bs.length
noncomputable def lB(l:Nat × Rat × Rat × Rat):D:=.tup [.int (l.1:Int),d7 l.2.1,d7 l.2.2.1,d7 l.2.2.2]
end GM
namespace DL
open PySem PySem.Spec L2
open PyProof.Rows hiding St
section
variable {X:Cx} {name:Str} {id:String} {o:Expr} {to:DTE} {apos cpos:Pos}
end
section
variable {e:Ev} {M:Mem} {R:DK} {to:DTE}
end
end DL
namespace GM
noncomputable abbrev T3:=Rat × Rat × Rat
noncomputable def ve(a b:T3):Rat:=a.1*b.2.1 - a.2.1*b.1
noncomputable def tn(a b c:T3):Rat:=a.2.2*ve b c - b.2.2*ve a c+c.2.2*ve a b
noncomputable def dt(a:T3)(z:Rat × Rat):Rat:=a.1*z.1+a.2.1*z.2
noncomputable def ry(a b:T3):Rat × Rat:=((a.2.2*b.2.1 - b.2.2*a.2.1) / ve a b,(a.1*b.2.2 - b.1*a.2.2) / ve a b)
noncomputable def ng(a:T3):T3:=(-a.1,-a.2.1,a.2.2)
noncomputable def ngZ(z:Rat × Rat):Rat × Rat:=(-z.1,-z.2)
def Sup(ss:List T3)(z:Rat × Rat):Prop:=∀ s∈ss,dt s z≤s.2.2
structure Ee(ss:List T3)(a b:T3):Prop where
 ve:0<ve a b
 mem:b∈ss
 hull:∀ s∈ss,0<GM.ve a s→0≤tn a b s
theorem gj{a b:T3}(h:ve a b≠0):ve a b*(ry a b).1=a.2.2*b.2.1 - b.2.2*a.2.1∧ve a b*(ry a b).2=a.1*b.2.2 - b.1*a.2.2:=by
 unfold ry
 constructor
 ·show ve a b*((a.2.2*b.2.1 - b.2.2*a.2.1) / ve a b)=_
  rw[Mb,KC h]
 ·show ve a b*((a.1*b.2.2 - b.1*a.2.2) / ve a b)=_
  rw[Mb,KC h]
theorem u6{x:Rat}(h:0<x):x≠0:=by grind
theorem E4{x:Rat}(h:0<x):0≤x:=by grind
theorem tot(x y:Rat):x≤y∨y≤x:=by grind
theorem F2{v x y:Rat}(hv:v≠0)(h:v*x=v*y):x=y:=by grind
theorem kJ{a b:T3}(h:ve a b≠0)(s:T3):ve a b*(s.2.2 - dt s (ry a b))=tn a b s:=by
 obtain⟨e1,e2⟩:=gj h
 unfold dt tn
 have:ve a b*(s.2.2 - (s.1*(ry a b).1+s.2.1*(ry a b).2))=ve a b*s.2.2 - s.1*(ve a b*(ry a b).1) - s.2.1*(ve a b*(ry a b).2):=by grind
 rw[this,e1,e2]
 unfold ve
 grind
theorem fe{a b:T3}(h:ve a b≠0):dt a (ry a b)=a.2.2:=by
 have:=kJ h a
 have e:tn a b a=0:=by unfold tn ve;grind
 rw[e]at this
 grind
theorem dQ{a b:T3}(h:ve a b≠0):dt b (ry a b)=b.2.2:=by
 have:=kJ h b
 have e:tn a b b=0:=by unfold tn ve;grind
 rw[e]at this
 grind
theorem cw{a b:T3}{z:Rat × Rat}(h:ve a b≠0)(h1:dt a z=a.2.2)(h2:dt b z=b.2.2):z=ry a b:=by
 obtain⟨e1,e2⟩:=gj h
 have z1:ve a b*z.1=ve a b*(ry a b).1:=by
  rw[e1,← h1,← h2];unfold ve dt;grind
 have z2:ve a b*z.2=ve a b*(ry a b).2:=by
  rw[e2,← h1,← h2];unfold ve dt;grind
 exact Prod.ext (F2 h z1) (F2 h z2)
theorem kK(a b:T3):ry (ng a) (ng b)=ngZ (ry a b):=by
 have e:ve (ng a) (ng b)=ve a b:=by unfold ve ng;grind
 unfold ry ngZ
 rw[e]
 show((a.2.2*(-b.2.1) - b.2.2*(-a.2.1)) / ve a b,((-a.1)*b.2.2 - (-b.1)*a.2.2) / ve a b)=_
 exact Prod.ext (by show _ / _ = -(_ / _);grind) (by show _ / _ = -(_ / _);grind)
theorem AV(a b s:T3)(z:Rat × Rat):tn a b s=(a.2.2 - dt a z)*ve b s - (b.2.2 - dt b z)*ve a s+(s.2.2 - dt s z)*ve a b:=by
 unfold tn ve dt;grind
theorem j9{v x:Rat}(hv:0<v)(h:0≤v*x):0≤x:=by
 rcases tot 0 x with z|z
 ·exact z
 ·by_cases e:x=0
  ·grind
  ·have:0<v * -x:=KI hv (by grind)
   grind
theorem Ci{a b:T3}{ss:List T3}(h:0<ve a b)(ht:∀ s∈ss,0≤tn a b s):Sup ss (ry a b):=fun s hs=>by
 have:=kJ (u6 h) s
 have h2:=ht s hs
 rw[← this]at h2
 have:=j9 h h2
 grind
theorem ko{ss:List T3}{a b:T3}{z:Rat × Rat}(hz:Sup ss z)(ha:dt a z=a.2.2)(e:Ee ss a b):Sup ss (ry a b):=by
 refine Ci e.ve fun s hs=>?_
 by_cases h:0<ve a s
 ·exact e.hull s hs h
 ·rw[AV a b s z,ha]
  have h1:0≤(b.2.2 - dt b z)*(-ve a s):=JM (by have:=hz b e.mem;grind) (by grind)
  have h2:0≤(s.2.2 - dt s z)*ve a b:=JM (by have:=hz s hs;grind) (by have:=e.ve;grind)
  grind
theorem aM{ss:List T3}(sy:∀ s∈ss,ng s∈ss){z:Rat × Rat}(h:Sup ss z):Sup ss (ngZ z):=fun s hs=>by
 have:=h _ (sy s hs)
 have e:dt (ng s) z=dt s (ngZ z):=by unfold dt ng ngZ;grind
 rw[← e];exact this
theorem K7{a b w:T3}(h:0<ve a b)(z:Rat × Rat):ve a b*dt w z=ve w b*dt a z+ve a w*dt b z:=by
 unfold ve dt;grind
theorem mr{w:T3}:∀(x:T3) (l:List T3) (y:T3),0≤ve x w→0<ve w y→∃ ab∈(x :: l).zip (l++[y]),0≤ve ab.1 w∧0<ve w ab.2
 | x,[],y,h1,h2=>⟨(x,y),JH,h1,h2⟩
 | x,x' :: l,y,h1,h2=>by
  by_cases h:0<ve w x'
  ·exact⟨(x,x'),JH,h1,h⟩
  ·have e:ve x' w = -ve w x':=by unfold ve;grind
   obtain⟨ab,hm,q⟩:=mr x' l y (by rw[e];grind) h2
   exact⟨ab,JF _ hm,q⟩
structure Rim(ss:List T3)(h0:T3)(l:List T3):Prop where
 ne:l≠[]
 sy:∀ s∈ss,ng s∈ss
 pos:∀ s∈ss,0<s.2.2
 all:∀ ab∈(h0 :: l).zip (l++[ng h0]),ab.1∈ss∧ab.2∈ss∧0<ve ab.1 ab.2∧Sup ss (ry ab.1 ab.2)
noncomputable def jt(h0:T3)(l:List T3):List (T3 × T3):=(h0 :: l).zip (l++[ng h0])
noncomputable def O5(h0:T3)(l:List T3):List (Rat × Rat):=(jt h0 l).map (fun ab=>ry ab.1 ab.2)++(jt h0 l).map (fun ab=>ngZ (ry ab.1 ab.2))
theorem J1{α β:Type}(f:α→β):∀(l m:List α),(l.map f).zip (m.map f)=(l.zip m).map fun p=>(f p.1,f p.2)
 | [],_=>rfl
 | _ :: _,[]=>rfl
 | a :: l,b :: m=>by rw[Ky,Ky,NC,J1 f l m];rfl
theorem vE(a:T3):ng (ng a)=a:=by
 obtain⟨p,q,r⟩:=a
 unfold ng
 show(- -p,- -q,r)=(p,q,r)
 rw[Nq,Nq]
theorem Rim.around{ss:List T3}{h0:T3}{l:List T3}(R:Rim ss h0 l)(w:T3)(hw:¬ (w.1=0∧w.2.1=0)) :
  ∃ a b,a∈ss∧b∈ss∧0<ve a b∧Sup ss (ry a b)∧ry a b∈O5 h0 l∧0≤ve a w∧0<ve w b:=by
 have fromE:∀ ab∈jt h0 l,0≤ve ab.1 w→0<ve w ab.2→∃ a b,a∈ss∧b∈ss∧0<ve a b∧Sup ss (ry a b)∧ry a b∈O5 h0 l∧0≤ve a w∧0<ve w b:=fun ab hm h1 h2=>by
  obtain⟨q1,q2,q3,q4⟩:=R.all ab hm
  exact⟨ab.1,ab.2,q1,q2,q3,q4,KZ _ (JK.mpr ⟨ab,hm,rfl⟩),h1,h2⟩
 have fromN:∀ ab∈jt h0 l,0≤ve (ng ab.1) w→0<ve w (ng ab.2)→∃ a b,a∈ss∧b∈ss∧0<ve a b∧Sup ss (ry a b)∧ry a b∈O5 h0 l∧0≤ve a w∧0<ve w b:=fun ab hm h1 h2=>by
  obtain⟨q1,q2,q3,q4⟩:=R.all ab hm
  refine⟨ng ab.1,ng ab.2,R.sy _ q1,R.sy _ q2,?_,?_,?_,h1,h2⟩
  ·have:ve (ng ab.1) (ng ab.2)=ve ab.1 ab.2:=by unfold ve ng;grind
   rw[this];exact q3
  ·rw[kK];exact aM R.sy q4
  ·rw[kK];exact Kh _ (JK.mpr ⟨ab,hm,rfl⟩)
 have e0:ve w (ng h0)=ve h0 w:=by unfold ve ng;grind
 have e1:ve (ng h0) w = -ve h0 w:=by unfold ve ng;grind
 by_cases c1:0<ve h0 w
 ·obtain⟨ab,hm,k1,k2⟩:=mr h0 l (ng h0) (E4 c1) (by rw[e0];exact c1)
  exact fromE ab hm k1 k2
 by_cases c2:ve h0 w<0
 ·have e2:ve w h0 = -ve h0 w:=by unfold ve;grind
  obtain⟨ab,hm,k1,k2⟩:=mr (w:=w) (ng h0) (l.map ng) h0 (by rw[e1];clear fromE fromN;grind) (by rw[e2];clear fromE fromN;grind)
  have em:ab∈((h0 :: l).map ng).zip ((l++[ng h0]).map ng):=by
   rw[Kp,Ky,Ky,Lw,vE];exact hm
  rw[J1]at em
  obtain⟨cd,hcd,rfl⟩:=JK.mp em
  exact fromN cd hcd k1 k2
 ·have c0:ve h0 w=0:=by clear fromE fromN;grind
  cases l with
  | nil=>exact absurd rfl R.ne
  | cons x l =>
   have hm:(h0,x)∈jt h0 (x :: l):=JH
   obtain⟨q1,q2,q3,q4⟩:=R.all _ hm
   have q3:0<ve h0 x:=q3
   by_cases k:0<ve w x
   ·exact fromE _ hm (by show 0≤ve h0 w;rw[c0];exact Kq) k
   ·refine fromN _ hm (by show 0≤ve (ng h0) w;rw[e1,c0];exact Kq) ?_
    show 0<ve w (ng x)
    have ex:ve w (ng x) = -ve w x:=by unfold ve ng;grind
    rw[ex]
    clear fromE fromN
    have hne:ve w x≠0:=fun z=>hw (by
     unfold ve at c0 z q3
     have i1:w.1*(h0.1*x.2.1 - h0.2.1*x.1)=0:=by
      have:w.1*(h0.1*x.2.1 - h0.2.1*x.1)=h0.1*(w.1*x.2.1 - w.2.1*x.1)+x.1*(h0.1*w.2.1 - h0.2.1*w.1):=by grind
      rw[this,z,c0];grind
     have i2:w.2.1*(h0.1*x.2.1 - h0.2.1*x.1)=0:=by
      have:w.2.1*(h0.1*x.2.1 - h0.2.1*x.1)=h0.2.1*(w.1*x.2.1 - w.2.1*x.1)+x.2.1*(h0.1*w.2.1 - h0.2.1*w.1):=by grind
      rw[this,z,c0];grind
     have hv:h0.1*x.2.1 - h0.2.1*x.1≠0:=by grind
     exact⟨by grind,by grind⟩)
    grind
theorem Rim.most{ss:List T3}{h0:T3}{l:List T3}(R:Rim ss h0 l)(w:T3)(hw:¬ (w.1=0∧w.2.1=0)):∃ c∈O5 h0 l,Sup ss c∧∀ z,Sup ss z→dt w z≤dt w c:=by
 obtain⟨a,b,ha,hb,hv,hs,hc,k1,k2⟩:=R.around w hw
 refine⟨_,hc,hs,fun z hz=>?_⟩
 have e1:=K7 (w:=w) hv z
 have e2:=K7 (w:=w) hv (ry a b)
 rw[fe (u6 hv),dQ (u6 hv)]at e2
 have h1:0≤ve w b*(a.2.2 - dt a z):=JM (E4 k2) (by have:=hz a ha;grind)
 have h2:0≤ve a w*(b.2.2 - dt b z):=JM k1 (by have:=hz b hb;grind)
 have h3:0≤ve a b*(dt w (ry a b) - dt w z):=by grind
 have:=j9 hv h3
 grind
theorem Rim.corner{ss:List T3}{h0:T3}{l:List T3}(R:Rim ss h0 l){s t:T3}{z:Rat × Rat}(hz:Sup ss z)(hs:s∈ss)(ht:t∈ss)(hv:0<ve s t)(es:dt s z=s.2.2)(et:dt t z=t.2.2):z∈O5 h0 l:=by
 have hw:¬ (s.1=0∧s.2.1=0):=fun⟨q1,q2⟩=>by
  unfold ve at hv
  rw[q1,q2]at hv
  grind
 obtain⟨a,b,ha,hb,hab,hsup,hc,k1,k2⟩:=R.around s hw
 have e1:=K7 (w:=s) hab z
 have e2:=K7 (w:=s) hab (ry a b)
 rw[fe (u6 hab),dQ (u6 hab)]at e2
 have za:=hz a ha
 have zb:=hz b hb
 have zs:=hsup s hs
 have h1:0≤ve s b*(a.2.2 - dt a z):=JM (E4 k2) (by grind)
 have h2:0≤ve a s*(b.2.2 - dt b z):=JM k1 (by grind)
 have h3:0≤ve a b*(s.2.2 - dt s (ry a b)):=JM (by grind) (by grind)
 rw[es]at e1
 have s1:ve s b*(a.2.2 - dt a z)=0:=by grind
 have s2:ve a s*(b.2.2 - dt b z)=0:=by grind
 have ta:dt a z=a.2.2:=by grind
 have fin:dt b z=b.2.2→z∈O5 h0 l:=fun tb=>by rw[cw (u6 hab) ta tb];exact hc
 by_cases c:ve a s=0
 ·
  have hat:0<ve a t:=by
   have i:ve a b*ve s t=ve s b*ve a t - ve t b*ve a s:=by unfold ve;grind
   rw[c]at i
   have p1:0<ve a b*ve s t:=KI hab hv
   have p2:0<ve s b*ve a t:=by grind
   rcases tot 0 (ve a t)with z|z
   ·by_cases e:ve a t=0
    ·rw[e]at p2;grind
    ·grind
   ·have:0≤ve s b*(-ve a t):=JM (by grind) (by grind)
    grind
  have h5:0≤tn a b t:=by
   rw[← kJ (u6 hab) t]
   exact JM (by grind) (by have:=hsup t ht;grind)
  rw[AV a b t z,ta,et]at h5
  have h6:0≤ve a t * -(b.2.2 - dt b z):=by grind
  have:=j9 hat h6
  exact fin (by grind)
 ·exact fin (by grind)
theorem BA{ss:List T3}{h0 hm f:T3}{z0 z:Rat × Rat}(sy:∀ s∈ss,ng s∈ss)(m0:h0∈ss)(mm:hm∈ss)(s0:Sup ss z0)(t0:dt h0 z0=h0.2.2)(sz:Sup ss z)(tz:dt hm z=hm.2.2)(e:Ee ss hm f)(h1:0<ve h0 hm)(h2:ve h0 f≤0) :
  Sup ss (ry hm (ng h0)):=by
 have sf:=ko sz tz e
 have v1:0<ve hm (ng h0):=by
  have:ve hm (ng h0)=ve h0 hm:=by unfold ve ng;grind
  rw[this];exact h1
 have v2:0≤ve (ng h0) f:=by
  have:ve (ng h0) f = -ve h0 f:=by unfold ve ng;grind
  rw[this];grind
 have tf:=fe (a:=hm) (b:=f) (u6 e.ve)
 have tg:=dQ (a:=hm) (b:=f) (u6 e.ve)
 have e1:=K7 (w:=ng h0) e.ve (ngZ z0)
 have e2:=K7 (w:=ng h0) e.ve (ry hm f)
 rw[tf,tg]at e2
 have sn:=aM sy s0
 have q1:=sn hm mm
 have q2:=sn f e.mem
 have g0:dt (ng h0) (ngZ z0)=(ng h0).2.2:=by
  have:dt (ng h0) (ngZ z0)=dt h0 z0:=by unfold dt ng ngZ;grind
  rw[this,t0];rfl
 rw[g0]at e1
 have q3:=sf (ng h0) (sy h0 m0)
 have p1:0≤ve (ng h0) f*(hm.2.2 - dt hm (ngZ z0)):=JM v2 (by grind)
 have p2:0≤ve hm (ng h0)*(f.2.2 - dt f (ngZ z0)):=JM (by grind) (by grind)
 have p3:0≤ve hm f*(dt (ng h0) (ry hm f) - (ng h0).2.2):=by grind
 have p4:=j9 e.ve p3
 have t3:dt (ng h0) (ry hm f)=(ng h0).2.2:=by grind
 rw[← cw (a:=hm) (b:=ng h0) (u6 v1) tf t3]
 exact sf
end GM
namespace GM
open PySem PySem.Spec L2 DL
open RM (sz)
noncomputable abbrev Sd:=Int × Int × Int × Int × Int
noncomputable def sdD(s:Sd):D:=.tup [.int s.1,.int s.2.1,.int s.2.2.1,.int s.2.2.2.1,.int s.2.2.2.2]
noncomputable def tri(s:Sd):T3:=((s.1:Rat),(s.2.1:Rat),(s.2.2.1:Rat))
noncomputable def veZ(a b:Sd):Int:=a.1*b.2.1 - a.2.1*b.1
noncomputable def tnZ(a b c:Sd):Int:=a.2.2.1*veZ b c - b.2.2.1*veZ a c+c.2.2.1*veZ a b
noncomputable def j7(s:Sd):Sd:=(-s.1,-s.2.1,s.2.2.1,s.2.2.2.1,-s.2.2.2.2)
noncomputable def D4(a b:Sd):Bool:=if a.1*b.2.2.1 - b.1*a.2.2.1=0 then decide (0<a.2.1*b.2.2.1 - b.2.1*a.2.2.1)else decide (0<a.1*b.2.2.1 - b.1*a.2.2.1)
noncomputable def A0(ss:List Sd)(f:Sd):Sd:=ss.foldl (fun f s=>if D4 s f=true then s else f) f
noncomputable def zW(h:Sd)(f:Option Sd)(s:Sd):Bool:=match f with
 | none=>true
 | some g=>decide (tnZ h g s<0) || (decide (tnZ h g s=0) && decide (0<veZ g s))
noncomputable def O1(h:Sd)(f:Option Sd)(s:Sd):Option Sd:=if 0<veZ h s then(if zW h f s=true then some s else f)else f
noncomputable def B4(h:Sd)(ss:List Sd):Option Sd:=ss.foldl (O1 h) none
noncomputable def E2(h0:Sd)(ss:List Sd):Nat→Option Sd→List Sd
 | 0,_=>[]
 | _+1,none=>[]
 | k+1,some h=>if 0<veZ h0 h then h :: E2 h0 ss k (B4 h ss)else[]
noncomputable def O9:List Sd→List Sd
 | []=>[]
 | s :: r=>A0 (s :: r) s :: E2 (A0 (s :: r) s) (s :: r) (s :: r).length (B4 (A0 (s :: r) s) (s :: r))
theorem w6(a b:Sd):ve (tri a) (tri b)=(veZ a b:Rat):=by
 unfold ve tri veZ
 rw[LU,Kn,Kn]
theorem gN(a b c:Sd):tn (tri a) (tri b) (tri c)=(tnZ a b c:Rat):=by
 unfold tn tnZ
 rw[w6,w6,w6,Nb,LU,Kn,Kn,Kn]
 rfl
theorem A2{n:Int}:(0:Rat)<(n:Rat)↔0<n:=by
 have:=Rat.intCast_lt_intCast (a:=0) (b:=n)
 rw[← this];rfl
theorem BF{n:Int}:(0:Rat)≤(n:Rat)↔0≤n:=by
 have:=MU (a:=0) (b:=n)
 rw[← this];rfl
theorem y7(s:Sd):tri (j7 s)=ng (tri s):=by
 unfold tri j7 ng
 rw[Na,Na]
theorem X4{a b:Int}(ha:0<a)(h:0≤a*b):0≤b:=by
 rcases Nc b 0 with z|z
 ·have:=Int.mul_lt_mul_of_pos_left z ha
  omega
 ·exact z
theorem lz{a b:Int}(ha:0<a)(h:0<a*b):0<b:=by
 rcases Nc 0 b with z|z
 ·exact z
 ·have:=Int.mul_le_mul_of_nonneg_left z (NR ha)
  omega
theorem plu(h g s t:Sd):veZ h g*tnZ h s t=veZ h s*tnZ h g t - veZ h t*tnZ h g s:=by unfold tnZ veZ;grind
theorem GY(h g s t:Sd):veZ h g*tnZ g s t=tnZ h g s*veZ t g - tnZ h g t*veZ s g:=by unfold tnZ veZ;grind
theorem GX(o h g s:Sd):veZ o g*veZ h s=veZ o h*veZ g s+veZ o s*veZ h g:=by unfold veZ;grind
structure wZ(h:Sd)(pre:List Sd)(f:Option Sd):Prop where
 no:f=none→∀ s∈pre,¬ 0<veZ h s
 yes:∀ g,f=some g→g∈pre∧0<veZ h g∧∀ s∈pre,0<veZ h s→0≤tnZ h g s∧(tnZ h g s=0→veZ g s≤0)
theorem vC{h:Sd}{pre:List Sd}{f:Option Sd}{s:Sd}(hp:∀ s∈pre,0<s.2.2.1)(hs:0<s.2.2.1)(I:wZ h pre f):wZ h (pre++[s]) (O1 h f s):=by
 unfold O1
 by_cases c:0<veZ h s
 ·rw[if_pos c]
  by_cases b:zW h f s=true
  ·rw[if_pos b]
   refine⟨fun z=>(by cases z),fun g e=>?_⟩
   cases e
   refine⟨by simp,c,fun t ht hv=>?_⟩
   have self:tnZ h s s=0∧veZ s s=0:=by unfold tnZ veZ;grind
   rcases Kf.mp ht with ht|ht
   ·cases f with
    | none=>exact absurd hv (I.no rfl t ht)
    | some g =>
     obtain⟨g1,g2,g3⟩:=I.yes g rfl
     obtain⟨k1,k2⟩:=g3 t ht hv
     have b':tnZ h g s<0∨(tnZ h g s=0∧0<veZ g s):=by
      have b:(decide (tnZ h g s<0) || (decide (tnZ h g s=0) && decide (0<veZ g s)))=true:=b
      simpa using b
     have pl:=plu h g s t
     have n1:0≤veZ h s*tnZ h g t:=LD (by omega) k1
     have n2:0≤veZ h t * -tnZ h g s:=LD (by omega) (by omega)
     rw[Nr]at n2
     refine⟨X4 g2 (by omega),fun z=>?_⟩
     rw[z,NS]at pl
     have m1:veZ h s*tnZ h g t=0:=by omega
     have m2:veZ h t*tnZ h g s=0:=by omega
     have e1:tnZ h g t=0:=(LV.mp m1).resolve_left (by omega)
     have e2:tnZ h g s=0:=(LV.mp m2).resolve_left (by omega)
     have gs:0<veZ g s:=by omega
     have gt:=k2 e1
     have p2:=GY h g s t
     rw[e1,e2,Nd,Nd]at p2
     have e3:tnZ g s t=0:=(LV.mp (by omega:veZ h g*tnZ g s t=0)).resolve_left (by omega)
     have e4:g.2.2.1*veZ s t - s.2.2.1*veZ g t+t.2.2.1*veZ g s=0:=e3
     have rg:=hp g g1
     have rt:=hp t ht
     have q1:0≤s.2.2.1 * -veZ g t:=LD (by omega) (by omega)
     have q2:0≤t.2.2.1*veZ g s:=LD (by omega) (by omega)
     rw[Nr]at q1
     have q3:0≤g.2.2.1 * -veZ s t:=by rw[Nr];omega
     have:=X4 rg q3
     omega
   ·rw[Kl.mp ht,self.1,self.2]
    exact⟨Int.le_refl _,fun _=>Int.le_refl _⟩
  ·rw[if_neg b]
   cases f with
   | none=>exact absurd rfl b
   | some g =>
    obtain⟨g1,g2,g3⟩:=I.yes g rfl
    refine⟨fun z=>(by cases z),fun g' e=>?_⟩
    cases e
    refine⟨KZ _ g1,g2,fun t ht hv=>?_⟩
    rcases Kf.mp ht with ht|ht
    ·exact g3 t ht hv
    ·rw[Kl.mp ht]
     have b':¬ (tnZ h g s<0∨(tnZ h g s=0∧0<veZ g s)):=by
      intro z
      apply b
      show(decide (tnZ h g s<0) || (decide (tnZ h g s=0) && decide (0<veZ g s)))=true
      simpa using z
     exact⟨by omega,fun z=>by omega⟩
 ·rw[if_neg c]
  refine⟨fun z t ht=>?_,fun g e=>?_⟩
  ·rcases Kf.mp ht with ht|ht
   ·exact I.no z t ht
   ·rw[Kl.mp ht];exact c
  ·obtain⟨g1,g2,g3⟩:=I.yes g e
   refine⟨KZ _ g1,g2,fun t ht hv=>?_⟩
   rcases Kf.mp ht with ht|ht
   ·exact g3 t ht hv
   ·rw[Kl.mp ht]at hv;exact absurd hv c
theorem lr{h:Sd}:∀(l pre:List Sd) (f:Option Sd),(∀ s∈pre,0<s.2.2.1)→(∀ s∈l,0<s.2.2.1)→wZ h pre f→wZ h (pre++l) (l.foldl (O1 h) f)
 | [],pre,f,_,_,I=>by rw[LB];exact I
 | s :: l,pre,f,h1,h2,I=>by
  have h3:=h2 s JH
  have:=lr l (pre++[s]) (O1 h f s) (fun t ht=>by
   rcases Kf.mp ht with ht|ht
   ·exact h1 t ht
   ·rw[Kl.mp ht];exact h3) (fun t ht=>h2 t (JF _ ht)) (vC h1 h3 I)
  rwa [Ls]at this
theorem au{h:Sd}{ss:List Sd}(hp:∀ s∈ss,0<s.2.2.1):wZ h ss (B4 h ss):=by
 have:=lr (h:=h) ss [] none (fun _ z=>nomatch z) hp ⟨fun _ _ z=>(nomatch z),fun _ z=>(nomatch z)⟩
 rwa [Oh]at this
theorem I0{h f:Sd}{ss:List Sd}(hp:∀ s∈ss,0<s.2.2.1)(e:B4 h ss=some f):f∈ss∧0<veZ h f∧Ee (ss.map tri) (tri h) (tri f):=by
 obtain⟨h1,h2,h3⟩:=(au hp).yes f e
 refine⟨h1,h2,by rw[w6];exact A2.mpr h2,JK.mpr ⟨f,h1,rfl⟩,fun s hs hv=>?_⟩
 obtain⟨t,ht,rfl⟩:=JK.mp hs
 rw[w6]at hv
 rw[gN]
 exact BF.mpr (h3 t ht (A2.mp hv)).1
theorem ar:∀(ss:List Sd) (f:Sd),A0 ss f=f∨A0 ss f∈ss
 | [],f=>.inl rfl
 | s :: r,f=>by
  show A0 r (if D4 s f=true then s else f)=f∨_
  rcases ar r (if D4 s f=true then s else f)with h|h
  ·rw[h]
   split
   ·rename_i c;right;show A0 r (if D4 s f=true then s else f)∈_;rw[h,if_pos c];exact JH
   ·exact .inl rfl
  ·exact .inr (JF _ h)
theorem zr{s f:Sd}(h:D4 s f=true):f.1*s.2.2.1≤s.1*f.2.2.1:=by
 unfold D4 at h
 split at h
 ·omega
 ·have:=of_decide_eq_true h;omega
theorem zt{s f:Sd}(h:¬ D4 s f=true):s.1*f.2.2.1≤f.1*s.2.2.1:=by
 unfold D4 at h
 split at h
 ·omega
 ·have:¬ 0<s.1*f.2.2.1 - f.1*s.2.2.1:=fun z=>h (decide_eq_true z)
  omega
theorem FG{a b c x y z:Int}(hy:0<y)(hx:0<x)(hz:0<z)(h1:a*y≤b*x)(h2:b*z≤c*y):a*z≤c*x:=by
 have e1:=Mc h1 (NR hz)
 have e2:=Mc h2 (NR hx)
 have e3:0≤y*(c*x - a*z):=by
  have:y*(c*x - a*z)=c*y*x - a*y*z:=by grind
  have e4:b*x*z=b*z*x:=by grind
  omega
 have:=X4 hy e3
 omega
theorem pR:∀(ss:List Sd) (f:Sd) (t:Sd),(∀ s∈ss,0<s.2.2.1)→0<f.2.2.1→0<t.2.2.1→(t∈ss∨t.1*f.2.2.1≤f.1*t.2.2.1)→t.1*(A0 ss f).2.2.1≤(A0 ss f).1*t.2.2.1
 | [],f,t,_,_,_,h=>by
  rcases h with h|h
  ·cases h
  ·exact h
 | s :: r,f,t,hp,hf,ht,h=>by
  have hs:=hp s JH
  show t.1*(A0 r (if D4 s f=true then s else f)).2.2.1≤(A0 r (if D4 s f=true then s else f)).1*t.2.2.1
  refine pR r _ t (fun s hs=>hp s (JF _ hs)) (by split<;>assumption) ht ?_
  rcases h with h|h
  ·rcases JJ.mp h with rfl|h
   ·right
    split
    ·omega
    ·rename_i c;exact zt c
   ·exact .inl h
  ·right
   split
   ·rename_i c
    exact FG hf ht hs h (zr c)
   ·exact h
theorem lU{α:Type}{p q:α→Bool}{x:α}:∀{l:List α},(∀ y∈l,q y=true→p y=true)→x∈l→p x=true→q x=false→(l.filter q).length<(l.filter p).length
 | [],_,h,_,_=>nomatch h
 | y :: l,h1,h2,h3,h4=>by
  have le:∀(l:List α),(∀ y∈l,q y=true→p y=true)→(l.filter q).length≤(l.filter p).length:=fun l=>by
   induction l with
   | nil=>intro _;exact JY _
   | cons a l ih =>
    intro h
    have:=ih fun y hy=>h y (JF _ hy)
    by_cases qa:q a=true
    ·rw[KD qa,KD (h a JH qa),JP,JP];omega
    ·rw[KY qa]
     by_cases pa:p a=true
     ·rw[KD pa,JP];omega
     ·rw[KY pa];exact this
  have hl:=le l fun y hy=>h1 y (JF _ hy)
  rcases JJ.mp h2 with rfl|h2
  ·rw[KD h3,KY (by rw[h4];decide),JP];omega
  ·have ih:=lU (fun y hy=>h1 y (JF _ hy)) h2 h3 h4
   by_cases qa:q y=true
   ·rw[KD qa,KD (h1 y JH qa),JP,JP];omega
   ·rw[KY qa]
    by_cases pa:p y=true
    ·rw[KD pa,JP];omega
    ·rw[KY pa];exact ih
noncomputable def rW(h0:Sd)(ss:List Sd)(h:Sd):Nat:=(ss.filter fun s=>decide (0<veZ h s) && decide (0<veZ h0 s)).length
theorem wJ(h0:Sd)(ss:List Sd)(h:Sd):rW h0 ss h≤ss.length:=LC _ _
theorem aG{h0 h f:Sd}{ss:List Sd}(hp:∀ s∈ss,0<s.2.2.1)(e:B4 h ss=some f)(h1:h=h0∨0<veZ h0 h)(h2:0<veZ h0 f):rW h0 ss f<rW h0 ss h:=by
 obtain⟨m,v,_⟩:=I0 hp e
 unfold rW
 refine lU (x:=f) (fun s _ hq=>?_) m (by rw[decide_eq_true v,decide_eq_true h2];rfl) ?_
 ·rw[LG,decide_eq_true_eq,decide_eq_true_eq]at hq ⊢
  refine⟨?_,hq.2⟩
  rcases h1 with rfl|h1
  ·exact hq.2
  ·have i:=GX h0 h f s
   have a1:=Nt h1 hq.1
   have a2:=Nt hq.2 v
   exact lz h2 (by omega)
 ·have:veZ f f=0:=by unfold veZ;grind
  rw[this];rfl
theorem yz{h0:Sd}{ss:List Sd}(hp:∀ s∈ss,0<s.2.2.1)(sy:∀ s∈ss,j7 s∈ss)(m0:h0∈ss){z0:Rat × Rat}(s0:Sup (ss.map tri) z0)(t0:dt (tri h0) z0=(tri h0).2.2):∀(k:Nat) (a:Sd) (z:Rat × Rat),a∈ss→Sup (ss.map tri) z→dt (tri a) z=(tri a).2.2 →
  (a=h0∨0<veZ h0 a)→(a=h0→∃ f,B4 h0 ss=some f)→(∀ f,B4 a ss=some f→0<veZ h0 f→rW h0 ss f<k) →
  ∀ ab∈(a :: E2 h0 ss k (B4 a ss)).zip (E2 h0 ss k (B4 a ss)++[j7 h0]),ab.1∈ss∧ab.2∈ss∧0<veZ ab.1 ab.2∧Sup (ss.map tri) (ry (tri ab.1) (tri ab.2)):=by
 have syT:∀ s∈ss.map tri,ng s∈ss.map tri:=fun s hs=>by
  obtain⟨t,ht,rfl⟩:=JK.mp hs
  rw[← y7];exact JK.mpr ⟨_,sy t ht,rfl⟩
 intro k
 induction k with
 | zero =>
  intro a z ha hz ta h1 h2 h3 ab hab
  cases e:B4 a ss with
  | none =>
   exfalso
   rcases h1 with rfl|h1
   ·obtain⟨f,hf⟩:=h2 rfl;rw[e]at hf;cases hf
   ·have:=(au (h:=a) hp).no e (j7 h0) (sy h0 m0)
    exact this (by rw[show veZ a (j7 h0)=veZ h0 a by unfold veZ j7;grind];exact h1)
  | some f =>
   obtain⟨mf,vf,ef⟩:=I0 hp e
   by_cases c:0<veZ h0 f
   ·exact absurd (h3 f e c) (Nf _)
   ·rw[e]at hab
    have hab:ab∈[(a,j7 h0)]:=hab
    rw[Kl.mp hab]
    have hv:0<veZ h0 a:=by
     rcases h1 with rfl|h1
     ·exact absurd vf c
     ·exact h1
    have ev:veZ a (j7 h0)=veZ h0 a:=by unfold veZ j7;grind
    refine⟨ha,sy h0 m0,by show 0<veZ a (j7 h0);rw[ev];exact hv,?_⟩
    show Sup _ (ry (tri a) (tri (j7 h0)))
    rw[y7]
    exact BA syT (JK.mpr ⟨h0,m0,rfl⟩) (JK.mpr ⟨a,ha,rfl⟩) s0 t0 hz ta ef (by rw[w6];exact A2.mpr hv) (by rw[w6];have:=A2 (n:=veZ h0 f);grind)
 | succ k ih =>
  intro a z ha hz ta h1 h2 h3 ab hab
  cases e:B4 a ss with
  | none =>
   exfalso
   rcases h1 with rfl|h1
   ·obtain⟨f,hf⟩:=h2 rfl;rw[e]at hf;cases hf
   ·have:=(au (h:=a) hp).no e (j7 h0) (sy h0 m0)
    exact this (by rw[show veZ a (j7 h0)=veZ h0 a by unfold veZ j7;grind];exact h1)
  | some f =>
   obtain⟨mf,vf,ef⟩:=I0 hp e
   rw[e]at hab
   by_cases c:0<veZ h0 f
   ·have er:E2 h0 ss (k+1) (some f)=f :: E2 h0 ss k (B4 f ss):=if_pos c
    rw[er]at hab
    have sf:=ko hz ta ef
    rcases JJ.mp hab with rfl|hab
    ·exact⟨ha,mf,vf,sf⟩
    ·refine ih f (ry (tri a) (tri f)) mf sf (dQ (u6 ef.ve)) (.inr c) (fun z=>?_) (fun g hg hc=>?_) ab hab
     ·subst z
      have:veZ f f=0:=by unfold veZ;grind
      omega
     ·have:=aG hp hg (.inr c) hc
      have:=h3 f e c
      omega
   ·have er:E2 h0 ss (k+1) (some f)=[]:=if_neg c
    rw[er]at hab
    have hab:ab∈[(a,j7 h0)]:=hab
    rw[Kl.mp hab]
    have hv:0<veZ h0 a:=by
     rcases h1 with rfl|h1
     ·exact absurd vf c
     ·exact h1
    have ev:veZ a (j7 h0)=veZ h0 a:=by unfold veZ j7;grind
    refine⟨ha,sy h0 m0,by show 0<veZ a (j7 h0);rw[ev];exact hv,?_⟩
    show Sup _ (ry (tri a) (tri (j7 h0)))
    rw[y7]
    exact BA syT (JK.mpr ⟨h0,m0,rfl⟩) (JK.mpr ⟨a,ha,rfl⟩) s0 t0 hz ta ef (by rw[w6];exact A2.mpr hv) (by rw[w6];have:=A2 (n:=veZ h0 f);grind)
noncomputable def B9(c d:Nat):Nat:=c / Ll c d*d
theorem K5(c d:Nat):B9 c d=Ox c d:=by
 unfold B9 Ox
 rw[NT,← Nat.mul_div_assoc _ (Nat.gcd_dvd_left c d),NT]
noncomputable def cbL(l:T3):Nat:=B9 (B9 (B9 1 l.1.den) l.2.1.den) l.2.2.den
theorem eQ(l:T3):cbL l=Ox (Ox l.1.den l.2.1.den) l.2.2.den:=by
 unfold cbL
 rw[K5,K5,K5,Nat.lcm_one_left]
theorem zS(l:T3):0<cbL l:=by
 rw[eQ]
 exact Nu (Nu l.1.den_pos l.2.1.den_pos) l.2.2.den_pos
theorem BE(l:T3):l.1.den ∣ cbL l:=by rw[eQ];exact ML (Mh _ _) (Mh _ _)
theorem BD(l:T3):l.2.1.den ∣ cbL l:=by rw[eQ];exact ML (MH _ _) (Mh _ _)
theorem BC(l:T3):l.2.2.den ∣ cbL l:=by rw[eQ];exact MH _ _
noncomputable def bM(q:Rat)(c:Nat):Int:=q.num*((c / q.den:Nat):Int)
theorem bS{q:Rat}{c:Nat}(h:q.den ∣ c):(bM q c:Rat)=q*(c:Rat):=by
 obtain⟨k,rfl⟩:=h
 unfold bM
 rw[MM _ q.den_pos,Kn,← K4 q,KW,Kv]
 grind
noncomputable def f7(l:T3)(i:Nat):Sd:=(bM l.1 (cbL l),bM l.2.1 (cbL l),bM l.2.2 (cbL l),(i:Int),(cbL l:Int))
noncomputable def N3:Nat→List T3→List Sd
 | _,[]=>[]
 | i,l :: r=>f7 l i :: j7 (f7 l i) :: N3 (i+1) r
noncomputable abbrev e7(ls:List T3):List Sd:=N3 0 ls
theorem B0(l:T3)(i:Nat):tri (f7 l i)=(l.1*(cbL l:Rat),l.2.1*(cbL l:Rat),l.2.2*(cbL l:Rat)):=by
 unfold tri f7
 rw[bS (BE l),bS (BD l),bS (BC l)]
theorem zJ(s:Sd):j7 (j7 s)=s:=by
 obtain⟨a,b,c,d,e⟩:=s
 unfold j7
 show(- -a,- -b,c,d,- -e)=_
 rw[Oi,Oi,Oi]
theorem G1{s:Sd}:∀{ls:List T3} {i:Nat},s∈N3 i ls→∃ l∈ls,∃ j,s=f7 l j∨s=j7 (f7 l j)
 | [],_,h=>nomatch h
 | l :: r,i,h=>by
  rcases JJ.mp h with h|h
  ·exact⟨l,JH,i,.inl h⟩
  ·rcases JJ.mp h with h|h
   ·exact⟨l,JH,i,.inr h⟩
   ·obtain⟨l',h1,j,h2⟩:=G1 h
    exact⟨l',JF _ h1,j,h2⟩
theorem S6{l:T3}:∀{ls:List T3} {i:Nat},l∈ls→∃ j,f7 l j∈N3 i ls∧j7 (f7 l j)∈N3 i ls
 | [],_,h=>nomatch h
 | m :: r,i,h=>by
  rcases JJ.mp h with rfl|h
  ·exact⟨i,JH,JF _ JH⟩
  ·obtain⟨j,h1,h2⟩:=S6 (i:=i+1) h
   exact⟨j,JF _ (JF _ h1),JF _ (JF _ h2)⟩
theorem mF:∀{ls:List T3} {i:Nat},∀ s∈N3 i ls,j7 s∈N3 i ls
 | [],_,_,h=>nomatch h
 | l :: r,i,s,h=>by
  rcases JJ.mp h with rfl|h
  ·exact JF _ JH
  ·rcases JJ.mp h with rfl|h
   ·rw[zJ];exact JH
   ·exact JF _ (JF _ (mF s h))
structure LineOk(l:T3):Prop where
 ne:¬ (l.1=0∧l.2.1=0)
 pos:0<l.2.2
theorem C5(l:T3):(0:Rat)<(cbL l:Rat):=by
 exact Rat.natCast_pos.mpr (zS l)
theorem gR{ls:List T3}(h:∀ l∈ls,LineOk l){i:Nat}:∀ s∈N3 i ls,0<s.2.2.1:=fun s hs=>by
 obtain⟨l,hl,j,e⟩:=G1 hs
 have hr:s.2.2.1=(f7 l j).2.2.1:=by rcases e with rfl|rfl<;>rfl
 rw[hr]
 have e2:((f7 l j).2.2.1:Rat)=l.2.2*(cbL l:Rat):=congrArg (fun t:T3=>t.2.2) (B0 l j)
 refine A2.mp ?_
 rw[e2]
 exact KI (h l hl).pos (C5 l)
theorem A1(l:T3)(y u:Rat):fj l y u=true↔l.1*y+l.2.1*u≤l.2.2∧-(l.1*y+l.2.1*u)≤l.2.2:=by
 unfold fj u7
 rw[decide_eq_true_iff]
 split<;>grind
theorem F4{c x r:Rat}(hc:0<c):x*c≤r*c↔x≤r:=by
 constructor
 ·intro h
  have:0≤c*(r - x):=by grind
  have:=j9 hc this
  grind
 ·intro h
  have:0≤(r - x)*c:=JM (by grind) (E4 hc)
  grind
theorem aC(l:T3)(j:Nat)(z:Rat × Rat):dt (tri (f7 l j)) z=(l.1*z.1+l.2.1*z.2)*(cbL l:Rat):=by
 rw[B0];unfold dt;grind
theorem nB(s:Sd)(z:Rat × Rat):dt (tri (j7 s)) z = -dt (tri s) z:=by rw[y7];unfold dt ng;grind
theorem E7(ls:List T3)(z:Rat × Rat):Sup ((e7 ls).map tri) z↔j8 ls z.1 z.2=true:=by
 unfold j8
 rw[Li]
 constructor
 ·intro h l hl
  obtain⟨j,h1,h2⟩:=S6 (i:=0) hl
  have a1:=h _ (JK.mpr ⟨_,h1,rfl⟩)
  have a2:=h _ (JK.mpr ⟨_,h2,rfl⟩)
  rw[nB]at a2
  have e:(tri (j7 (f7 l j))).2.2=(tri (f7 l j)).2.2:=rfl
  rw[e]at a2
  rw[aC,B0]at a1 a2
  rw[A1]
  refine⟨(F4 (C5 l)).mp a1,(F4 (C5 l)).mp ?_⟩
  rw[Rat.neg_mul];exact a2
 ·intro h s hs
  obtain⟨t,ht,rfl⟩:=JK.mp hs
  obtain⟨l,hl,j,e⟩:=G1 ht
  obtain⟨b1,b2⟩:=(A1 l z.1 z.2).mp (h l hl)
  rcases e with rfl|rfl
  ·rw[aC,B0];exact(F4 (C5 l)).mpr b1
  ·rw[nB]
   show -dt (tri (f7 l j)) z≤(tri (f7 l j)).2.2
   rw[aC,B0,← Rat.neg_mul]
   exact(F4 (C5 l)).mpr b2
theorem M8{ls:List T3}(hok:∀ l∈ls,LineOk l)(hne:ls≠[]):∃ h0 l,O9 (e7 ls)=h0 :: l∧h0∈e7 ls ∧
  ((l=[]∧∀ s∈e7 ls,veZ h0 s=0)∨(l≠[]∧Rim ((e7 ls).map tri) (tri h0) (l.map tri)∧∀ ab∈(h0 :: l).zip (l++[j7 h0]),ab.1∈e7 ls∧ab.2∈e7 ls∧0<veZ ab.1 ab.2)):=by
 have hp:∀ s∈e7 ls,0<s.2.2.1:=gR hok (i:=0)
 have sy:∀ s∈e7 ls,j7 s∈e7 ls:=mF (ls:=ls) (i:=0)
 have nn:e7 ls≠[]:=by
  cases ls with
  | nil=>exact absurd rfl hne
  | cons a b=>exact fun z=>nomatch z
 generalize e7 ls=ss at *
 obtain⟨s1,r,rfl⟩:∃ s1 r,ss=s1 :: r:=by
  cases ss with
  | nil=>exact absurd rfl nn
  | cons a b=>exact⟨_,_,rfl⟩
 refine⟨A0 (s1 :: r) s1,_,rfl,?_⟩
 have m0:A0 (s1 :: r) s1∈s1 :: r:=by
  rcases ar (s1 :: r) s1 with h|h
  ·rw[h];exact JH
  ·exact h
 have le:=fun t ht=>pR (s1 :: r) s1 t hp (hp s1 JH) (hp t ht) (.inl ht)
 generalize A0 (s1 :: r) s1=h0 at *
 generalize s1 :: r=ss at *
 refine⟨m0,?_⟩
 cases e:B4 h0 ss with
 | none =>
  left
  have no:=(au (h:=h0) hp).no e
  refine⟨by cases ss.length<;>rfl,fun s hs=>?_⟩
  have a1:=no s hs
  have a2:=no _ (sy s hs)
  have:veZ h0 (j7 s) = -veZ h0 s:=by unfold veZ j7;grind
  omega
 | some f =>
  right
  obtain⟨mf,vf,ef⟩:=I0 hp e
  have hl:ss.length≠0:=fun z=>by rw[List.eq_nil_of_length_eq_zero z]at m0;cases m0
  have r0:=hp h0 m0
  have p0:0<h0.1:=by
   rcases Nc 0 h0.1 with z|z
   ·exact z
   ·exfalso
    have Y3:∀ s∈ss,s.1=0:=fun s hs=>by
     have q1:=le s hs
     have q2:=le _ (sy s hs)
     have rs:=hp s hs
     have q2:-s.1*h0.2.2.1≤h0.1*s.2.2.1:=q2
     have q3:0 ≤ -h0.1*s.2.2.1:=LD (by omega) (by omega)
     rw[Int.neg_mul]at q2 q3
     have q4:s.1*h0.2.2.1=0:=by omega
     exact(LV.mp q4).resolve_right (by omega)
    have:veZ h0 f=0:=by
     unfold veZ;rw[Y3 h0 m0,Y3 f mf,Nd,NS];rfl
    omega
  have p0R:(0:Rat)<(h0.1:Rat):=A2.mpr p0
  have s0:Sup (ss.map tri) ((h0.2.2.1:Rat) / (h0.1:Rat),0):=fun s hs=>by
   obtain⟨t,ht,rfl⟩:=JK.mp hs
   have q:=le t ht
   have q':((t.1*h0.2.2.1:Int):Rat)≤((h0.1*t.2.2.1:Int):Rat):=MU.mpr q
   rw[Kn,Kn]at q'
   unfold dt tri
   show(t.1:Rat)*((h0.2.2.1:Rat) / (h0.1:Rat))+(t.2.1:Rat)*0≤(t.2.2.1:Rat)
   have e1:(h0.1:Rat)*((h0.2.2.1:Rat) / (h0.1:Rat))=(h0.2.2.1:Rat):=by rw[Mb,KC (u6 p0R)]
   have:0≤(h0.1:Rat)*((t.2.2.1:Rat) - (t.1:Rat)*((h0.2.2.1:Rat) / (h0.1:Rat))):=by
    generalize (h0.2.2.1:Rat) / (h0.1:Rat)=w at *
    generalize (h0.1:Rat)=A at *
    generalize (h0.2.2.1:Rat)=B at *
    generalize (t.1:Rat)=C at *
    generalize (t.2.2.1:Rat)=E at *
    subst e1
    clear le hp sy
    grind
   have:=j9 p0R this
   rw[Md,MC]
   generalize (t.1:Rat)*((h0.2.2.1:Rat) / (h0.1:Rat))=w at *
   generalize (t.2.2.1:Rat)=E at *
   clear le hp sy
   grind
  have t0:dt (tri h0) ((h0.2.2.1:Rat) / (h0.1:Rat),0)=(tri h0).2.2:=by
   unfold dt tri
   show(h0.1:Rat)*((h0.2.2.1:Rat) / (h0.1:Rat))+(h0.2.1:Rat)*0=(h0.2.2.1:Rat)
   rw[Mb,KC (u6 p0R),Md,MC]
  have all:=yz hp sy m0 s0 t0 ss.length h0 _ m0 s0 t0 (.inl rfl) (fun _=>⟨f,e⟩) (fun g hg hv=>JN (aG hp hg (.inl rfl) hv) (wJ h0 ss h0))
  rw[e]at all
  refine⟨?_,⟨?_,fun s hs=>?_,fun s hs=>?_,fun ab hab=>?_⟩,fun ab hab=>?_⟩
  ·obtain⟨k,hk⟩:∃ k,ss.length=k+1:=⟨ss.length - 1,by omega⟩
   rw[hk]
   show(if 0<veZ h0 f then _ else _)≠[]
   rw[if_pos vf];exact fun z=>nomatch z
  ·obtain⟨k,hk⟩:∃ k,ss.length=k+1:=⟨ss.length - 1,by omega⟩
   rw[hk]
   show(if 0<veZ h0 f then _ else _:List Sd).map tri≠[]
   rw[if_pos vf];exact fun z=>nomatch z
  ·obtain⟨t,ht,rfl⟩:=JK.mp hs
   rw[← y7];exact JK.mpr ⟨_,sy t ht,rfl⟩
  ·obtain⟨t,ht,rfl⟩:=JK.mp hs
   exact A2.mpr (hp t ht)
  ·have em:ab∈((h0 :: E2 h0 ss ss.length (some f)).map tri).zip ((E2 h0 ss ss.length (some f)++[j7 h0]).map tri):=by
    rw[Kp,Ky,Ky,Lw,y7];exact hab
   rw[J1]at em
   obtain⟨cd,hcd,rfl⟩:=JK.mp em
   obtain⟨q1,q2,q3,q4⟩:=all cd hcd
   exact⟨JK.mpr ⟨_,q1,rfl⟩,JK.mpr ⟨_,q2,rfl⟩,by show 0<ve (tri cd.1) (tri cd.2);rw[w6];exact A2.mpr q3,q4⟩
  ·obtain⟨q1,q2,q3,q4⟩:=all ab hab
   exact⟨q1,q2,q3⟩
noncomputable def G0(a b:Rat × Rat):Bool:=if a.1=b.1 then decide (a.2<b.2)else decide (a.1<b.1)
noncomputable def F1(rs:List (Rat × Rat)):Nat→Nat
 | 0=>0
 | i+1=>if G0 (rs.getD i (0,0)) (rs.getD (F1 rs i) (0,0))=true then i else F1 rs i
noncomputable def aS(rs:List (Rat × Rat)):List (Rat × Rat):=rs.drop (F1 rs rs.length)++rs.take (F1 rs rs.length)
noncomputable def A6(h0:Sd)(l:List Sd):List (Rat × Rat):=((h0 :: l).zip (l++[j7 h0])).map fun ab=>ry (tri ab.1) (tri ab.2)
noncomputable def v9(ls:List T3):Option (List (Rat × Rat)):=match O9 (e7 ls)with
 | []=>none
 | [_]=>none
 | h0 :: x :: l=>some (aS (A6 h0 (x :: l)++(A6 h0 (x :: l)).map ngZ))
theorem aj{rs:List (Rat × Rat)}{z:Rat × Rat}:z∈aS rs↔z∈rs:=by
 unfold aS
 rw[Kf,Or.comm,← Kf,Me]
theorem uP(h0:Sd)(l:List Sd):A6 h0 l++(A6 h0 l).map ngZ=O5 (tri h0) (l.map tri):=by
 unfold A6 O5 jt
 have e:(tri h0 :: l.map tri).zip (l.map tri++[ng (tri h0)])=((h0 :: l).zip (l++[j7 h0])).map fun ab=>(tri ab.1,tri ab.2):=by
  rw[← J1,Ky,Kp,Ky,Lw,y7]
 rw[e,Lf,Lf,Lf]
 rfl
def v8(ls:List T3):Prop:=∀ a∈ls,∀ b∈ls,a.1*b.2.1=b.1*a.2.1
theorem di(a b:T3)(i j:Nat):ve (tri (f7 a i)) (tri (f7 b j))=(a.1*b.2.1 - b.1*a.2.1)*((cbL a:Rat)*(cbL b:Rat)):=by
 rw[B0,B0];unfold ve;grind
theorem eN{ls:List T3}(hok:∀ l∈ls,LineOk l) :
  (v9 ls=none∧v8 ls) ∨ ∃ cs,v9 ls=some cs∧¬ v8 ls∧(∃ h0 l,Rim ((e7 ls).map tri) h0 l∧∀ z,z∈cs↔z∈O5 h0 l):=by
 by_cases hne:ls=[]
 ·subst hne
  exact .inl ⟨rfl,fun a ha=>nomatch ha⟩
 obtain⟨h0,l,e,m0,h⟩:=M8 hok hne
 rcases h with⟨rfl,h⟩|⟨hl,R,h⟩
 ·left
  refine⟨by unfold v9;rw[e],fun a ha b hb=>?_⟩
  obtain⟨i,ha,_⟩:=S6 (i:=0) ha
  obtain⟨j,hb,_⟩:=S6 (i:=0) hb
  have e1:=h _ ha
  have e2:=h _ hb
  obtain⟨c,hc,k,ec⟩:=G1 m0
  have hc0:¬ ((tri h0).1=0∧(tri h0).2.1=0):=fun⟨z1,z2⟩=>by
   have cp:=C5 c
   have:(tri (f7 c k)).1=0∧(tri (f7 c k)).2.1=0:=by
    rcases ec with rfl|rfl
    ·exact⟨z1,z2⟩
    ·rw[y7]at z1 z2
     unfold ng at z1 z2
     exact⟨by grind,by grind⟩
   rw[B0]at this
   have t1:c.1*(cbL c:Rat)=0:=this.1
   have t2:c.2.1*(cbL c:Rat)=0:=this.2
   exact(hok c hc).ne ⟨by grind,by grind⟩
  have f1:ve (tri h0) (tri (f7 a i))=0:=by rw[w6,e1];rfl
  have f2:ve (tri h0) (tri (f7 b j))=0:=by rw[w6,e2];rfl
  have f3:ve (tri (f7 a i)) (tri (f7 b j))=0:=by
   generalize tri (f7 a i)=x at *
   generalize tri (f7 b j)=y at *
   generalize tri h0=w at *
   unfold ve at *
   have i1:w.1*(x.1*y.2.1 - x.2.1*y.1)=0:=by
    have:w.1*(x.1*y.2.1 - x.2.1*y.1)=x.1*(w.1*y.2.1 - w.2.1*y.1) - y.1*(w.1*x.2.1 - w.2.1*x.1):=by grind
    rw[this,f1,f2];grind
   have i2:w.2.1*(x.1*y.2.1 - x.2.1*y.1)=0:=by
    have:w.2.1*(x.1*y.2.1 - x.2.1*y.1)=x.2.1*(w.1*y.2.1 - w.2.1*y.1) - y.2.1*(w.1*x.2.1 - w.2.1*x.1):=by grind
    rw[this,f1,f2];grind
   by_cases c1:w.1=0
   ·have c2:w.2.1≠0:=fun z=>hc0 ⟨c1,z⟩
    grind
   ·grind
  rw[di]at f3
  have q1:=u6 (KI (C5 a) (C5 b))
  generalize (cbL a:Rat)*(cbL b:Rat)=k at *
  generalize a.1*b.2.1=u at *
  generalize b.1*a.2.1=v at *
  clear h e m0 hc0 f1 f2 e1 e2 hok
  grind
 ·right
  obtain⟨x,l,rfl⟩:∃ x l',l=x :: l':=by
   cases l with
   | nil=>exact absurd rfl hl
   | cons x l=>exact⟨x,l,rfl⟩
  refine⟨_,by unfold v9;rw[e],fun al=>?_,_,_,R,fun z=>?_⟩
  ·obtain⟨q1,q2,q3⟩:=h (h0,x) JH
   obtain⟨a,ha,i,ea⟩:=G1 q1
   obtain⟨b,hb,j,eb⟩:=G1 q2
   have hv:=al a ha b hb
   have z0:ve (tri (f7 a i)) (tri (f7 b j))=0:=by rw[di,hv];grind
   have q3:0<veZ h0 x:=q3
   have q4:(0:Rat)<ve (tri h0) (tri x):=by rw[w6];exact A2.mpr q3
   have ea':tri h0=tri (f7 a i)∨tri h0=ng (tri (f7 a i)):=by
    rcases ea with h|h
    ·have h:h0=_:=h;left;rw[h]
    ·have h:h0=_:=h;right;rw[h,y7]
   have eb':tri x=tri (f7 b j)∨tri x=ng (tri (f7 b j)):=by
    rcases eb with h|h
    ·have h:x=_:=h;left;rw[h]
    ·have h:x=_:=h;right;rw[h,y7]
   have z1:ve (tri h0) (tri x)=0:=by
    rcases ea' with h|h<;>rcases eb' with h'|h'<;>(rw[h,h'];clear q4;generalize tri (f7 a i)=A at *;generalize tri (f7 b j)=B at *;unfold ve at *;first|exact z0|(unfold ng;grind))
   grind
  ·rw[aj,uP]
theorem gS{a b:Sd}:sdD a=sdD b↔a=b:=by
 constructor
 ·intro h
  unfold sdD at h
  injection h with h
  injection h with h1 h
  injection h with h2 h
  injection h with h3 h
  injection h with h4 h
  injection h with h5 h
  injection h1 with h1;injection h2 with h2;injection h3 with h3;injection h4 with h4;injection h5 with h5
  exact Prod.ext h1 (Prod.ext h2 (Prod.ext h3 (Prod.ext h4 h5)))
 ·rintro rfl;rfl
theorem ky{xs ys:List Sd}:xs.map sdD=ys.map sdD↔xs=ys:=Lg (fun _ _ h=>gS.mp h)
theorem X3{a b:Rat × Rat}:rD a=rD b↔a=b:=by
 constructor
 ·intro h
  unfold rD aT at h
  injection h with h
  injection h with h1 h
  injection h with h2 h
  exact Prod.ext (g8.mp h1) (g8.mp h2)
 ·rintro rfl;rfl
theorem T9{xs ys:List (Rat × Rat)}:xs.map rD=ys.map rD↔xs=ys:=Lg (fun _ _ h=>X3.mp h)
structure SzS(s:Sd):Prop where
 p:s.1.natAbs<2 ^ 1200
 q:s.2.1.natAbs<2 ^ 1200
 r:s.2.2.1.natAbs<2 ^ 1200
noncomputable def kQ:Option Sd→D
 | none=>.non
 | some s=>sdD s
structure LnOk(l:T3):Prop extends LineOk l where
 p:sz l.1≤1300
 q:sz l.2.1≤1300
 r:sz l.2.2≤1300
 s:SzS (f7 l 0)
def si(ls:List T3):Prop:=ls.length≤12∧∀ l∈ls,LnOk l
local macro_rules|`(tactic| walk_at "inj")=>`(tactic| (rename_i e h;simp only[List.cons.injEq,GM.gS,GM.ky,GM.X3,GM.T9,and_true,true_and,GM.g8,GM.i5,GM.h7,GM.i6,GM.h8,D.tup.injEq,D.ref.injEq,D.int.injEq,D.str.injEq,D.bl.injEq,D.vl.injEq,Kt,and_assoc]at e;(repeat(obtain⟨e1,e⟩:=e;subst e1));subst e;exact h))
local macro_rules|`(tactic| walk_at "injs")=>`(tactic| (rename_i e o h;rcases o with o|o<;>(subst o;first|(exfalso;simp only[D.tup.injEq,List.cons.injEq,reduceCtorEq,false_and,and_false]at e;done)|(simp only[List.cons.injEq,GM.gS,GM.ky,GM.X3,GM.T9,and_true,true_and,GM.g8,GM.i5,GM.h7,GM.i6,GM.h8,D.tup.injEq,D.ref.injEq,D.int.injEq,D.str.injEq,D.bl.injEq,D.vl.injEq,Kt,and_assoc]at e;(repeat(obtain⟨e1,e⟩:=e;subst e1));subst e;exact h))))
abbrev iL(l:T3)(M:Mem)(R:DK)(Y:DXK):Prop:=LnOk l∧R (.int ((cbL l:Nat):Int)) M
def Cq:DSp:=fun ds M R Y=>∃(l:T3),ds=[g5 l]∧iL l M R Y
theorem sH{l:T3}{M:Mem}{R:DK}{Y:DXK}:Cq [g5 l] M R Y=(iL l M R Y):=propext ⟨fun z=>by obtain⟨_,_,_⟩:=z;walk_at "inj",fun h=>⟨l,rfl,h⟩⟩
abbrev Z4(l:T3)(c:Int)(M:Mem)(R:DK)(Y:DXK):Prop:=(LnOk l∧c=((cbL l:Nat):Int))∧R (.vl [.int (f7 l 0).1,.int (f7 l 0).2.1,.int (f7 l 0).2.2.1]) M
def mQ:DSp:=fun ds M R Y=>∃(l:T3) (c:Int),ds=[g5 l,.int c]∧Z4 l c M R Y
theorem jT{l:T3}{c:Int}{M:Mem}{R:DK}{Y:DXK}:mQ [g5 l,.int c] M R Y=(Z4 l c M R Y):=propext ⟨fun z=>by obtain⟨_,_,_,_⟩:=z;walk_at "inj",fun h=>⟨l,c,rfl,h⟩⟩
abbrev Q7(ls:List T3)(M:Mem)(R:DK)(Y:DXK):Prop:=si ls∧R (.vl ((e7 ls).map sdD)) M
def iy:DSp:=fun ds M R Y=>∃(x0:D) (ls:List T3),ds=[x0]∧(x0 = .vl (ls.map g5)∨x0 = .tup (ls.map g5))∧Q7 ls M R Y
theorem jU{ls:List T3}{M:Mem}{R:DK}{Y:DXK}:iy [.vl (ls.map g5)] M R Y=(Q7 ls M R Y):=propext ⟨fun z=>by obtain⟨_,_,_,_,_⟩:=z;walk_at "injs",fun h=>⟨_,ls,rfl,.inl rfl,h⟩⟩
theorem cK{ls:List T3}{M:Mem}{R:DK}{Y:DXK}:iy [.tup (ls.map g5)] M R Y=(Q7 ls M R Y):=propext ⟨fun z=>by obtain⟨_,_,_,_,_⟩:=z;walk_at "injs",fun h=>⟨_,ls,rfl,.inr rfl,h⟩⟩
abbrev iJ(a:Sd)(M:Mem)(R:DK)(Y:DXK):Prop:=R (sdD (j7 a)) M
def yv:DSp:=fun ds M R Y=>∃(a:Sd),ds=[sdD a]∧iJ a M R Y
theorem sF{a:Sd}{M:Mem}{R:DK}{Y:DXK}:yv [sdD a] M R Y=(iJ a M R Y):=propext ⟨fun z=>by obtain⟨_,_,_⟩:=z;walk_at "inj",fun h=>⟨a,rfl,h⟩⟩
abbrev bW(a b:Sd)(M:Mem)(R:DK)(Y:DXK):Prop:=(SzS a∧SzS b)∧R (.int (veZ a b)) M
def gi:DSp:=fun ds M R Y=>∃(a b:Sd),ds=[sdD a,sdD b]∧bW a b M R Y
theorem nW{a b:Sd}{M:Mem}{R:DK}{Y:DXK}:gi [sdD a,sdD b] M R Y=(bW a b M R Y):=propext ⟨fun z=>by obtain⟨_,_,_,_⟩:=z;walk_at "inj",fun h=>⟨a,b,rfl,h⟩⟩
abbrev bX(a b c:Sd)(M:Mem)(R:DK)(Y:DXK):Prop:=(SzS a∧SzS b∧SzS c)∧R (.int (tnZ a b c)) M
def uE:DSp:=fun ds M R Y=>∃(a b c:Sd),ds=[sdD a,sdD b,sdD c]∧bX a b c M R Y
theorem nX{a b c:Sd}{M:Mem}{R:DK}{Y:DXK}:uE [sdD a,sdD b,sdD c] M R Y=(bX a b c M R Y):=propext ⟨fun z=>by obtain⟨_,_,_,_,_⟩:=z;walk_at "inj",fun h=>⟨a,b,c,rfl,h⟩⟩
abbrev cg(a b:Sd)(M:Mem)(R:DK)(Y:DXK):Prop:=(SzS a∧SzS b)∧R (.bl (D4 a b)) M
def uI:DSp:=fun ds M R Y=>∃(a b:Sd),ds=[sdD a,sdD b]∧cg a b M R Y
theorem oo{a b:Sd}{M:Mem}{R:DK}{Y:DXK}:uI [sdD a,sdD b] M R Y=(cg a b M R Y):=propext ⟨fun z=>by obtain⟨_,_,_,_⟩:=z;walk_at "inj",fun h=>⟨a,b,rfl,h⟩⟩
abbrev bZ(ss:List Sd)(M:Mem)(R:DK)(Y:DXK):Prop:=(∃ s r,ss=s :: r)∧(∀ s∈ss,SzS s)∧R (sdD (A0 ss (ss.headD (0,0,0,0,0)))) M
def uG:DSp:=fun ds M R Y=>∃(ss:List Sd),ds=[.vl (ss.map sdD)]∧bZ ss M R Y
theorem og{ss:List Sd}{M:Mem}{R:DK}{Y:DXK}:uG [.vl (ss.map sdD)] M R Y=(bZ ss M R Y):=propext ⟨fun z=>by obtain⟨_,_,_⟩:=z;walk_at "inj",fun h=>⟨ss,rfl,h⟩⟩
abbrev iC(ss:List Sd)(g:Sd)(M:Mem)(R:DK)(Y:DXK):Prop:=(SzS g∧∀ s∈ss,SzS s)∧R (kQ (B4 g ss)) M
def Cm:DSp:=fun ds M R Y=>∃(ss:List Sd) (g:Sd),ds=[.vl (ss.map sdD),sdD g]∧iC ss g M R Y
theorem sD{ss:List Sd}{g:Sd}{M:Mem}{R:DK}{Y:DXK}:Cm [.vl (ss.map sdD),sdD g] M R Y=(iC ss g M R Y):=propext ⟨fun z=>by obtain⟨_,_,_,_⟩:=z;walk_at "inj",fun h=>⟨ss,g,rfl,h⟩⟩
abbrev aa(ls:List T3)(M:Mem)(R:DK)(Y:DXK):Prop:=si ls∧R (.vl ((O9 (e7 ls)).map sdD)) M
def pH:DSp:=fun ds M R Y=>∃(x0:D) (ls:List T3),ds=[x0]∧(x0 = .vl (ls.map g5)∨x0 = .tup (ls.map g5))∧aa ls M R Y
theorem oq{ls:List T3}{M:Mem}{R:DK}{Y:DXK}:pH [.vl (ls.map g5)] M R Y=(aa ls M R Y):=propext ⟨fun z=>by obtain⟨_,_,_,_,_⟩:=z;walk_at "injs",fun h=>⟨_,ls,rfl,.inl rfl,h⟩⟩
theorem fG{ls:List T3}{M:Mem}{R:DK}{Y:DXK}:pH [.tup (ls.map g5)] M R Y=(aa ls M R Y):=propext ⟨fun z=>by obtain⟨_,_,_,_,_⟩:=z;walk_at "injs",fun h=>⟨_,ls,rfl,.inr rfl,h⟩⟩
abbrev iE(a b:Sd)(M:Mem)(R:DK)(Y:DXK):Prop:=(SzS a∧SzS b∧veZ a b≠0)∧R (rD (ry (tri a) (tri b))) M
def Cn:DSp:=fun ds M R Y=>∃(a b:Sd),ds=[sdD a,sdD b]∧iE a b M R Y
theorem sE{a b:Sd}{M:Mem}{R:DK}{Y:DXK}:Cn [sdD a,sdD b] M R Y=(iE a b M R Y):=propext ⟨fun z=>by obtain⟨_,_,_,_⟩:=z;walk_at "inj",fun h=>⟨a,b,rfl,h⟩⟩
def Ad(z:Rat × Rat):Prop:=sz z.1≤2402∧sz z.2≤2402
abbrev Z8(a b:Rat × Rat)(M:Mem)(R:DK)(Y:DXK):Prop:=(Ad a∧Ad b)∧R (.bl (G0 a b)) M
def mS:DSp:=fun ds M R Y=>∃(a b:Rat × Rat),ds=[rD a,rD b]∧Z8 a b M R Y
theorem jX{a b:Rat × Rat}{M:Mem}{R:DK}{Y:DXK}:mS [rD a,rD b] M R Y=(Z8 a b M R Y):=propext ⟨fun z=>by obtain⟨_,_,_,_⟩:=z;walk_at "inj",fun h=>⟨a,b,rfl,h⟩⟩
abbrev ae(rs:List (Rat × Rat))(M:Mem)(R:DK)(Y:DXK):Prop:=(rs≠[]∧rs.length≤100∧∀ z∈rs,Ad z)∧R (.vl ((aS rs).map rD)) M
def mU:DSp:=fun ds M R Y=>∃(rs:List (Rat × Rat)),ds=[.vl (rs.map rD)]∧ae rs M R Y
theorem jZ{rs:List (Rat × Rat)}{M:Mem}{R:DK}{Y:DXK}:mU [.vl (rs.map rD)] M R Y=(ae rs M R Y):=propext ⟨fun z=>by obtain⟨_,_,_⟩:=z;walk_at "inj",fun h=>⟨rs,rfl,h⟩⟩
noncomputable def yV:Option (List (Rat × Rat))→D
 | none=>.non
 | some cs=>.vl (cs.map rD)
abbrev af(ls:List T3)(M:Mem)(R:DK)(Y:DXK):Prop:=si ls∧R (yV (v9 ls)) M
def kI:DSp:=fun ds M R Y=>∃(x0:D) (ls:List T3),ds=[x0]∧(x0 = .vl (ls.map g5)∨x0 = .tup (ls.map g5))∧af ls M R Y
theorem ox{ls:List T3}{M:Mem}{R:DK}{Y:DXK}:kI [.vl (ls.map g5)] M R Y=(af ls M R Y):=propext ⟨fun z=>by obtain⟨_,_,_,_,_⟩:=z;walk_at "injs",fun h=>⟨_,ls,rfl,.inl rfl,h⟩⟩
theorem fK{ls:List T3}{M:Mem}{R:DK}{Y:DXK}:kI [.tup (ls.map g5)] M R Y=(af ls M R Y):=propext ⟨fun z=>by obtain⟨_,_,_,_,_⟩:=z;walk_at "injs",fun h=>⟨_,ls,rfl,.inr rfl,h⟩⟩
theorem sr{a:Sd}{M:Mem}{R:DK}:gIx (sdD a) (.int 0) M R=R (.int a.1) M:=V9
theorem so{a:Sd}{M:Mem}{R:DK}:gIx (sdD a) (.int 1) M R=R (.int a.2.1) M:=V8
theorem sm{a:Sd}{M:Mem}{R:DK}:gIx (sdD a) (.int 2) M R=R (.int a.2.2.1) M:=gK
theorem sC{a:Rat × Rat}{M:Mem}{R:DK}:gIx (rD a) (.int 0) M R=R (d7 a.1) M:=V9
theorem sA{a:Rat × Rat}{M:Mem}{R:DK}:gIx (rD a) (.int 1) M R=R (d7 a.2) M:=V8
theorem SzS.ve{a b:Sd}(ha:SzS a)(hb:SzS b):(veZ a b).natAbs<2 ^ 2401:=by
 have h1:=f8 ha.p hb.q
 have h2:=f8 ha.q hb.p
 unfold veZ
 have:=NL (a.1*b.2.1) (a.2.1*b.1)
 rw[show 2401=1200+1200+1 from rfl,Ma]
 omega
theorem zo(c d:Nat):B9 c d≤c*d:=by
 unfold B9
 exact Nat.mul_le_mul_right _ (Lr _ _)
theorem jB:∀(xs:List Rat) (c m:Nat),(∀ x∈xs,sz x≤1300)→c<2 ^ m→xs.foldl (fun c q=>B9 c q.den) c<2 ^ (m+1300*xs.length)
 | [],c,m,_,h=>by simpa using h
 | x :: xs,c,m,hx,h=>by
  have h1:B9 c x.den<2 ^ (m+1300):=Kz (zo c x.den) (C8 h (B5 x (hx x JH)))
  have:=jB xs _ _ (fun y hy=>hx y (JF _ hy)) h1
  rw[Mv,JP]
  rwa [show m+1300*(xs.length+1)=m+1300+1300*xs.length by omega]
theorem LnOk.all{l:T3}(h:LnOk l):∀ x∈[l.1,l.2.1,l.2.2],sz x≤1300:=fun x hx=>by
 simp only[JJ,Ks,or_false]at hx
 rcases hx with rfl|rfl|rfl
 ·exact h.p
 ·exact h.q
 ·exact h.r
theorem LnOk.cb{l:T3}(h:LnOk l):cbL l<2 ^ 3901:=jB [l.1,l.2.1,l.2.2] 1 1 h.all (by decide)
theorem aK{ls:List T3}(h:si ls){i:Nat}:∀ s∈N3 i ls,SzS s:=fun s hs=>by
 obtain⟨l,hl,j,e⟩:=G1 hs
 obtain⟨a,b,c⟩:=(h.2 l hl).s
 rcases e with rfl|rfl
 ·exact⟨a,b,c⟩
 ·exact⟨by show(-(f7 l j).1).natAbs<_;rw[Lm];exact a,by show(-(f7 l j).2.1).natAbs<_;rw[Lm];exact b,c⟩
theorem ku:∀(ls:List T3) (i j:Nat) (l:T3),ls[j]? = some l→N3 i (ls.take (j+1))=N3 i (ls.take j)++[f7 l (i+j),j7 (f7 l (i+j))]
 | [],_,_,_,h=>nomatch h
 | a :: r,i,0,l,h=>by
  obtain rfl:=Option.some.inj h
  rfl
 | a :: r,i,j+1,l,h=>by
  have:=ku r (i+1) j l h
  rw[Mt,Mt]
  show _ :: _ :: N3 (i+1) (r.take (j+1))=_ :: _ :: (N3 (i+1) (r.take j)++_)
  rw[this,show i+1+j=i+(j+1)by omega]
theorem bU:∀(ls:List T3) (i:Nat),(N3 i ls).length=2*ls.length
 | [],_=>rfl
 | a :: r,i=>by
  show(N3 (i+1) r).length+1+1=2*(r.length+1)
  rw[bU r (i+1)];omega
theorem bI(a b:Int):Lh a b=(a:Rat) / (b:Rat):=LX a b
theorem uM(a b:Sd):(Lh (a.2.2.1*b.2.1 - b.2.2.1*a.2.1) (veZ a b),Lh (a.1*b.2.2.1 - b.1*a.2.2.1) (veZ a b))=ry (tri a) (tri b):=by
 unfold ry
 rw[w6,bI,bI,LU,LU,Kn,Kn,Kn,Kn]
 rfl
theorem AX{n:Nat}{a b:Sd}(ha:a.1.natAbs<2 ^ n∧a.2.1.natAbs<2 ^ n∧a.2.2.1.natAbs<2 ^ n)(hb:b.1.natAbs<2 ^ n∧b.2.1.natAbs<2 ^ n∧b.2.2.1.natAbs<2 ^ n)(hv:veZ a b≠0):sz (ry (tri a) (tri b)).1≤2*n+1∧sz (ry (tri a) (tri b)).2≤2*n+1:=by
 have sub:∀{x y z w:Int},x.natAbs<2 ^ n→y.natAbs<2 ^ n→z.natAbs<2 ^ n→w.natAbs<2 ^ n→(x*y - z*w).natAbs<2 ^ (2*n+1):=fun{x y z w} h1 h2 h3 h4=>by
  have e1:=f8 h1 h2
  have e2:=f8 h3 h4
  have:=NL (x*y) (z*w)
  rw[show 2*n+1=n+n+1 by omega,Ma]
  omega
 rw[← uM]
 have hve:(veZ a b).natAbs<2 ^ (2*n+1):=sub ha.1 hb.2.1 ha.2.1 hb.1
 exact⟨eC (by omega) (sub ha.2.2 hb.2.1 hb.2.2 ha.2.1) hve hv,eC (by omega) (sub ha.1 hb.2.2 hb.1 ha.2.2) hve hv⟩
theorem dS{rs:List (Rat × Rat)}(h:rs≠[]):∀ i,i≤rs.length→F1 rs i<rs.length
 | 0,_=>by
  cases rs with
  | nil=>exact absurd rfl h
  | cons a r=>exact Nat.zero_lt_succ _
 | i+1,hi=>by
  unfold F1
  split
  ·omega
  ·exact dS h i (by omega)
theorem lG{ls:List T3}(hok:∀ l∈ls,LineOk l):(O9 (e7 ls)).length≤2*ls.length+1:=by
 have:∀(h0:Sd) (ss:List Sd) (k:Nat) (o:Option Sd),(E2 h0 ss k o).length≤k:=fun h0 ss k=>by
  induction k with
  | zero=>intro o;exact JY _
  | succ k ih =>
   intro o
   cases o with
   | none=>exact KU _
   | some h =>
    show(if 0<veZ h0 h then h :: E2 h0 ss k (B4 h ss)else[]).length≤k+1
    split
    ·rw[JP];have:=ih (B4 h ss);omega
    ·exact KU _
 have e:=bU ls 0
 unfold e7
 cases es:N3 0 ls with
 | nil=>exact KU _
 | cons s r =>
  rw[es]at e
  show(E2 _ _ _ _).length+1≤_
  have:=this (A0 (s :: r) s) (s :: r) (s :: r).length (B4 (A0 (s :: r) s) (s :: r))
  omega
theorem cH{ds:List D}{n:Nat}:DL.J6 ds (some (n:Int)) none=ds.drop n:=by
 unfold DL.J6 HT.sIx
 have h1:¬ ((n:Int)<0):=by omega
 simp only[h1,if_false]
 rw[show((n:Int)).toNat=n from rfl]
 by_cases h:n≤ds.length
 ·rw[LW h,KN (by rw[Kr];exact JY _)]
 ·rw[NX (by omega),MV (JY _),MV (by omega)]
  simp
theorem DM{x:D}{xs:List D}:DL.J6 (x :: xs) (some 1) none=xs:=by
 have:=cH (ds:=x :: xs) (n:=1)
 exact this
theorem sj:∀(a b:List Sd),P2 (a.map sdD) (b.map sdD)=(a.zip b).map fun ab=>D.tup [sdD ab.1,sdD ab.2]
 | [],_=>rfl
 | _ :: _,[]=>rfl
 | x :: a,y :: b=>by
  show D.tup [sdD x,sdD y] :: P2 (a.map sdD) (b.map sdD)=_
  rw[sj a b];rfl
theorem kM(h0:Sd)(l:List Sd):(A6 h0 l).length=l.length+1:=by
 unfold A6
 rw[JD,KO,JP,JQ]
 simp
end GM
namespace GM
open PySem PySem.Spec L2 DL
open RM (sz)
noncomputable def loS(l:T3)(g:Rat):Rat:=F9 l g - B1 l
noncomputable def hiS(l:T3)(g:Rat):Rat:=F9 l g+B1 l
noncomputable def i7(s:Rat)(l:T3)(g:Rat):Rat:=s*F9 l g - B1 l
theorem eK(l:T3)(g:Rat):i7 1 l g=loS l g:=by unfold i7 loS;grind
theorem eL(l:T3)(g:Rat):i7 (-1) l g = -hiS l g:=by unfold i7 hiS;grind
theorem V0{a q:Rat}(h:q≠0):a / q*q=a:=KC h
theorem L9{l:T3}(hr:0<l.2.2)(hq:l.2.1≠0)(g u:Rat):fj l g u=true↔loS l g≤u∧u≤hiS l g:=by
 rw[A1]
 unfold loS hiS F9 B1
 have e1:=V0 (a:=l.1*g) hq
 have e2:=V0 (a:=l.2.2) hq
 generalize l.1*g / l.2.1=P at *
 generalize l.2.2 / l.2.1=T at *
 generalize l.2.1=q at *
 generalize l.2.2=r at *
 generalize l.1*g=w at *
 subst e1
 have hT:r=T*q:=e2.symm
 rw[hT]at hr ⊢
 rcases tot 0 q with z|z
 ·have q0:0<q:=by grind
  have t0:0≤T:=j9 q0 (by grind)
  have a:u7 T=T:=by unfold u7;rw[if_pos t0]
  rw[a]
  have k1:=F4 (c:=q) (x:=P+u) (r:=T) q0
  have k2:=F4 (c:=q) (x:=-(P+u)) (r:=T) q0
  constructor
  ·rintro⟨h1,h2⟩
   have:=k1.mp (by grind)
   have:=k2.mp (by grind)
   exact⟨by grind,by grind⟩
  ·rintro⟨h1,h2⟩
   have:=k1.mpr (by grind)
   have:=k2.mpr (by grind)
   exact⟨by grind,by grind⟩
 ·have q0:0 < -q:=by grind
  have t0:0 ≤ -T:=j9 q0 (by grind)
  have a:u7 T = -T:=by
   unfold u7
   by_cases h:0≤T
   ·rw[if_pos h];grind
   ·rw[if_neg h]
  rw[a]
  have k1:=F4 (c:=-q) (x:=P+u) (r:=-T) q0
  have k2:=F4 (c:=-q) (x:=-(P+u)) (r:=-T) q0
  constructor
  ·rintro⟨h1,h2⟩
   have:=k1.mp (by grind)
   have:=k2.mp (by grind)
   exact⟨by grind,by grind⟩
  ·rintro⟨h1,h2⟩
   have:=k1.mpr (by grind)
   have:=k2.mpr (by grind)
   exact⟨by grind,by grind⟩
theorem ax{l:T3}(hq:l.2.1=0)(g u:Rat):fj l g u=true ↔ ¬ l.2.2<u7 (l.1*g):=by
 unfold fj
 rw[hq,decide_eq_true_iff,NU,MC]
 constructor<;>intro h<;>grind
theorem N0{g:Rat}:∀(ls:List T3) (st:Option (Rat × Rat)),(A8 g ls st=none∧∃ l∈ls,l.2.1=0∧l.2.2<u7 (l.1*g)) ∨
  ((∀ l∈ls,l.2.1=0→¬ l.2.2<u7 (l.1*g))∧((A8 g ls st=some none∧st=none∧∀ l∈ls,l.2.1=0) ∨
   ∃ lo hi,A8 g ls st=some (some (lo,hi))∧(∀ l∈ls,l.2.1≠0→loS l g≤lo∧hi≤hiS l g)∧(∀ a b,st=some (a,b)→a≤lo∧hi≤b)∧((∃ l∈ls,l.2.1≠0∧lo=loS l g) ∨ ∃ b,st=some (lo,b))∧((∃ l∈ls,l.2.1≠0∧hi=hiS l g) ∨ ∃ a,st=some (a,hi))))
 | [],st=>by
  right
  refine⟨fun _ h=>(nomatch h),?_⟩
  rcases st with _|⟨a,b⟩
  ·exact .inl ⟨rfl,rfl,fun _ h=>nomatch h⟩
  ·exact .inr ⟨a,b,rfl,fun _ h=>(nomatch h),fun a' b' e=>by cases e;exact⟨Kq,Kq⟩,.inr ⟨b,rfl⟩,.inr ⟨a,rfl⟩⟩
 | l :: r,st=>by
  by_cases hq:l.2.1=0
  ·by_cases hr:l.2.2<u7 (l.1*g)
   ·left
    refine⟨?_,l,JH,hq,hr⟩
    rw[O6,if_pos hq,if_pos hr]
   ·have ec:A8 g (l :: r) st=A8 g r st:=by rw[O6,if_pos hq,if_neg hr]
    rw[ec]
    rcases N0 r st with⟨h1,m,hm,h2⟩|⟨h0,h⟩
    ·exact .inl ⟨h1,m,JF _ hm,h2⟩
    ·right
     refine⟨fun m hm=>?_,?_⟩
     ·rcases JJ.mp hm with rfl|hm
      ·exact fun _=>hr
      ·exact h0 m hm
     ·rcases h with⟨h1,h2,h3⟩|⟨lo,hi,h1,h2,h3,h4,h5⟩
      ·left
       refine⟨h1,h2,fun m hm=>?_⟩
       rcases JJ.mp hm with rfl|hm
       ·exact hq
       ·exact h3 m hm
      ·right
       refine⟨lo,hi,h1,fun m hm hn=>?_,h3,h4.imp (fun⟨m,hm,z⟩=>⟨m,JF _ hm,z⟩) id,h5.imp (fun⟨m,hm,z⟩=>⟨m,JF _ hm,z⟩) id⟩
       rcases JJ.mp hm with rfl|hm
       ·exact absurd hq hn
       ·exact h2 m hm hn
  ·have ec:A8 g (l :: r) st=A8 g r (stp st (loS l g) (hiS l g)):=by rw[O6,if_neg hq];rfl
   rw[ec]
   have hs:∃ a b,stp st (loS l g) (hiS l g)=some (a,b)∧loS l g≤a∧b≤hiS l g∧(∀ a' b',st=some (a',b')→a'≤a∧b≤b')∧(a=loS l g ∨ ∃ b',st=some (a,b'))∧(b=hiS l g ∨ ∃ a',st=some (a',b)):=by
    rcases st with _|⟨a,b⟩
    ·exact⟨_,_,rfl,Kq,Kq,fun _ _ z=>(nomatch z),.inl rfl,.inl rfl⟩
    ·refine⟨_,_,rfl,?_,?_,fun a' b' z=>?_,?_,?_⟩
     ·show loS l g≤if a<loS l g then loS l g else a
      split<;>grind
     ·show(if hiS l g<b then hiS l g else b)≤hiS l g
      split<;>grind
     ·cases z
      constructor
      ·show a≤if a<loS l g then loS l g else a
       split<;>grind
      ·show(if hiS l g<b then hiS l g else b)≤b
       split<;>grind
     ·show(if a<loS l g then loS l g else a)=loS l g ∨ ∃ b',some (a,b)=some (if a<loS l g then loS l g else a,b')
      split
      ·exact .inl rfl
      ·exact .inr ⟨b,rfl⟩
     ·show(if hiS l g<b then hiS l g else b)=hiS l g ∨ ∃ a',some (a,b)=some (a',if hiS l g<b then hiS l g else b)
      split
      ·exact .inl rfl
      ·exact .inr ⟨a,rfl⟩
   obtain⟨a,b,es,k1,k2,k3,k4,k5⟩:=hs
   rw[es]
   rcases N0 r (some (a,b))with⟨h1,m,hm,h2⟩|⟨h0,h⟩
   ·exact .inl ⟨h1,m,JF _ hm,h2⟩
   ·right
    refine⟨fun m hm=>?_,?_⟩
    ·rcases JJ.mp hm with rfl|hm
     ·exact fun z=>absurd z hq
     ·exact h0 m hm
    ·rcases h with⟨h1,h2,h3⟩|⟨lo,hi,h1,h2,h3,h4,h5⟩
     ·cases h2
     ·right
      obtain⟨q1,q2⟩:=h3 a b rfl
      refine⟨lo,hi,h1,fun m hm hn=>?_,fun a' b' z=>?_,?_,?_⟩
      ·rcases JJ.mp hm with rfl|hm
       ·exact⟨by grind,by grind⟩
       ·exact h2 m hm hn
      ·obtain⟨z1,z2⟩:=k3 a' b' z
       exact⟨by grind,by grind⟩
      ·rcases h4 with⟨m,hm,z⟩|⟨b',z⟩
       ·exact .inl ⟨m,JF _ hm,z⟩
       ·cases z
        rcases k4 with k4|k4
        ·exact .inl ⟨l,JH,hq,k4⟩
        ·exact .inr k4
      ·rcases h5 with⟨m,hm,z⟩|⟨a',z⟩
       ·exact .inl ⟨m,JF _ hm,z⟩
       ·cases z
        rcases k5 with k5|k5
        ·exact .inl ⟨l,JH,hq,k5⟩
        ·exact .inr k5
structure q9(ls:List T3)(g lo hi:Rat):Prop where
 eq:A8 g ls none=some (some (lo,hi))
 le:lo≤hi
 ub:∀ l∈ls,l.2.1≠0→loS l g≤lo∧hi≤hiS l g
 lo:∃ l∈ls,l.2.1≠0∧lo=loS l g
 hi:∃ l∈ls,l.2.1≠0∧hi=hiS l g
theorem q9.d{ls:List T3}{g lo hi:Rat}(h:q9 ls g lo hi):qI (A8 g ls none) = .tup [d7 lo,d7 hi]:=by
 rw[h.eq]
 show(if hi<lo then _ else _)=_
 rw[if_neg (by have:=h.le;grind)]
theorem aF{ls:List T3}(hok:∀ l∈ls,LineOk l)(hq:∃ l∈ls,l.2.1≠0){g u:Rat}(hK:j8 ls g u=true):∃ lo hi,q9 ls g lo hi∧lo≤u∧u≤hi:=by
 unfold j8 at hK
 rw[Li]at hK
 rcases N0 (g:=g) ls none with⟨_,l,hl,h1,h2⟩|⟨h0,h⟩
 ·exact absurd h2 ((ax h1 g u).mp (hK l hl))
 ·rcases h with⟨_,_,h3⟩|⟨lo,hi,h1,h2,_,h4,h5⟩
  ·obtain⟨l,hl,hn⟩:=hq
   exact absurd (h3 l hl) hn
  ·have h4:∃ l∈ls,l.2.1≠0∧lo=loS l g:=h4.resolve_right fun⟨_,z⟩=>nomatch z
   have h5:∃ l∈ls,l.2.1≠0∧hi=hiS l g:=h5.resolve_right fun⟨_,z⟩=>nomatch z
   have a1:lo≤u:=by
    obtain⟨l,hl,hn,rfl⟩:=h4
    exact((L9 (hok l hl).pos hn g u).mp (hK l hl)).1
   have a2:u≤hi:=by
    obtain⟨l,hl,hn,rfl⟩:=h5
    exact((L9 (hok l hl).pos hn g u).mp (hK l hl)).2
   exact⟨lo,hi,⟨h1,by grind,h2,h4,h5⟩,a1,a2⟩
theorem D2{ls:List T3}(hok:∀ l∈ls,LineOk l){g u lo hi:Rat}(h:A8 g ls none=some (some (lo,hi)))(h1:lo≤u)(h2:u≤hi):j8 ls g u=true:=by
 unfold j8
 rw[Li]
 rcases N0 (g:=g) ls none with⟨e,_⟩|⟨h0,h'⟩
 ·rw[h]at e;cases e
 ·rcases h' with⟨e,_⟩|⟨lo',hi',e,k,_⟩
  ·rw[h]at e;cases e
  ·rw[h]at e
   cases e
   intro l hl
   by_cases hq:l.2.1=0
   ·exact(ax hq g u).mpr (h0 l hl hq)
   ·obtain⟨k1,k2⟩:=k l hl hq
    exact(L9 (hok l hl).pos hq g u).mpr ⟨by grind,by grind⟩
theorem zQ{ls:List T3}(hok:∀ l∈ls,LineOk l)(hq:∃ l∈ls,l.2.1≠0){g:Rat}(hK:∀ u,j8 ls g u=false):qI (A8 g ls none) = .non:=by
 rcases N0 (g:=g) ls none with⟨e,_⟩|⟨h0,h'⟩
 ·rw[e];rfl
 ·rcases h' with⟨_,_,h3⟩|⟨lo,hi,e,_⟩
  ·obtain⟨l,hl,hn⟩:=hq
   exact absurd (h3 l hl) hn
  ·rw[e]
   show(if hi<lo then _ else _)=_
   by_cases z:hi<lo
   ·rw[if_pos z]
   ·have:=hK lo
    rw[D2 hok e Kq (by grind)]at this
    cases this
theorem gv{ls:List T3}{a b u v t:Rat}(t0:0≤t)(t1:t≤1)(h1:j8 ls a u=true)(h2:j8 ls b v=true):j8 ls (a+(b - a)*t) (u+(v - u)*t)=true:=by
 unfold j8 at *
 rw[Li]at *
 intro l hl
 obtain⟨a1,a2⟩:=(A1 l a u).mp (h1 l hl)
 obtain⟨b1,b2⟩:=(A1 l b v).mp (h2 l hl)
 rw[A1]
 have m1:0≤(1 - t)*(l.2.2 - (l.1*a+l.2.1*u)):=JM (by grind) (by grind)
 have m2:0≤t*(l.2.2 - (l.1*b+l.2.1*v)):=JM t0 (by grind)
 have m3:0≤(1 - t)*(l.2.2+(l.1*a+l.2.1*u)):=JM (by grind) (by grind)
 have m4:0≤t*(l.2.2+(l.1*b+l.2.1*v)):=JM t0 (by grind)
 constructor<;>grind
theorem lK{l:T3}(hq:l.2.1≠0)(hr:0<l.2.2){s:Rat}(hs:s=1∨s = -1){g u:Rat}(h:s*u=i7 s l g)(j:Nat):∃ a:Sd,(a=f7 l j∨a=j7 (f7 l j))∧dt (tri a) (g,u)=(tri a).2.2:=by
 have e1:=V0 (a:=l.1*g) hq
 have e2:=V0 (a:=l.2.2) hq
 have cp:=C5 l
 have key:l.1*g+l.2.1*u=l.2.2∨l.1*g+l.2.1*u = -l.2.2:=by
  unfold i7 F9 B1 u7 at h
  generalize l.1*g / l.2.1=P at *
  generalize l.2.2 / l.2.1=T at *
  rw[← e1,← e2]
  rcases hs with rfl|rfl
  ·split at h
   ·right;have:u = -P - T:=by grind
    rw[this];grind
   ·left;have:u = -P+T:=by grind
    rw[this];grind
  ·split at h
   ·left;have:u = -P+T:=by grind
    rw[this];grind
   ·right;have:u = -P - T:=by grind
    rw[this];grind
 rcases key with k|k
 ·refine⟨f7 l j,.inl rfl,?_⟩
  rw[aC,B0]
  show(l.1*g+l.2.1*u)*_=l.2.2*_
  rw[k]
 ·refine⟨j7 (f7 l j),.inr rfl,?_⟩
  rw[nB]
  show -dt (tri (f7 l j)) (g,u)=(tri (f7 l j)).2.2
  rw[aC,B0]
  show -((l.1*g+l.2.1*u)*_)=l.2.2*_
  rw[k];grind
theorem kj{a b:Sd}{l m:T3}{i j:Nat}(ha:a=f7 l i∨a=j7 (f7 l i))(hb:b=f7 m j∨b=j7 (f7 m j))(h:l.1*m.2.1≠m.1*l.2.1):ve (tri a) (tri b)≠0:=by
 have e:=di l m i j
 have c:=u6 (KI (C5 l) (C5 m))
 have ne:ve (tri (f7 l i)) (tri (f7 m j))≠0:=by
  rw[e]
  intro z
  generalize (cbL l:Rat)*(cbL m:Rat)=k at *
  generalize l.1*m.2.1=x at *
  generalize m.1*l.2.1=y at *
  grind
 have n1:∀ x y:T3,ve (ng x) y = -ve x y:=fun x y=>by unfold ve ng;grind
 have n2:∀ x y:T3,ve x (ng y) = -ve x y:=fun x y=>by unfold ve ng;grind
 rcases ha with rfl|rfl<;>rcases hb with rfl|rfl
 ·exact ne
 ·rw[y7,n2];intro z;exact ne (by grind)
 ·rw[y7,n1];intro z;exact ne (by grind)
 ·rw[y7,y7,n1,n2];intro z;exact ne (by grind)
theorem rT{ls:List T3}{h0:T3}{r:List T3}(R:Rim ((e7 ls).map tri) h0 r){l m:T3}(hl:l∈ls)(hm:m∈ls)(hok:∀ l∈ls,LineOk l)(ql:l.2.1≠0)(qm:m.2.1≠0){s:Rat}(hs:s=1∨s = -1){g u:Rat}(h1:s*u=i7 s l g)(h2:s*u=i7 s m g)(hv:l.1*m.2.1≠m.1*l.2.1)(hK:j8 ls g u=true):(g,u)∈O5 h0 r:=by
 obtain⟨i,m1,m2⟩:=S6 (i:=0) hl
 obtain⟨j,m3,m4⟩:=S6 (i:=0) hm
 obtain⟨a,ha,ta⟩:=lK ql (hok l hl).pos hs h1 i
 obtain⟨b,hb,tb⟩:=lK qm (hok m hm).pos hs h2 j
 have ma:tri a∈(e7 ls).map tri:=JK.mpr ⟨a,by rcases ha with rfl|rfl<;>assumption,rfl⟩
 have mb:tri b∈(e7 ls).map tri:=JK.mpr ⟨b,by rcases hb with rfl|rfl<;>assumption,rfl⟩
 have ne:=kj ha hb hv
 have sup:=(E7 ls (g,u)).mpr hK
 rcases tot 0 (ve (tri a) (tri b))with z|z
 ·exact R.corner sup ma mb (by grind) ta tb
 ·have e:ve (tri b) (tri a) = -ve (tri a) (tri b):=by unfold ve;grind
  exact R.corner sup mb ma (by grind) tb ta
theorem eJ{α:Type}(f:α→Rat):∀(l:List α),l≠[]→∃ x∈l,∀ y∈l,f x≤f y
 | [],h=>absurd rfl h
 | [x],_=>⟨x,JH,fun y hy=>by rw[Kl.mp hy];exact Kq⟩
 | x :: y :: r,_=>by
  obtain⟨m,hm,h⟩:=eJ f (y :: r) (fun z=>nomatch z)
  by_cases c:f x≤f m
  ·refine⟨x,JH,fun z hz=>?_⟩
   rcases JJ.mp hz with rfl|hz
   ·exact Kq
   ·have:=h z hz;grind
  ·refine⟨m,JF _ hm,fun z hz=>?_⟩
   rcases JJ.mp hz with rfl|hz
   ·grind
   ·exact h z hz
theorem aB(s:Rat)(l:T3)(a b t:Rat):i7 s l (a+(b - a)*t)=i7 s l a+(i7 s l b - i7 s l a)*t:=by
 unfold i7 F9
 have:l.1*(a+(b - a)*t) / l.2.1=l.1*a / l.2.1+(l.1*b / l.2.1 - l.1*a / l.2.1)*t:=by
  rw[Mw,Mw,Mw];grind
 rw[this];grind
theorem rS{s:Rat}(hs:s=1∨s = -1){l m:T3}(ql:l.2.1≠0)(qm:m.2.1≠0)(h:l.1*m.2.1=m.1*l.2.1)(a b:Rat):i7 s l b - i7 s l a=i7 s m b - i7 s m a:=by
 unfold i7 F9
 have e:∀ g:Rat,l.1*g / l.2.1=m.1*g / m.2.1:=fun g=>by
  have k1:=V0 (a:=l.1*g) ql
  have k2:=V0 (a:=m.1*g) qm
  have k3:(l.1*g / l.2.1 - m.1*g / m.2.1)*(l.2.1*m.2.1)=0:=by
   have:(l.1*g / l.2.1 - m.1*g / m.2.1)*(l.2.1*m.2.1)=(l.1*g / l.2.1*l.2.1)*m.2.1 - (m.1*g / m.2.1*m.2.1)*l.2.1:=by grind
   rw[this,k1,k2];grind
  have k4:l.2.1*m.2.1≠0:=by grind
  grind
 rw[e a,e b];grind
theorem vk{ls:List T3}{h0:T3}{r:List T3}(R:Rim ((e7 ls).map tri) h0 r)(hok:∀ l∈ls,LineOk l){s:Rat}(hs:s=1∨s = -1){a b ua ub:Rat}(Ka:j8 ls a ua=true)(Kb:j8 ls b ub=true){l:T3}(hl:l∈ls)(ql:l.2.1≠0)
  (top:∀ m∈ls,m.2.1≠0→i7 s m a≤i7 s l a) {m:T3} (hm:m∈ls) (qm:m.2.1≠0) (hp:i7 s l b<i7 s m b):∃ t u,0≤t∧t<1∧(a+(b - a)*t,u)∈O5 h0 r:=by
 let P:=ls.filter fun k=>decide (k.2.1≠0) && decide (i7 s l b<i7 s k b)
 have memP:∀ k,k∈P↔k∈ls∧k.2.1≠0∧i7 s l b<i7 s k b:=fun k=>by
  rw[Mo,LG,decide_eq_true_eq,decide_eq_true_eq]
 let tk:T3→Rat:=fun k=>(i7 s l a - i7 s k a) / ((i7 s l a - i7 s k a)+(i7 s k b - i7 s l b))
 obtain⟨j,hj,hmin⟩:=eJ tk P (List.ne_nil_of_mem ((memP m).mpr ⟨hm,qm,hp⟩))
 have tkf:∀ k∈P,0<(i7 s l a - i7 s k a)+(i7 s k b - i7 s l b)∧tk k*((i7 s l a - i7 s k a)+(i7 s k b - i7 s l b))=i7 s l a - i7 s k a:=fun k hk=>by
  obtain⟨k1,k2,k3⟩:=(memP k).mp hk
  have:=top k k1 k2
  have d:0<(i7 s l a - i7 s k a)+(i7 s k b - i7 s l b):=by grind
  exact⟨d,V0 (u6 d)⟩
 obtain⟨j1,j2,j3⟩:=(memP j).mp hj
 obtain⟨dj,ej⟩:=tkf j hj
 have tj:=top j j1 j2
 have t0:0≤tk j:=j9 dj (by rw[Mb,ej];grind)
 have t1:tk j<1:=by
  have:0<((i7 s l a - i7 s j a)+(i7 s j b - i7 s l b))*(1 - tk j):=by grind
  rcases tot (1 - tk j) 0 with z|z
  ·have:=JM (E4 dj) (show 0 ≤ -(1 - tk j)by grind)
   grind
  ·by_cases e:1 - tk j=0
   ·rw[e]at this;grind
   ·grind
 refine⟨tk j,s*i7 s l (a+(b - a)*tk j),t0,t1,?_⟩
 have ss:s*s=1:=by rcases hs with rfl|rfl<;>grind
 have hu:s*(s*i7 s l (a+(b - a)*tk j))=i7 s l (a+(b - a)*tk j):=by
  rw[← ND,ss,Rat.one_mul]
 have eq:i7 s j (a+(b - a)*tk j)=i7 s l (a+(b - a)*tk j):=by
  rw[aB,aB];grind
 have dom:∀ k∈ls,k.2.1≠0→i7 s k (a+(b - a)*tk j)≤i7 s l (a+(b - a)*tk j):=fun k hk qk=>by
  rw[aB,aB]
  have ta:=top k hk qk
  by_cases c:i7 s l b<i7 s k b
  ·have hkP:=(memP k).mpr ⟨hk,qk,c⟩
   have:=hmin k hkP
   obtain⟨dk,ek⟩:=tkf k hkP
   have:=JM (show 0≤tk k - tk j by grind) (E4 dk)
   grind
  ·have n1:=JM (show 0≤1 - tk j by grind) (show 0≤i7 s l a - i7 s k a by grind)
   have n2:=JM t0 (show 0≤i7 s l b - i7 s k b by grind)
   grind
 have Kc:=gv t0 (by grind) Ka Kb
 have hv:l.1*j.2.1≠j.1*l.2.1:=fun z=>by
  have:=rS hs ql j2 z a b
  have:=top j j1 j2
  grind
 refine rT R hl j1 hok ql j2 hs hu (by rw[hu,eq]) hv ?_
 generalize hc:a+(b - a)*tk j=c at *
 generalize ua+(ub - ua)*tk j=uc at *
 unfold j8 at Kc ⊢
 rw[Li]at Kc ⊢
 intro k hk
 by_cases qk:k.2.1=0
 ·exact(ax qk c _).mpr ((ax qk c uc).mp (Kc k hk))
 ·obtain⟨c1,c2⟩:=(L9 (hok k hk).pos qk c uc).mp (Kc k hk)
  obtain⟨l1,l2⟩:=(L9 (hok l hl).pos ql c uc).mp (Kc l hl)
  have d:=dom k hk qk
  rw[L9 (hok k hk).pos qk]
  rcases hs with rfl|rfl
  ·rw[eK,eK]at d
   rw[eK]
   exact⟨by grind,by grind⟩
  ·rw[eL,eL]at d
   rw[eL]
   exact⟨by grind,by grind⟩
theorem js{ls:List T3}{g lo hi:Rat}(h:q9 ls g lo hi){s:Rat}(hs:s=1∨s = -1):∃ T,(T=if s=1 then lo else -hi)∧(∀ m∈ls,m.2.1≠0→i7 s m g≤T)∧∃ l∈ls,l.2.1≠0∧i7 s l g=T:=by
 rcases hs with rfl|rfl
 ·refine⟨lo,by rw[if_pos rfl],fun m hm hn=>by rw[eK];exact(h.ub m hm hn).1,?_⟩
  obtain⟨l,hl,hn,e⟩:=h.lo
  exact⟨l,hl,hn,by rw[eK,e]⟩
 ·refine⟨-hi,by rw[if_neg (by decide)],fun m hm hn=>by rw[eL];have:=(h.ub m hm hn).2;grind,?_⟩
  obtain⟨l,hl,hn,e⟩:=h.hi
  exact⟨l,hl,hn,by rw[eL,e]⟩
theorem pX{ls:List T3}{h0:T3}{r:List T3}(R:Rim ((e7 ls).map tri) h0 r)(hok:∀ l∈ls,LineOk l){s:Rat}(hs:s=1∨s = -1){a b lo1 hi1 lo2 hi2 lo hi:Rat}(hab:a<b)(ca:q9 ls a lo1 hi1)(cb:q9 ls b lo2 hi2)(cm:q9 ls (a+(b - a)*(1 / 2)) lo hi)
  (no:∀ z∈O5 h0 r,¬ (a<z.1∧z.1<b)):(if s=1 then lo else -hi)=(if s=1 then lo1 else -hi1)*(1 / 2)+(if s=1 then lo2 else -hi2)*(1 / 2):=by
 obtain⟨T,eT,hT,l,hl,ql,el⟩:=js cm hs
 obtain⟨T1,eT1,hT1,l1,hl1,ql1,el1⟩:=js ca hs
 obtain⟨T2,eT2,hT2,l2,hl2,ql2,el2⟩:=js cb hs
 have Km:=D2 hok cm.eq Kq cm.le
 have Ka:=D2 hok ca.eq Kq ca.le
 have Kb:=D2 hok cb.eq Kq cb.le
 have top:∀ m∈ls,m.2.1≠0→i7 s m (a+(b - a)*(1 / 2))≤i7 s l (a+(b - a)*(1 / 2)):=fun m hm qm=>by rw[el];exact hT m hm qm
 have e1:i7 s l a=T1:=by
  have u1:=hT1 l hl ql
  by_cases c:i7 s l a<T1
  ·rw[← el1]at c
   obtain⟨t,u,t0,t1,hz⟩:=vk R hok hs Km Ka hl ql top hl1 ql1 c
   refine absurd ?_ (no _ hz)
   have m1:=JM t0 (show 0≤b - a by grind)
   have m2:=KI (show 0<1 - t by grind) (show 0<b - a by grind)
   exact⟨by show a<_;grind,by show _<b;grind⟩
  ·grind
 have e2:i7 s l b=T2:=by
  have u2:=hT2 l hl ql
  by_cases c:i7 s l b<T2
  ·rw[← el2]at c
   obtain⟨t,u,t0,t1,hz⟩:=vk R hok hs Km Kb hl ql top hl2 ql2 c
   refine absurd ?_ (no _ hz)
   have m1:=JM t0 (show 0≤b - a by grind)
   have m2:=KI (show 0<1 - t by grind) (show 0<b - a by grind)
   exact⟨by show a<_;grind,by show _<b;grind⟩
  ·grind
 rw[← eT,← eT1,← eT2,← el,aB,e1,e2]
 grind
theorem vI{ls:List T3}{h0:T3}{r:List T3}(R:Rim ((e7 ls).map tri) h0 r)(hok:∀ l∈ls,LineOk l)(hq:∃ l∈ls,l.2.1≠0){a b lo1 hi1 lo2 hi2:Rat}(hab:a<b)(ca:q9 ls a lo1 hi1)(cb:q9 ls b lo2 hi2)
  (no:∀ z∈O5 h0 r,¬ (a<z.1∧z.1<b)):q9 ls ((a+b)*(1 / 2)) ((lo1+lo2)*(1 / 2)) ((hi1+hi2)*(1 / 2)):=by
 have Ka:=D2 hok ca.eq Kq ca.le
 have Kb:=D2 hok cb.eq Kq cb.le
 have Km:=gv (t:=1 / 2) (by grind) (by grind) Ka Kb
 obtain⟨lo,hi,cm,_,_⟩:=aF hok hq Km
 have e1:=pX R hok (.inl rfl) hab ca cb cm no
 have e2:=pX R hok (.inr rfl) hab ca cb cm no
 rw[if_pos rfl,if_pos rfl,if_pos rfl]at e1
 rw[if_neg (by decide),if_neg (by decide),if_neg (by decide)]at e2
 have em:a+(b - a)*(1 / 2)=(a+b)*(1 / 2):=by grind
 have el:lo=(lo1+lo2)*(1 / 2):=by grind
 have eh:hi=(hi1+hi2)*(1 / 2):=by grind
 rw[em,el,eh]at cm
 exact cm
theorem Rim.tight{ss:List T3}{h0:T3}{l:List T3}(R:Rim ss h0 l){z:Rat × Rat}(h:z∈O5 h0 l):Sup ss z∧∃ a b,a∈ss∧b∈ss∧ve a b≠0∧dt a z=a.2.2∧dt b z=b.2.2:=by
 rcases Kf.mp h with h|h
 ·obtain⟨ab,hab,rfl⟩:=JK.mp h
  obtain⟨q1,q2,q3,q4⟩:=R.all ab hab
  exact⟨q4,_,_,q1,q2,u6 q3,fe (u6 q3),dQ (u6 q3)⟩
 ·obtain⟨ab,hab,rfl⟩:=JK.mp h
  obtain⟨q1,q2,q3,q4⟩:=R.all ab hab
  have e:∀(a:T3) z,dt (ng a) (ngZ z)=dt a z:=fun a z=>by unfold dt ng ngZ;grind
  refine⟨aM R.sy q4,_,_,R.sy _ q1,R.sy _ q2,?_,by rw[e,fe (u6 q3)];rfl,by rw[e,dQ (u6 q3)];rfl⟩
  have:ve (ng ab.1) (ng ab.2)=ve ab.1 ab.2:=by unfold ve ng;grind
  rw[this];exact u6 q3
theorem Rim.neg{ss:List T3}{h0:T3}{l:List T3}{z:Rat × Rat}(h:z∈O5 h0 l):ngZ z∈O5 h0 l:=by
 have nn:∀ z:Rat × Rat,ngZ (ngZ z)=z:=fun z=>by
  unfold ngZ;exact Prod.ext (by show - -z.1=z.1;grind) (by show - -z.2=z.2;grind)
 rcases Kf.mp h with h|h
 ·obtain⟨ab,hab,rfl⟩:=JK.mp h
  exact Kh _ (JK.mpr ⟨ab,hab,rfl⟩)
 ·obtain⟨ab,hab,rfl⟩:=JK.mp h
  rw[nn]
  exact KZ _ (JK.mpr ⟨ab,hab,rfl⟩)
theorem qx{a b:T3}{h1 h2 h3 x1 x2 x3:Rat}(l1:h1<h2)(l2:h2<h3)(a1:dt a (h1,x1)≤a.2.2)(a3:dt a (h3,x3)≤a.2.2)(b1:dt b (h1,x1)≤b.2.2)(b3:dt b (h3,x3)≤b.2.2)(ta:dt a (h2,x2)=a.2.2)(tb:dt b (h2,x2)=b.2.2)
  (e:(x2 - x1) / (h2 - h1)=(x3 - x2) / (h3 - h2)):ve a b=0:=by
 have d1:0<h2 - h1:=by grind
 have d2:0<h3 - h2:=by grind
 have k1:=V0 (a:=x2 - x1) (u6 d1)
 have k2:=V0 (a:=x3 - x2) (u6 d2)
 rw[e]at k1
 generalize (x3 - x2) / (h3 - h2)=w at *
 have one:∀ c:T3,dt c (h1,x1)≤c.2.2→dt c (h3,x3)≤c.2.2→dt c (h2,x2)=c.2.2→c.1+c.2.1*w=0:=fun c c1 c3 c2=>by
  unfold dt at c1 c2 c3
  have c1:c.1*h1+c.2.1*x1≤c.2.2:=c1
  have c3:c.1*h3+c.2.1*x3≤c.2.2:=c3
  have c2:c.1*h2+c.2.1*x2=c.2.2:=c2
  have e1:x1=x2 - w*(h2 - h1):=by grind
  have e3:x3=x2+w*(h3 - h2):=by grind
  rw[e1]at c1
  rw[e3]at c3
  have p1:0≤(h2 - h1)*(c.1+c.2.1*w):=by grind
  have p3:0≤(h3 - h2) * -(c.1+c.2.1*w):=by grind
  have:=j9 d1 p1
  have:=j9 d2 p3
  grind
 have oa:=one a a1 a3 ta
 have ob:=one b b1 b3 tb
 unfold ve
 have:a.1 = -(a.2.1*w):=by grind
 have:b.1 = -(b.2.1*w):=by grind
 grind
theorem bent{ls:List T3}{h0:T3}{r:List T3}(R:Rim ((e7 ls).map tri) h0 r)(hok:∀ l∈ls,LineOk l){h1 h2 h3 lo1 hi1 lo2 hi2 lo3 hi3 u:Rat}(l1:h1<h2)(l2:h2<h3)(c1:q9 ls h1 lo1 hi1)(c2:q9 ls h2 lo2 hi2)(c3:q9 ls h3 lo3 hi3)(hc:(h2,u)∈O5 h0 r) :
  ¬ ((lo2 - lo1) / (h2 - h1)=(lo3 - lo2) / (h3 - h2)∧(hi2 - hi1) / (h2 - h1)=(hi3 - hi2) / (h3 - h2)):=by
 rintro⟨e1,e2⟩
 obtain⟨sup,a,b,ha,hb,hv,ta,tb⟩:=R.tight hc
 have sp:∀{g lo hi x:Rat},q9 ls g lo hi→lo≤x→x≤hi→Sup ((e7 ls).map tri) (g,x):=fun c z1 z2=>(E7 ls (_,_)).mpr (D2 hok c.eq z1 z2)
 obtain⟨lo,hi,c,q1,q2⟩:=aF hok (by obtain⟨l,hl,hn,_⟩:=c2.lo;exact⟨l,hl,hn⟩) ((E7 ls (h2,u)).mp sup)
 have ee:some (some (lo,hi))=some (some (lo2,hi2)):=by rw[← c.eq,← c2.eq]
 injection ee with ee
 injection ee with ee
 injection ee with ee1 ee2
 subst ee1;subst ee2
 have Lo1:=sp c1 Kq c1.le
 have Lo2:=sp c2 Kq c2.le
 have Lo3:=sp c3 Kq c3.le
 have Hi1:=sp c1 c1.le Kq
 have Hi2:=sp c2 c2.le Kq
 have Hi3:=sp c3 c3.le Kq
 have pa:=R.pos a ha
 rcases tot 0 a.2.1 with z|z
 ·by_cases z0:a.2.1=0
  ·have k1:=Lo1 a ha
   have k3:=Lo3 a ha
   unfold dt at k1 k3 ta
   have k1:a.1*h1+a.2.1*lo1≤a.2.2:=k1
   have k3:a.1*h3+a.2.1*lo3≤a.2.2:=k3
   have ta:a.1*h2+a.2.1*u=a.2.2:=ta
   rw[z0]at k1 k3 ta
   have p1:0≤(h2 - h1)*a.1:=by grind
   have p3:0≤(h3 - h2) * -a.1:=by grind
   have:=j9 (by grind) p1
   have:=j9 (by grind) p3
   have:a.1=0:=by grind
   rw[this]at ta
   grind
  ·have k:=Hi2 a ha
   have eu:u=hi:=by
    unfold dt at k ta
    have k:a.1*h2+a.2.1*hi≤a.2.2:=k
    have ta:a.1*h2+a.2.1*u=a.2.2:=ta
    have:0≤a.2.1*(u - hi):=by grind
    have:=j9 (by grind) this
    grind
   subst eu
   exact hv (qx l1 l2 (Hi1 a ha) (Hi3 a ha) (Hi1 b hb) (Hi3 b hb) ta tb e2)
 ·by_cases z0:a.2.1=0
  ·have k1:=Lo1 a ha
   have k3:=Lo3 a ha
   unfold dt at k1 k3 ta
   have k1:a.1*h1+a.2.1*lo1≤a.2.2:=k1
   have k3:a.1*h3+a.2.1*lo3≤a.2.2:=k3
   have ta:a.1*h2+a.2.1*u=a.2.2:=ta
   rw[z0]at k1 k3 ta
   have p1:0≤(h2 - h1)*a.1:=by grind
   have p3:0≤(h3 - h2) * -a.1:=by grind
   have:=j9 (by grind) p1
   have:=j9 (by grind) p3
   have:a.1=0:=by grind
   rw[this]at ta
   grind
  ·have k:=Lo2 a ha
   have eu:u=lo:=by
    unfold dt at k ta
    have k:a.1*h2+a.2.1*lo≤a.2.2:=k
    have ta:a.1*h2+a.2.1*u=a.2.2:=ta
    have:0 ≤ -a.2.1*(lo - u):=by grind
    have:=j9 (by grind) this
    grind
   subst eu
   exact hv (qx l1 l2 (Lo1 a ha) (Lo3 a ha) (Lo1 b hb) (Lo3 b hb) ta tb e1)
theorem wR{ls:List T3}{h0:T3}{r:List T3}(R:Rim ((e7 ls).map tri) h0 r){g:Rat}(h:∀ z∈O5 h0 r,z.1<g):∀ u,j8 ls g u=false:=fun u=>by
 cases e:j8 ls g u with
 | false=>rfl
 | true =>
  obtain⟨c,hc,_,hm⟩:=R.most (1,0,0) (fun z=>by have:=z.1;revert this;decide)
  have:=hm (g,u) ((E7 ls (g,u)).mpr e)
  unfold dt at this
  have:=h c hc
  grind
theorem above{ls:List T3}{h0:T3}{r:List T3}(R:Rim ((e7 ls).map tri) h0 r)(hok:∀ l∈ls,LineOk l):∃ z∈O5 h0 r,0<z.1:=by
 have eps:∀(l:List T3),(∀ x∈l,LineOk x)→∃ e:Rat,0<e∧∀ x∈l,fj x e 0=true:=fun l=>by
  induction l with
  | nil=>exact fun _=>⟨1,by decide,fun _ h=>nomatch h⟩
  | cons x l ih =>
   intro h
   obtain⟨e,e0,he⟩:=ih fun y hy=>h y (JF _ hy)
   have hr:=(h x JH).pos
   have small:∀{y:T3} {e e':Rat},fj y e 0=true→0≤e'→e'≤e→0<e→fj y e' 0=true:=fun{y e e'} k z1 z2 z3=>by
    rw[A1]at k ⊢
    rw[Md,MC]at k ⊢
    obtain⟨k1,k2⟩:=k
    have m1:0≤e'*(y.2.2 - y.1*e):=JM z1 (by grind)
    have m2:0≤e'*(y.2.2+y.1*e):=JM z1 (by grind)
    have r0:0≤y.2.2:=by grind
    have m3:0≤y.2.2*(e - e'):=JM r0 (by grind)
    have u1:0≤e*(y.2.2 - y.1*e'):=by grind
    have u2:=j9 z3 u1
    have u3:0≤e*(y.2.2+y.1*e'):=by grind
    have u4:=j9 z3 u3
    exact⟨by grind,by grind⟩
   by_cases p0:x.1=0
   ·refine⟨e,e0,fun y hy=>?_⟩
    rcases JJ.mp hy with rfl|hy
    ·rw[A1,p0];exact⟨by grind,by grind⟩
    ·exact he y hy
   ·have ap:0<u7 x.1:=jI p0
    have dd:=V0 (a:=x.2.2) (u6 ap)
    have t0:0<x.2.2 / u7 x.1:=by
     rcases tot (x.2.2 / u7 x.1) 0 with z|z
     ·have:=JM (show 0 ≤ -(x.2.2 / u7 x.1)by grind) (E4 ap)
      grind
     ·by_cases z0:x.2.2 / u7 x.1=0
      ·rw[z0]at dd;grind
      ·grind
    have lx:fj x (x.2.2 / u7 x.1) 0=true:=by
     rw[A1,Md,MC]
     generalize x.2.2 / u7 x.1=t at *
     unfold u7 at dd
     have x0:0≤x.2.2:=by grind
     split at dd
     ·exact⟨by grind,by grind⟩
     ·exact⟨by grind,by grind⟩
    by_cases c:x.2.2 / u7 x.1≤e
    ·refine⟨_,t0,fun y hy=>?_⟩
     rcases JJ.mp hy with rfl|hy
     ·exact lx
     ·exact small (he y hy) (E4 t0) c e0
    ·refine⟨e,e0,fun y hy=>?_⟩
     rcases JJ.mp hy with rfl|hy
     ·exact small lx (E4 e0) (by grind) t0
     ·exact he y hy
 obtain⟨e,e0,he⟩:=eps ls hok
 obtain⟨c,hc,_,hm⟩:=R.most (1,0,0) (fun z=>by have:=z.1;revert this;decide)
 have:=hm (e,0) ((E7 ls (e,0)).mpr (by unfold j8;rw[Li];exact he))
 unfold dt at this
 exact⟨c,hc,by grind⟩
noncomputable def bc(xs:List Rat)(a:Rat):List Rat:=if a∈xs then xs else xs.filter (fun b=>decide (b<a))++[a]++xs.drop (xs.filter fun b=>decide (b<a)).length
noncomputable def C6(qs:List Rat):List Rat:=qs.foldl bc []
def Ris(xs:List Rat):Prop:=xs.Pairwise (· < ·)
theorem Ris.cut{xs:List Rat}(h:Ris xs)(a:Rat):xs.filter (fun b=>decide (b<a))++xs.drop (xs.filter fun b=>decide (b<a)).length=xs∧∀ y∈xs.drop (xs.filter fun b=>decide (b<a)).length,¬ y<a:=by
 induction xs with
 | nil=>exact⟨rfl,fun _ h=>nomatch h⟩
 | cons x xs ih =>
  obtain⟨h1,h2⟩:=KJ.mp h
  obtain⟨i1,i2⟩:=ih h2
  by_cases c:x<a
  ·rw[KD (by simpa using c),JP,List.drop_succ_cons]
   exact⟨by rw[NY,i1],i2⟩
  ·have e:xs.filter (fun b=>decide (b<a))=[]:=by
    rw[List.filter_eq_nil_iff]
    intro y hy
    have:=h1 y hy
    simp only[decide_eq_true_eq]
    grind
   rw[KY (by simpa using c),e]
   refine⟨rfl,fun y hy=>?_⟩
   rcases JJ.mp hy with rfl|hy
   ·exact c
   ·have:=h1 y hy;grind
theorem Ris.ins{xs:List Rat}(h:Ris xs)(a:Rat):Ris (bc xs a)∧∀ y,y∈bc xs a↔y∈xs∨y=a:=by
 unfold bc
 split
 ·rename_i ha
  exact⟨h,fun y=>⟨.inl,fun z=>z.elim id fun e=>e▸ha⟩⟩
 ·rename_i ha
  obtain⟨e,hd⟩:=h.cut a
  generalize hl:xs.filter (fun b=>decide (b<a))=lo at *
  generalize hu:xs.drop lo.length=up at *
  have hlo:∀ y∈lo,y<a:=fun y hy=>by
   rw[← hl]at hy
   simpa using(Mo.mp hy).2
  have hup:∀ y∈up,a<y:=fun y hy=>by
   have h1:=hd y hy
   have h2:y≠a:=fun z=>ha (by rw[← e,← z];exact Kh _ hy)
   grind
  have hp:Ris (lo++up):=by rw[e];exact h
  obtain⟨p1,p2,p3⟩:=Mj.mp hp
  refine⟨?_,fun y=>?_⟩
  ·refine Mj.mpr ⟨Mj.mpr ⟨p1,List.pairwise_singleton _ _,fun x hx y hy=>?_⟩,p2,fun x hx y hy=>?_⟩
   ·rw[Kl.mp hy];exact hlo x hx
   ·rcases Kf.mp hx with hx|hx
    ·exact p3 x hx y hy
    ·rw[Kl.mp hx];exact hup y hy
  ·rw[← e]
   simp only[Kf,Kl]
   grind
theorem kL:∀(qs xs:List Rat),Ris xs→Ris (qs.foldl bc xs)∧∀ y,y∈qs.foldl bc xs↔y∈xs∨y∈qs
 | [],xs,h=>⟨h,fun y=>by simp⟩
 | a :: qs,xs,h=>by
  obtain⟨h1,h2⟩:=h.ins a
  obtain⟨h3,h4⟩:=kL qs (bc xs a) h1
  refine⟨h3,fun y=>?_⟩
  rw[Mv,h4,h2,JJ]
  grind
theorem cy(qs:List Rat):Ris (C6 qs)∧∀ y,y∈C6 qs↔y∈qs:=by
 obtain⟨h1,h2⟩:=kL qs [] List.Pairwise.nil
 exact⟨h1,fun y=>by unfold C6;rw[h2];simp⟩
theorem Ris.uniq:∀{xs ys:List Rat},Ris xs→Ris ys→(∀ y,y∈xs↔y∈ys)→xs=ys
 | [],[],_,_,_=>rfl
 | [],y :: ys,_,_,h=>absurd ((h y).mpr JH) (fun z=>nomatch z)
 | x :: xs,[],_,_,h=>absurd ((h x).mp JH) (fun z=>nomatch z)
 | x :: xs,y :: ys,h1,h2,h=>by
  obtain⟨a1,a2⟩:=KJ.mp h1
  obtain⟨b1,b2⟩:=KJ.mp h2
  have e:x=y:=by
   have hx:=(h x).mp JH
   have hy:=(h y).mpr JH
   rcases JJ.mp hx with z|z
   ·exact z
   ·rcases JJ.mp hy with w|w
    ·exact w.symm
    ·have:=b1 x z
     have:=a1 y w
     grind
  subst e
  rw[Ris.uniq a2 b2 fun z=>?_]
  constructor
  ·intro hz
   have:=a1 z hz
   rcases JJ.mp ((h z).mp (JF _ hz))with w|w
   ·grind
   ·exact w
  ·intro hz
   have:=b1 z hz
   rcases JJ.mp ((h z).mpr (JF _ hz))with w|w
   ·grind
   ·exact w
theorem yx{xs:List Rat}(h:Ris xs)(hn:∀ y∈xs,-y∈xs):(xs.map fun y=>-y).reverse=xs:=by
 refine Ris.uniq ?_ h fun y=>?_
 ·refine List.pairwise_reverse.mpr (List.pairwise_map.mpr (h.imp fun z=>?_))
  grind
 ·rw[List.mem_reverse,JK]
  constructor
  ·rintro⟨z,hz,rfl⟩;exact hn z hz
  ·intro hy;exact⟨-y,hn y hy,by grind⟩
theorem CD.led5{S k:Nat}{x:Str × Rat}{a b c d:Rat}(h:CD S a b c d)(hx:sz x.2≤k):CD (S+(k+1)) (E5 x a c).1 (E5 x b d).1 (E5 x a c).2 (E5 x b d).2:=by
 unfold E5
 by_cases h1:x.1 = "gap"
 ·rw[if_pos h1,if_pos h1];exact h.step hx
 ·rw[if_neg h1,if_neg h1]
  by_cases h2:x.1 = "glass"
  ·rw[if_pos h2,if_pos h2]
   have:=(h.swap.step (q:=-x.2) (k:=k) (by rw[RM.D9];exact hx)).swap
   have e:∀ u v:Rat,u + -x.2*v=u - x.2*v:=fun u v=>by grind
   rw[e,e]at this
   exact this
  ·rw[if_neg h2,if_neg h2];exact h.mono (by omega)
theorem yU{bs:List (Str × Rat)}(hb:∀ x∈bs,t6 x):CD (1+42*bs.length) (o9 bs (1,0)).1 (o9 bs (0,1)).1 (o9 bs (1,0)).2 (o9 bs (0,1)).2:=by
 have gen:∀(bs:List (Str × Rat)) (S:Nat) (a b c d:Rat),(∀ x∈bs,t6 x)→CD S a b c d→CD (S+42*bs.length) (o9 bs (a,c)).1 (o9 bs (b,d)).1 (o9 bs (a,c)).2 (o9 bs (b,d)).2:=by
  intro bs
  induction bs with
  | nil=>intro S a b c d _ h;exact h.mono (by simp)
  | cons x r ih =>
   intro S a b c d hb h
   have h1:=h.led5 (hb x JH).sz
   have h2:=ih _ _ _ _ _ (fun z hz=>hb z (JF _ hz)) h1
   exact h2.mono (by simp only[JP];omega)
 exact gen bs 1 1 0 0 1 hb CD.one
theorem vm(bs:List (Str × Rat)):(o9 bs (1,0)).1*(o9 bs (0,1)).2 - (o9 bs (0,1)).1*(o9 bs (1,0)).2=1:=by
 have gen:∀(bs:List (Str × Rat)) (a b c d:Rat),a*d - b*c=1→(o9 bs (a,c)).1*(o9 bs (b,d)).2 - (o9 bs (b,d)).1*(o9 bs (a,c)).2=1:=by
  intro bs
  induction bs with
  | nil=>intro a b c d h;exact h
  | cons x r ih =>
   intro a b c d h
   refine ih (E5 x a c).1 (E5 x b d).1 (E5 x a c).2 (E5 x b d).2 ?_
   unfold E5
   by_cases h1:x.1 = "gap"
   ·rw[if_pos h1,if_pos h1];grind
   ·rw[if_neg h1,if_neg h1]
    by_cases h2:x.1 = "glass"
    ·rw[if_pos h2,if_pos h2];grind
    ·rw[if_neg h2,if_neg h2];exact h
 exact gen bs 1 0 0 1 (by grind)
theorem vJ{bs:List (Str × Rat)}(hok:∀ x∈bs,t6 x):∀ i,∀ l∈A9 bs i,∃(j:Nat) (r:Rat),l=((o9 (bs.take j) (1,0)).1,(o9 (bs.take j) (0,1)).1,r)∧0<r∧sz r≤41
 | 0,l,h=>by cases h
 | i+1,l,h=>by
  rcases Kf.mp h with h|h
  ·exact vJ hok i l h
  ·cases e:bs[i]? with
   | none=>rw[e]at h;cases h
   | some x =>
    replace h:l∈(if x.1 = "stop" then[((o9 (bs.take i) (1,0)).1,(o9 (bs.take i) (0,1)).1,x.2)]else[]):=by rw[e]at h;exact h
    by_cases hx:x.1 = "stop"
    ·rw[if_pos hx]at h
     have ok:=hok x (Kd e)
     refine⟨i,x.2,Kl.mp h,?_,ok.sz⟩
     rcases ok.kind with⟨z,_⟩|z|⟨_,z⟩
     ·rw[z]at hx;exact absurd hx (by decide)
     ·rw[z]at hx;exact absurd hx (by decide)
     ·exact z
    ·rw[if_neg hx]at h;cases h
theorem mz{q:Rat}{c N:Nat}{A:Int}(hd:q.den ∣ c)(hc:c ∣ N)(hN:0<N)(e:q*(N:Rat)=(A:Rat)):(bM q c).natAbs≤A.natAbs:=by
 obtain⟨m,rfl⟩:=hc
 have h1:=bS hd
 have e2:(A:Rat)=((bM q c*(m:Int):Int):Rat):=by
  rw[Kn,h1,← e,KW,Kv];grind
 have e3:A=bM q c*(m:Int):=Mx.mp e2
 rw[e3,KS,JU]
 exact Nat.le_mul_of_pos_right _ (NF fun z=>by rw[z]at hN;simp at hN)
theorem jv{q:Rat}{N:Nat}{A:Int}(e:q*(N:Rat)=(A:Rat)):q.den ∣ N:=by
 have e1:=K4 q
 have e2:((q.num*(N:Int):Int):Rat)=((A*(q.den:Int):Int):Rat):=by
  rw[Kn,Kn,← e1,← e,Kv,Kv];grind
 have e3:q.num*(N:Int)=A*(q.den:Int):=Mx.mp e2
 have e4:q.num.natAbs*N=A.natAbs*q.den:=by
  have:=congrArg Int.natAbs e3
  rwa [KS,KS,JU,JU]at this
 have e5:q.den ∣ q.num.natAbs*N:=⟨A.natAbs,by rw[e4,NT]⟩
 exact Nat.Coprime.dvd_of_dvd_mul_left (Nat.Coprime.symm q.reduced) e5
structure LS5(l:T3):Prop where
 p:sz l.1≤505
 q:sz l.2.1≤547
 r:sz l.2.2≤41
def Ef(n:Nat)(s:Sd):Prop:=s.1.natAbs<2 ^ n∧s.2.1.natAbs<2 ^ n∧s.2.2.1.natAbs<2 ^ n
theorem Z0{bs:List (Str × Rat)}{x:Rat}(hl:bs.length≤12)(hok:∀ x∈bs,t6 x)(hx:sz x≤41):∀ l∈p6 bs x,LnOk l∧LS5 l∧Ef 588 (f7 l 0):=fun l h=>by
 obtain⟨m,hm,rfl⟩:=JK.mp h
 obtain⟨j,r,rfl,r0,hr⟩:=vJ hok bs.length m hm
 have cd:=yU (bs:=bs.take j) fun x hx=>hok x (Kx hx)
 have dt1:=vm (bs.take j)
 have hlen:(bs.take j).length≤12:=by rw[JX];omega
 have cd:=cd.mono (show 1+42*(bs.take j).length≤505 by omega)
 show LnOk ((o9 (bs.take j) (1,0)).1,(o9 (bs.take j) (1,0)).1*x+(o9 (bs.take j) (0,1)).1,r)∧_
 generalize (o9 (bs.take j) (1,0)).1=p at *
 generalize (o9 (bs.take j) (0,1)).1=q at *
 obtain⟨A,B,C,E,D,h0,hd,⟨h1,h2,_,_⟩,e1,e2,_,_⟩:=cd.ex
 have xn:=G3 x hx
 have xd:=B5 x hx
 have rn:=G3 r hr
 have rd:=B5 r hr
 have ex:=K4 x
 have er:=K4 r
 have xd':(x.den:Int).natAbs<2 ^ 41:=by rw[JU];exact xd
 have rd':(r.den:Int).natAbs<2 ^ 41:=by rw[JU];exact rd
 have p1:p*((D*x.den:Nat):Rat)=((A*(x.den:Int):Int):Rat):=by
  rw[KW,Kn,Kv,← e1];grind
 have q1:(p*x+q)*((D*x.den:Nat):Rat)=((A*x.num+B*(x.den:Int):Int):Rat):=by
  rw[KW,Nb,Kn,Kn,Kv,← e1,← e2,← ex];grind
 have bp:(A*(x.den:Int)).natAbs<2 ^ 546:=f8 h1 xd'
 have bq:(A*x.num+B*(x.den:Int)).natAbs<2 ^ 547:=X6 (f8 h1 xn) (f8 h2 xd')
 have bd:D*x.den<2 ^ 546:=C8 hd xd
 have d0:D*x.den≠0:=LS h0 x.den_nz
 have sp:sz p≤505:=gC (by decide) h0 hd e1 h1
 have sq:sz (p*x+q)≤547:=gC (by decide) d0 (MD bd (by decide)) q1 bq
 generalize p*x+q=q' at *
 have np:¬ (p=0∧q'=0):=fun⟨z1,z2⟩=>by
  have hA:A=0:=by
   rw[z1,NU]at e1
   exact Mx.mp (by rw[← e1];rfl)
  have hB:B*(x.den:Int)=0:=by
   rw[z2,NU,hA,Nd,Int.zero_add]at q1
   exact Mx.mp (by rw[← q1];rfl)
  have hB0:B=0:=(LV.mp hB).resolve_right (by have:=x.den_nz;omega)
  rw[hB0]at e2
  have dn:(D:Rat)≠0:=by intro z;exact h0 (by exact_mod_cast z)
  have q0:q=0:=by
   have:q*(D:Rat)=0:=e2
   grind
  rw[z1,q0]at dt1
  grind
 have np':0<D*x.den*r.den:=Nat.mul_pos (NF d0) r.den_pos
 have p2:p*((D*x.den*r.den:Nat):Rat)=((A*(x.den:Int)*(r.den:Int):Int):Rat):=by
  rw[KW,← ND,p1,Kn (A*(x.den:Int)),Kv]
 have q2:q'*((D*x.den*r.den:Nat):Rat)=(((A*x.num+B*(x.den:Int))*(r.den:Int):Int):Rat):=by
  rw[KW,← ND,q1,Kn,Kv]
 have r2:r*((D*x.den*r.den:Nat):Rat)=((((D*x.den:Nat):Int)*r.num:Int):Rat):=by
  rw[KW,Kn,Kv,← er];grind
 have cdv:cbL (p,q',r) ∣ D*x.den*r.den:=by
  rw[eQ]
  exact Nat.lcm_dvd (Nat.lcm_dvd (jv p2) (jv q2)) (jv r2)
 have tp:(bM p (cbL (p,q',r))).natAbs<2 ^ 588:=Kz (mz (BE (p,q',r)) cdv np' p2) (MD (f8 bp rd') (by decide))
 have tq:(bM q' (cbL (p,q',r))).natAbs<2 ^ 588:=Kz (mz (BD (p,q',r)) cdv np' q2) (f8 bq rd')
 have tr:(bM r (cbL (p,q',r))).natAbs<2 ^ 588:=Kz (mz (BC (p,q',r)) cdv np' r2) (MD (f8 (by rw[JU];exact bd) rn) (by decide))
 have up:∀{n:Nat},n<2 ^ 588→n<2 ^ 1200:=fun h=>MD h (by decide)
 exact⟨⟨⟨np,r0⟩,by show sz p≤1300;omega,by show sz q'≤1300;omega,by show sz r≤1300;omega,⟨up tp,up tq,up tr⟩⟩,⟨sp,sq,hr⟩,tp,tq,tr⟩
theorem pD{bs:List (Str × Rat)}{x:Rat}(hl:bs.length≤12)(hok:∀ x∈bs,t6 x)(hx:sz x≤41):si (p6 bs x) :=
 ⟨JR (gh bs x) hl,fun l h=>(Z0 hl hok hx l h).1⟩
theorem wF{ls:List T3}{n:Nat}(hok:∀ l∈ls,LineOk l)(hb:∀ l∈ls,Ef n (f7 l 0)){cs:List (Rat × Rat)}(e:v9 ls=some cs):cs.length≤4*ls.length+2∧∀ z∈cs,sz z.1≤2*n+1∧sz z.2≤2*n+1:=by
 have hne:ls≠[]:=fun z=>by rw[z]at e;cases e
 have bs:∀ s∈e7 ls,Ef n s:=fun s hs=>by
  obtain⟨l,hl,j,es⟩:=G1 hs
  obtain⟨a,b,c⟩:=hb l hl
  rcases es with rfl|rfl
  ·exact⟨a,b,c⟩
  ·exact⟨by show(-(f7 l j).1).natAbs<_;rw[Lm];exact a,by show(-(f7 l j).2.1).natAbs<_;rw[Lm];exact b,c⟩
 obtain⟨h0,l,eh,m0,h⟩:=M8 hok hne
 have hlen:=lG hok
 unfold v9 at e
 rw[eh]at e hlen
 cases l with
 | nil=>cases e
 | cons x l =>
  have e:=Option.some.inj e
  rcases h with⟨z,_⟩|⟨_,_,h⟩
  ·cases z
  have rl:=kM h0 (x :: l)
  have hz:∀ z∈A6 h0 (x :: l),sz z.1≤2*n+1∧sz z.2≤2*n+1:=fun z hz=>by
   obtain⟨ab,hab,rfl⟩:=JK.mp hz
   obtain⟨q1,q2,q3⟩:=h ab hab
   exact AX (bs _ q1) (bs _ q2) (by omega)
  refine⟨?_,fun z hzc=>?_⟩
  ·rw[← e]
   unfold aS
   rw[JQ,Kr,JX,JQ,JD,rl]
   simp only[JP]at hlen ⊢
   omega
  ·rw[← e,aj]at hzc
   rcases Kf.mp hzc with hzc|hzc
   ·exact hz z hzc
   ·obtain⟨y,hy,rfl⟩:=JK.mp hzc
    obtain⟨y1,y2⟩:=hz y hy
    exact⟨by show sz (-y.1)≤_;rw[RM.D9];exact y1,by show sz (-y.2)≤_;rw[RM.D9];exact y2⟩
theorem G9{xs ys:List Rat}:xs.map d7=ys.map d7↔xs=ys:=Lg (fun _ _ h=>g8.mp h)
local macro_rules|`(tactic| walk_at "inj")=>`(tactic| (rename_i e h;simp only[List.cons.injEq,GM.G9,and_true,true_and,GM.g8,GM.i5,GM.h7,GM.i6,GM.h8,D.tup.injEq,D.ref.injEq,D.int.injEq,D.str.injEq,D.bl.injEq,D.vl.injEq,Kt,and_assoc]at e;(repeat(obtain⟨e1,e⟩:=e;subst e1));subst e;exact h))
local macro_rules|`(tactic| walk_at "injs")=>`(tactic| (rename_i e o h;rcases o with o|o<;>(subst o;first|(exfalso;simp only[D.tup.injEq,List.cons.injEq,reduceCtorEq,false_and,and_false]at e;done)|(simp only[List.cons.injEq,GM.G9,and_true,true_and,GM.g8,GM.i5,GM.h7,GM.i6,GM.h8,D.tup.injEq,D.ref.injEq,D.int.injEq,D.str.injEq,D.bl.injEq,D.vl.injEq,Kt,and_assoc]at e;(repeat(obtain⟨e1,e⟩:=e;subst e1));subst e;exact h))))
abbrev S9(qs:List Rat)(M:Mem)(R:DK)(Y:DXK):Prop:=(qs.length≤100∧∀ q∈qs,sz q≤2402)∧R (.vl ((C6 qs).map d7)) M
def iA:DSp:=fun ds M R Y=>∃(qs:List Rat),ds=[.vl (qs.map d7)]∧S9 qs M R Y
theorem fy{qs:List Rat}{M:Mem}{R:DK}{Y:DXK}:iA [.vl (qs.map d7)] M R Y=(S9 qs M R Y):=propext ⟨fun z=>by obtain⟨_,_,_⟩:=z;walk_at "inj",fun h=>⟨qs,rfl,h⟩⟩
abbrev G2(l:T3)(g:Rat)(M:Mem)(R:DK)(Y:DXK):Prop:=(LS5 l∧l.2.1≠0∧sz g≤2400)∧R (.tup [d7 (F9 l g - B1 l),d7 (F9 l g+B1 l)]) M
def X2:DSp:=fun ds M R Y=>∃(l:T3) (g:Rat),ds=[g5 l,d7 g]∧G2 l g M R Y
theorem Y5{l:T3}{g:Rat}{M:Mem}{R:DK}{Y:DXK}:X2 [g5 l,d7 g] M R Y=(G2 l g M R Y):=propext ⟨fun z=>by obtain⟨_,_,_,_⟩:=z;walk_at "inj",fun h=>⟨l,g,rfl,h⟩⟩
abbrev N7(ls:List T3)(g:Rat)(M:Mem)(R:DK)(Y:DXK):Prop:=(ls.length≤12∧(∀ l∈ls,LS5 l)∧sz g≤2400)∧R (qI (A8 g ls none)) M
def dJ:DSp:=fun ds M R Y=>∃(ls:List T3) (g:Rat),ds=[.vl (ls.map g5),d7 g]∧N7 ls g M R Y
theorem cJ{ls:List T3}{g:Rat}{M:Mem}{R:DK}{Y:DXK}:dJ [.vl (ls.map g5),d7 g] M R Y=(N7 ls g M R Y):=propext ⟨fun z=>by obtain⟨_,_,_,_⟩:=z;walk_at "inj",fun h=>⟨ls,g,rfl,h⟩⟩
noncomputable def S0(ls:List T3)(g:Rat):Rat × Rat:=match A8 g ls none with
 | some (some p)=>p
 | _=>(0,0)
noncomputable def Q9(ls:List T3)(cs:List (Rat × Rat)):List T3:=(C6 (cs.map (·.1))).map fun h=>(h,S0 ls h)
def jq(ls:List T3)(M:Mem)(R:DK):Prop:=match v9 ls with
 | none=>R .non M
 | some cs=>∀ p,M p=none→R (.ref p) (B8 M p (.lst ((Q9 ls cs).map g5)))
abbrev Q8(bs:List (Str × Rat))(x:Rat)(M:Mem)(R:DK)(Y:DXK):Prop:=(bs.length≤12∧(∀ x∈bs,t6 x)∧sz x≤41)∧jq (p6 bs x) M R
def dO:DSp:=fun ds M R Y=>∃(x0:D) (bs:List (Str × Rat)) (x:Rat),ds=[x0,d7 x]∧(x0 = .vl (bs.map f9)∨x0 = .tup (bs.map f9))∧Q8 bs x M R Y
theorem cM{bs:List (Str × Rat)}{x:Rat}{M:Mem}{R:DK}{Y:DXK}:dO [.vl (bs.map f9),d7 x] M R Y=(Q8 bs x M R Y):=propext ⟨fun z=>by obtain⟨_,_,_,_,_,_⟩:=z;walk_at "injs",fun h=>⟨_,bs,x,rfl,.inl rfl,h⟩⟩
theorem V7{bs:List (Str × Rat)}{x:Rat}{M:Mem}{R:DK}{Y:DXK}:dO [.tup (bs.map f9),d7 x] M R Y=(Q8 bs x M R Y):=propext ⟨fun z=>by obtain⟨_,_,_,_,_,_⟩:=z;walk_at "injs",fun h=>⟨_,bs,x,rfl,.inr rfl,h⟩⟩
theorem rJ{a b:Nat × Rat × Rat × Rat}:lB a=lB b↔a=b:=by
 constructor
 ·intro h
  unfold lB at h
  injection h with h
  injection h with h1 h
  injection h with h2 h
  injection h with h3 h
  injection h with h4 h
  injection h1 with h1
  exact Prod.ext (by omega) (Prod.ext (g8.mp h2) (Prod.ext (g8.mp h3) (g8.mp h4)))
 ·rintro rfl;rfl
theorem eD{xs ys:List (Nat × Rat × Rat × Rat)}:xs.map lB=ys.map lB↔xs=ys:=Lg (fun _ _ h=>rJ.mp h)
end GM
namespace GM
open PySem PySem.Spec L2 DL
open RM (sz)
local macro_rules|`(tactic| walk_at "inj")=>`(tactic| (rename_i e h;simp only[List.cons.injEq,GM.eD,and_true,true_and,GM.g8,GM.i5,GM.h7,GM.i6,GM.h8,D.tup.injEq,D.ref.injEq,D.int.injEq,D.str.injEq,D.bl.injEq,D.vl.injEq,Kt,and_assoc]at e;(repeat(obtain⟨e1,e⟩:=e;subst e1));subst e;exact h))
local macro_rules|`(tactic| walk_at "injs")=>`(tactic| (rename_i e o h;rcases o with o|o<;>(subst o;first|(exfalso;simp only[D.tup.injEq,List.cons.injEq,reduceCtorEq,false_and,and_false]at e;done)|(simp only[List.cons.injEq,GM.eD,and_true,true_and,GM.g8,GM.i5,GM.h7,GM.i6,GM.h8,D.tup.injEq,D.ref.injEq,D.int.injEq,D.str.injEq,D.bl.injEq,D.vl.injEq,Kt,and_assoc]at e;(repeat(obtain⟨e1,e⟩:=e;subst e1));subst e;exact h))))
theorem jk:(1 / 2:Rat)=Lh 1 2:=by rw[LX];rfl
theorem jl:D.tup [.int 1,.int 2]=d7 (1 / 2):=by rw[jk];rfl
theorem U0:sz (1 / 2)≤3:=by rw[jk];decide
theorem zP{ls:List T3}{g lo hi:Rat}{n:Nat}(h5:∀ l∈ls,LS5 l)(hg:sz g≤n)(h:q9 ls g lo hi):sz lo≤n+1642∧sz hi≤n+1642:=by
 have one:∀ l∈ls,l.2.1≠0→sz (F9 l g)≤n+1052∧sz (B1 l)≤588:=fun l hl hn=>by
  obtain⟨a1,a2,a3⟩:=h5 l hl
  have m1:=RM.F7 l.1 g
  have m2:=RM.aL (l.1*g) l.2.1 hn
  have m3:=RM.D9 (l.1*g / l.2.1)
  have m4:=RM.aL l.2.2 l.2.1 hn
  have m5:=J2 (l.2.2 / l.2.1)
  unfold F9 B1
  omega
 obtain⟨l,hl,hn,e⟩:=h.lo
 obtain⟨m,hm,hn',e'⟩:=h.hi
 have o1:=one l hl hn
 have o2:=one m hm hn'
 refine⟨?_,?_⟩
 ·rw[e];unfold loS
  have:=RM.W0 (F9 l g) (B1 l)
  omega
 ·rw[e'];unfold hiS
  have:=RM.W1 (F9 m g) (B1 m)
  omega
theorem R9{ls:List T3}{g lo hi:Rat}(h:q9 ls g lo hi):S0 ls g=(lo,hi):=by unfold S0;rw[h.eq]
theorem gP{ls:List T3}(hok:∀ l∈ls,LineOk l)(h:¬ v8 ls):∃ l∈ls,l.2.1≠0:=by
 apply Lp
 intro hn
 apply h
 intro a ha b hb
 have e1:a.2.1=0:=Lp fun z=>hn ⟨a,ha,z⟩
 have e2:b.2.1=0:=Lp fun z=>hn ⟨b,hb,z⟩
 rw[e1,e2,Md,Md]
structure Ah(ls:List T3)(cs:List (Rat × Rat))(hs:List Rat):Prop where
 na:¬ v8 ls
 q:∃ l∈ls,l.2.1≠0
 ris:Ris hs
 mem:∀ h,h∈hs ↔ ∃ z∈cs,z.1=h
 cone:∀ h∈hs,∃ lo hi,q9 ls h lo hi
 neg:(hs.map fun y=>-y).reverse=hs
 len:2≤hs.length
 mid:∀(i:Nat) (a b lo1 hi1 lo2 hi2:Rat),hs[i]? = some a→hs[i+1]? = some b→q9 ls a lo1 hi1→q9 ls b lo2 hi2→q9 ls ((a+b)*(1 / 2)) ((lo1+lo2)*(1 / 2)) ((hi1+hi2)*(1 / 2))
 bent:∀(a b c lo1 hi1 lo2 hi2 lo3 hi3:Rat),a<b→b<c→b∈hs→q9 ls a lo1 hi1→q9 ls b lo2 hi2→q9 ls c lo3 hi3→¬ ((lo2 - lo1) / (b - a)=(lo3 - lo2) / (c - b)∧(hi2 - hi1) / (b - a)=(hi3 - hi2) / (c - b))
 far:∀ g,(∀ h∈hs,h<g)→qI (A8 g ls none) = .non
theorem uN{hs:List Rat}(h:Ris hs){i:Nat}{a b:Rat}(ha:hs[i]? = some a)(hb:hs[i+1]? = some b):a<b∧∀ y∈hs,¬ (a<y∧y<b):=by
 obtain⟨i1,rfl⟩:=JV.mp ha
 obtain⟨i2,rfl⟩:=JV.mp hb
 have pw:=List.pairwise_iff_getElem.mp h
 refine⟨pw i (i+1) i1 i2 (by omega),fun y hy ⟨z1,z2⟩=>?_⟩
 obtain⟨j,hj,rfl⟩:=Mk.mp hy
 rcases NM j i with c|c|c
 ·have:=pw j i hj i1 c;grind
 ·subst c;grind
 ·rcases Nat.lt_or_eq_of_le (show i+1≤j by omega)with c2|c2
  ·have:=pw (i+1) j i2 hj c2;grind
  ·subst c2;grind
theorem lI{ls:List T3}(hok:∀ l∈ls,LineOk l){cs:List (Rat × Rat)}(e:v9 ls=some cs):Ah ls cs (C6 (cs.map (·.1))):=by
 rcases eN hok with⟨e0,_⟩|⟨cs',e',na,h0,r,R,hm⟩
 ·rw[e]at e0;cases e0
 ·obtain rfl:cs=cs':=by rw[e]at e';exact Option.some.inj e'
  have q:=gP hok na
  obtain⟨ris,mem⟩:=cy (cs.map (·.1))
  have mem':∀ h,h∈C6 (cs.map (·.1)) ↔ ∃ z∈cs,z.1=h:=fun h=>by rw[mem,JK]
  have K:∀ z∈cs,j8 ls z.1 z.2=true:=fun z hz=>(E7 ls z).mp (R.tight ((hm z).mp hz)).1
  have cone:∀ h∈C6 (cs.map (·.1)),∃ lo hi,q9 ls h lo hi:=fun h hh=>by
   obtain⟨z,hz,rfl⟩:=(mem' h).mp hh
   obtain⟨lo,hi,c,_⟩:=aF hok q (K z hz)
   exact⟨lo,hi,c⟩
  have ng:∀ y∈C6 (cs.map (·.1)),-y∈C6 (cs.map (·.1)):=fun y hy=>by
   obtain⟨z,hz,rfl⟩:=(mem' y).mp hy
   exact(mem' _).mpr ⟨ngZ z,(hm _).mpr (Rim.neg (ss:=(e7 ls).map tri) ((hm z).mp hz)),rfl⟩
  refine⟨na,q,ris,mem',cone,yx ris ng,?_,fun i a b lo1 hi1 lo2 hi2 ha hb ca cb=>?_,fun a b c lo1 hi1 lo2 hi2 lo3 hi3 l1 l2 hb c1 c2 c3=>?_,fun g hg=>?_⟩
  ·obtain⟨z,hz,z0⟩:=above R hok
   have m1:=(mem' z.1).mpr ⟨z,(hm z).mpr hz,rfl⟩
   have m2:=ng _ m1
   generalize C6 (cs.map (·.1))=hs at *
   match hs,m1,m2 with
   | [],m1,_=>cases m1
   | [a],m1,m2 =>
    have e1:=Kl.mp m1
    have e2:=Kl.mp m2
    grind
   | _ :: _ :: _,_,_=>exact Oj 2 _
  ·obtain⟨hab,no⟩:=uN ris ha hb
   exact vI R hok q hab ca cb fun z hz w=>no z.1 ((mem' z.1).mpr ⟨z,(hm z).mpr hz,rfl⟩) w
  ·obtain⟨z,hz,rfl⟩:=(mem' b).mp hb
   exact GM.bent R hok (u:=z.2) l1 l2 c1 c2 c3 ((hm z).mp hz)
  ·exact zQ hok q (wR R fun z hz=>hg z.1 ((mem' z.1).mpr ⟨z,(hm z).mpr hz,rfl⟩))
theorem uQ{q:Rat}{xs:List Rat}:d7 q∈xs.map d7↔q∈xs:=by
 rw[JK]
 constructor
 ·rintro⟨y,hy,e⟩;rw[← g8.mp e];exact hy
 ·exact fun h=>⟨q,h,rfl⟩
theorem lX:∀(xs:List Rat),clL 59 (xs.map d7)=true
 | []=>rfl
 | q :: xs=>by
  show(cl 59 (d7 q) && clL 59 (xs.map d7))=true
  rw[lX xs];rfl
theorem pI:∀(ys xs:List Rat),(ys.foldl bc xs).length≤xs.length+ys.length
 | [],xs=>JY _
 | y :: ys,xs=>by
  have h1:=pI ys (bc xs y)
  have h2:(bc xs y).length≤xs.length+1:=by
   unfold bc
   split
   ·omega
   ·have:=LC (fun b=>decide (b<y)) xs
    rw[JQ,JQ,Kr,KQ];omega
  rw[Mv,JP];omega
theorem dR(qs:List Rat):(C6 qs).length≤qs.length:=by
 have:=pI qs []
 unfold C6
 have h0:([]:List Rat).length=0:=rfl
 omega
end GM
namespace GM
open PySem PySem.Spec L2 DL
open RM (sz)
noncomputable abbrev Zr:=Rat × Rat
noncomputable def cr(v w:Zr):Rat:=v.1*w.2 - v.2*w.1
theorem Bz(v w:Zr):cr (ngZ v) (ngZ w)=cr v w:=by unfold cr ngZ;grind
theorem gz(v w:Zr):cr v (ngZ w) = -cr v w:=by unfold cr ngZ;grind
theorem By(v w:Zr):cr (ngZ v) w = -cr v w:=by unfold cr ngZ;grind
theorem lT(v w:Zr):cr v w = -cr w v:=by unfold cr;grind
theorem jy(v:Zr):cr v v=0:=by unfold cr;grind
theorem cA(v:Zr):ngZ (ngZ v)=v:=by unfold ngZ;show(- -v.1,- -v.2)=v;rw[Nq,Nq]
theorem Gn{a b c:T3}(h1:ve a b≠0)(h2:ve b c≠0):ve a b*ve b c*cr (ry a b) (ry b c)=b.2.2*tn a b c:=by
 obtain⟨e1,e2⟩:=gj h1
 obtain⟨e3,e4⟩:=gj h2
 have:ve a b*ve b c*cr (ry a b) (ry b c)=(ve a b*(ry a b).1)*(ve b c*(ry b c).2) - (ve a b*(ry a b).2)*(ve b c*(ry b c).1):=by unfold cr;grind
 rw[this,e1,e2,e3,e4]
 unfold tn ve
 grind
theorem FX{a b c:T3}(h:T3)(h1:ve a b≠0)(h2:ve b c≠0):ve a b*ve b c*(dt h (ry a b) - dt h (ry b c))=ve h b*tn a b c:=by
 obtain⟨e1,e2⟩:=gj h1
 obtain⟨e3,e4⟩:=gj h2
 have:ve a b*ve b c*(dt h (ry a b) - dt h (ry b c))=ve b c*(h.1*(ve a b*(ry a b).1)+h.2.1*(ve a b*(ry a b).2)) - ve a b*(h.1*(ve b c*(ry b c).1)+h.2.1*(ve b c*(ry b c).2)):=by unfold dt;grind
 rw[this,e1,e2,e3,e4]
 unfold tn ve
 grind
theorem wo(s:T3)(v w x:Zr):cr v w*dt s x=cr x w*dt s v+cr v x*dt s w:=by unfold dt cr;grind
theorem mp{a b:Rat}(h1:0<a)(h2:0<b):0<a*b:=KI h1 h2
theorem O0{v x:Rat}(hv:0<v)(h:0<v*x):0<x:=by
 rcases tot x 0 with z|z
 ·have:0≤v*(-x):=JM (E4 hv) (by grind)
  grind
 ·by_cases e:x=0
  ·rw[e]at h;grind
  ·grind
structure Cn2(ss:List T3)(x:Zr):Prop where
 sup:Sup ss x
 two:∃ s t,s∈ss∧t∈ss∧ve s t≠0∧dt s x=s.2.2∧dt t x=t.2.2
theorem Cn2.ng{ss:List T3}(sy:∀ s∈ss,ng s∈ss){x:Zr}(h:Cn2 ss x):Cn2 ss (ngZ x):=by
 obtain⟨hs,s,t,ms,mt,hv,es,et⟩:=h
 refine⟨aM sy hs,GM.ng s,GM.ng t,sy s ms,sy t mt,?_,?_,?_⟩
 ·have:ve (GM.ng s) (GM.ng t)=ve s t:=by unfold ve GM.ng;grind
  rw[this];exact hv
 ·have:dt (GM.ng s) (ngZ x)=dt s x:=by unfold dt GM.ng ngZ;grind
  rw[this,es];rfl
 ·have:dt (GM.ng t) (ngZ x)=dt t x:=by unfold dt GM.ng ngZ;grind
  rw[this,et];rfl
theorem Ff{u x y:Rat}(hu:0<u)(h:x*u≤y*u):x≤y:=by
 have:0≤u*(y - x):=by grind
 have:=j9 hu this
 grind
theorem vF{ss:List T3}(pos:∀ s∈ss,0<s.2.2){b:T3}{v w:Zr}(hb:b∈ss)(bv:dt b v=b.2.2)(bw:dt b w=b.2.2)(sv:Sup ss v)(sw:Sup ss w)(hc:0<cr v w){x:Zr}(hx:Cn2 ss x)(h1:0<cr v x):x=w∨0<cr w x:=by
 by_cases h2:0<cr w x
 ·exact .inr h2
 left
 obtain⟨sx,s,t,ms,mt,hv,es,et⟩:=hx
 have h3:0≤cr x w:=by rw[lT];grind
 have hle:cr x w+cr v x≤cr v w:=by
  have e:=wo b v w x
  rw[bv,bw]at e
  have r:=pos b hb
  have q:=sx b hb
  have:cr v w*dt b x≤cr v w*b.2.2:=by
   have:0≤cr v w*(b.2.2 - dt b x):=JM (E4 hc) (by grind)
   grind
  refine Ff r ?_
  grind
 have key:∀ s∈ss,dt s x=s.2.2→dt s w=s.2.2:=fun s ms es=>by
  have e:=wo s v w x
  rw[es]at e
  have r:=pos s ms
  have q1:=sv s ms
  have q2:=sw s ms
  have p1:0≤cr x w*(s.2.2 - dt s v):=JM h3 (by grind)
  have p2:0≤cr v x*(s.2.2 - dt s w):=JM (E4 h1) (by grind)
  have p3:0≤(cr v w - (cr x w+cr v x))*s.2.2:=JM (by grind) (E4 r)
  have p4:cr v x*(s.2.2 - dt s w)=0:=by grind
  grind
 have e1:=key s ms es
 have e2:=key t mt et
 rw[cw hv es et,cw hv e1 e2]
structure J7(ss:List T3)(A:Nat→T3)(k:Nat):Prop where
 two:2≤k
 sy:∀ s∈ss,ng s∈ss
 pos:∀ s∈ss,0<s.2.2
 mem:∀ i,i≤k+1→A i∈ss
 ve:∀ i,i≤k→0<ve (A i) (A (i+1))
 sup:∀ i,i≤k→Sup ss (ry (A i) (A (i+1)))
 tn:∀ i,i<k→0<tn (A i) (A (i+1)) (A (i+2))
 up:∀ i,1≤i→i<k→0<GM.ve (A 0) (A i)
 lst:A k=ng (A 0)
 lst1:A (k+1)=ng (A 1)
noncomputable def rA(A:Nat→T3)(i:Nat):Zr:=ry (A i) (A (i+1))
section
variable {ss:List T3} {A:Nat→T3} {k:Nat}
theorem J7.rk(R:J7 ss A k):rA A k=ngZ (rA A 0):=by
 unfold rA;rw[R.lst,R.lst1,kK]
theorem J7.cn(R:J7 ss A k){i:Nat}(h:i≤k):Cn2 ss (rA A i) :=
 ⟨R.sup i h,A i,A (i+1),R.mem i (by omega),R.mem (i+1) (by omega),u6 (R.ve i h),fe (u6 (R.ve i h)),dQ (u6 (R.ve i h))⟩
theorem J7.cr(R:J7 ss A k){i:Nat}(h:i<k):0<cr (rA A i) (rA A (i+1)):=by
 have v1:=R.ve i (by omega)
 have v2:=R.ve (i+1) (by omega)
 have e:=Gn (u6 v1) (u6 v2)
 have p:0<(A (i+1)).2.2*GM.tn (A i) (A (i+1)) (A (i+2)):=mp (R.pos _ (R.mem _ (by omega))) (R.tn i h)
 rw[← e]at p
 exact O0 (mp v1 v2) p
theorem J7.nxt(R:J7 ss A k){i:Nat}(h:i<k){x:Zr}(hx:Cn2 ss x)(h1:0<GM.cr (rA A i) x):x=rA A (i+1)∨0<GM.cr (rA A (i+1)) x :=
 vF R.pos (b:=A (i+1)) (R.mem _ (by omega)) (dQ (u6 (R.ve i (by omega)))) (fe (u6 (R.ve (i+1) (by omega)))) (R.sup i (by omega)) (R.sup (i+1) (by omega)) (R.cr h) hx h1
theorem J7.down(R:J7 ss A k){i:Nat}(h:i+1<k):dt (A 0) (rA A (i+1))<dt (A 0) (rA A i):=by
 have v1:=R.ve i (by omega)
 have v2:=R.ve (i+1) (by omega)
 have e:=FX (A 0) (u6 v1) (u6 v2)
 have p:0<GM.ve (A 0) (A (i+1))*GM.tn (A i) (A (i+1)) (A (i+2)):=mp (R.up (i+1) (by omega) h) (R.tn i (by omega))
 rw[← e]at p
 have:=O0 (mp v1 v2) p
 unfold rA
 grind
theorem J7.down2(R:J7 ss A k):∀{i j:Nat},i<j→j<k→dt (A 0) (rA A j)<dt (A 0) (rA A i):=fun{i j}=>by
 induction j with
 | zero=>intro h;omega
 | succ j ih =>
  intro h1 h2
  have:=R.down h2
  by_cases e:i=j
  ·rw[e];exact this
  ·have:=ih (by omega) (by omega)
   grind
theorem J7.up0(R:J7 ss A k):∀{i:Nat},1≤i→i<k→0<GM.cr (rA A 0) (rA A i):=fun{i}=>by
 induction i with
 | zero=>intro h;omega
 | succ i ih =>
  intro _ h2
  by_cases e:i=0
  ·rw[e];exact R.cr (by omega)
  have h:=ih (by omega) (by omega)
  by_cases hc:0<GM.cr (rA A 0) (rA A (i+1))
  ·exact hc
  exfalso
  have hx:Cn2 ss (ngZ (rA A 0)):=(R.cn (KU _)).ng R.sy
  have e1:GM.cr (rA A i) (ngZ (rA A 0))=GM.cr (rA A 0) (rA A i):=by rw[gz,lT];grind
  have e2:GM.cr (rA A (i+1)) (ngZ (rA A 0))=GM.cr (rA A 0) (rA A (i+1)):=by rw[gz,lT];grind
  rcases R.nxt (i:=i) (by omega) hx (by rw[e1];exact h)with z|z
  ·have ek:GM.cr (rA A (k - 1)) (ngZ (rA A 0))=GM.cr (rA A 0) (rA A (k - 1)):=by rw[gz,lT];grind
   have ck:=R.cr (i:=k - 1) (by have:=R.two;omega)
   rw[show k - 1+1=k by have:=R.two;omega,R.rk]at ck
   have l0:dt (A 0) (ngZ (rA A 0)) = -dt (A 0) (rA A 0):=by unfold dt ngZ;grind
   have l1:dt (A 0) (rA A 0)=(A 0).2.2:=fe (u6 (R.ve 0 (by omega)))
   have lk:dt (A 0) (rA A (k - 1)) = -(A 0).2.2:=by
    have:=dQ (u6 (R.ve (k - 1) (by omega)))
    rw[show k - 1+1=k by have:=R.two;omega,R.lst]at this
    have e3:dt (ng (A 0)) (ry (A (k - 1)) (ng (A 0))) = -dt (A 0) (ry (A (k - 1)) (ng (A 0))):=by unfold dt ng;grind
    rw[e3]at this
    have e4:(ng (A 0)).2.2=(A 0).2.2:=rfl
    rw[e4]at this
    unfold rA
    rw[show k - 1+1=k by have:=R.two;omega,R.lst]
    grind
   rw[z,l1]at l0
   by_cases ei:i+1=k - 1
   ·rw[← ei,← z,jy]at ck;grind
   ·have:=R.down2 (i:=i+1) (j:=k - 1) (by omega) (by omega)
    grind
  ·rw[e2]at z;exact hc z
end
noncomputable def nth(L:List Zr)(i:Nat):Zr:=L.getD (i % L.length) (0,0)
structure Chn(L:List Zr):Prop where
 cr:∀ i,0<cr (nth L i) (nth L (i+1))
 nxt:∀ i,∀ x∈L,0<GM.cr (nth L i) x→x=nth L (i+1)∨0<GM.cr (nth L (i+1)) x
 nd:∀ i j,i<j→j<L.length→nth L i≠nth L j
theorem j6{L:List Zr}(h:L≠[])(i:Nat):nth L i∈L:=by
 have hl:0<L.length:=Lz.mpr h
 unfold nth
 rw[Kj,Kg (Lu _ hl)]
 exact LJ _
theorem BG{L M:List Zr}(hL:Chn L)(hM:Chn M)(nL:L≠[])(nM:M≠[])(hs:∀ z,z∈L↔z∈M)(h0:nth L 0=nth M 0):L=M:=by
 have same:∀ i,nth L i=nth M i:=fun i=>by
  induction i with
  | zero=>exact h0
  | succ i ih =>
   have a1:=hL.cr i
   have a2:=hM.cr i
   rw[← ih]at a2
   have b1:=hL.nxt i (nth M (i+1)) ((hs _).mpr (j6 nM _)) a2
   have b2:=hM.nxt i (nth L (i+1)) ((hs _).mp (j6 nL _)) (by rw[← ih];exact a1)
   rcases b1 with e|b1
   ·exact e.symm
   ·rcases b2 with e|b2
    ·exact e
    ·rw[lT]at b2;grind
 have pL:0<L.length:=Lz.mpr nL
 have pM:0<M.length:=Lz.mpr nM
 have per:∀(K:List Zr),nth K K.length=nth K 0:=fun K=>by unfold nth;rw[Nat.mod_self,Nat.zero_mod]
 have ll:L.length=M.length:=by
  rcases NM L.length M.length with h|h|h
  ·exact absurd (by rw[← same 0,← same L.length,per L]) (hM.nd 0 L.length pL h)
  ·exact h
  ·exact absurd (by rw[same 0,same M.length,per M]) (hL.nd 0 M.length pM h)
 refine NZ ll fun i h1 h2=>?_
 have:=same i
 unfold nth at this
 rw[KP h1,KP h2,Kj,Kj,Kg h1,Kg h2]at this
 exact this
theorem eA{L:List Zr}{i:Nat}(h:i<L.length):nth L i=L[i]:=by
 unfold nth
 rw[KP h,Kj,Kg h];rfl
theorem y4(L:List Zr){n:Nat}(hn:n<L.length)(i:Nat):nth (L.drop n++L.take n) i=nth L (i+n):=by
 have hl:(L.drop n++L.take n).length=L.length:=by rw[JQ,Kr,JX];omega
 have hi:i % L.length<L.length:=Lu _ (by omega)
 unfold nth
 rw[hl,Kj,Kj]
 congr 1
 rw[show(i+n) % L.length=(i % L.length+n) % L.length by rw[Ol]]
 generalize i % L.length=j at *
 by_cases c:j<L.length - n
 ·rw[Lc (by rw[Kr];exact c),NG,KP (by omega),Ng]
 ·rw[KH (by rw[Kr];omega),Kr,LM (by omega),show(j+n) % L.length=j+n - L.length by rw[NH (by omega),KP (by omega)]]
  congr 1;omega
theorem Chn.rot{L:List Zr}(h:Chn L){n:Nat}(hn:n<L.length):Chn (L.drop n++L.take n):=by
 have hl:(L.drop n++L.take n).length=L.length:=by rw[JQ,Kr,JX];omega
 have hm:∀ z,z∈L.drop n++L.take n↔z∈L:=fun z=>by rw[Kf,Or.comm,← Kf,Me]
 refine⟨fun i=>?_,fun i x hx h1=>?_,fun i j h1 h2=>?_⟩
 ·rw[y4 L hn,y4 L hn,show i+1+n=i+n+1 by omega];exact h.cr _
 ·rw[y4 L hn]at h1
  rw[y4 L hn,show i+1+n=i+n+1 by omega]
  exact h.nxt _ x ((hm x).mp hx) h1
 ·rw[y4 L hn,y4 L hn]
  rw[hl]at h2
  have md:∀ a,a<L.length→nth L (a+n)=if a+n<L.length then nth L (a+n)else nth L (a+n - L.length):=fun a ha=>by
   split
   ·rfl
   ·unfold nth
    rw[NH (by omega)]
  rw[md i (by omega),md j h2]
  split<;>split
  ·exact h.nd _ _ (by omega) (by omega)
  ·exact fun e=>h.nd (j+n - L.length) (i+n) (by omega) (by omega) e.symm
  ·omega
  ·exact h.nd _ _ (by omega) (by omega)
noncomputable def E1(A:Nat→T3)(k:Nat):List Zr:=(Mm k).map (rA A)++(Mm k).map fun i=>ngZ (rA A i)
noncomputable def vA(A:Nat→T3)(k j:Nat):Zr:=if j<k then rA A j else ngZ (rA A (j - k))
section
variable {ss:List T3} {A:Nat→T3} {k:Nat}
theorem ao:(E1 A k).length=2*k:=by unfold E1;rw[JQ,JD,JD,Lv];omega
theorem D3(hk:0<k)(i:Nat):nth (E1 A k) i=vA A k (i % (2*k)):=by
 have hi:i % (2*k)<2*k:=Lu _ (by omega)
 unfold nth
 rw[ao,Kj]
 generalize i % (2*k)=j at *
 unfold E1 vA
 split
 ·rename_i h
  rw[Lc (by rw[JD,Lv];exact h),Ki,Nv h];rfl
 ·rename_i h
  rw[KH (by rw[JD,Lv];omega),JD,Lv,Ki,Nv (by omega)];rfl
theorem J7.v1(R:J7 ss A k){j:Nat}(_h:j<2*k):vA A k (if j+1=2*k then 0 else j+1)=if j<k then rA A (j+1)else ngZ (rA A (j+1 - k)):=by
 have h2:=R.two
 unfold vA
 by_cases h1:j+1=2*k
 ·rw[if_pos h1,if_pos (by omega),if_neg (by omega),show j+1 - k=k by omega,R.rk,cA]
 ·rw[if_neg h1]
  by_cases h3:j+1<k
  ·rw[if_pos h3,if_pos (by omega)]
  ·rw[if_neg h3]
   by_cases h4:j<k
   ·rw[if_pos h4,show j+1=k by omega,R.rk,Nat.sub_self]
   ·rw[if_neg h4]
theorem lA{i n:Nat}(hn:0<n):(i+1) % n=if i % n+1=n then 0 else i % n+1:=by
 have h:=Lu i hn
 rw[← Ol]
 split
 ·rename_i e;rw[e,Nat.mod_self]
 ·exact KP (by omega)
theorem pJ(R:J7 ss A k){x:Zr}(h:x∈E1 A k):Cn2 ss x:=by
 unfold E1 at h
 rcases Kf.mp h with h|h
 ·obtain⟨i,hi,rfl⟩:=JK.mp h
  exact R.cn (by have:=Nl.mp hi;omega)
 ·obtain⟨i,hi,rfl⟩:=JK.mp h
  exact(R.cn (by have:=Nl.mp hi;omega)).ng R.sy
theorem J7.chn(R:J7 ss A k):Chn (E1 A k):=by
 have h2:=R.two
 have st:∀ i,nth (E1 A k) (i+1)=if i % (2*k)<k then rA A (i % (2*k)+1)else ngZ (rA A (i % (2*k)+1 - k)):=fun i=>by
  rw[D3 (by omega),lA (by omega),R.v1 (Lu _ (by omega))]
 refine⟨fun i=>?_,fun i x hx h1=>?_,fun i j hij hj=>?_⟩
 ·rw[D3 (by omega),st]
  have hi:i % (2*k)<2*k:=Lu _ (by omega)
  generalize i % (2*k)=j at *
  unfold vA
  by_cases h:j<k
  ·rw[if_pos h,if_pos h];exact R.cr h
  ·rw[if_neg h,if_neg h,Bz,show j+1 - k=j - k+1 by omega];exact R.cr (by omega)
 ·have cx:=pJ R hx
  rw[D3 (by omega)]at h1
  rw[st]
  have hi:i % (2*k)<2*k:=Lu _ (by omega)
  generalize i % (2*k)=j at *
  unfold vA at h1
  by_cases h:j<k
  ·rw[if_pos h]at h1
   rw[if_pos h]
   exact R.nxt h cx h1
  ·rw[if_neg h]at h1
   rw[if_neg h,show j+1 - k=j - k+1 by omega]
   have e1:GM.cr (rA A (j - k)) (ngZ x)=GM.cr (ngZ (rA A (j - k))) x:=by rw[gz,By]
   have e2:GM.cr (rA A (j - k+1)) (ngZ x)=GM.cr (ngZ (rA A (j - k+1))) x:=by rw[gz,By]
   rcases R.nxt (i:=j - k) (by omega) (cx.ng R.sy) (by rw[e1];exact h1)with z|z
   ·left;rw[← z,cA]
   ·right;rw[← e2];exact z
 ·rw[ao]at hj
  rw[D3 (by omega),D3 (by omega),KP (by omega),KP hj]
  have inj:∀{a b:Nat},a<b→b<k→rA A a≠rA A b:=fun{a b} h1 h2 e=>by
   have:=R.down2 h1 h2
   rw[e]at this;grind
  have nz:∀{a b:Nat},a<k→b<k→rA A a≠ngZ (rA A b):=fun{a b} h1 h2 e=>by
   have ca:GM.cr (rA A 0) (rA A a)=GM.cr (rA A 0) (ngZ (rA A b)):=by rw[← e]
   rw[gz]at ca
   by_cases a0:a=0
   ·by_cases b0:b=0
    ·have c1:=R.cr (i:=0) (by omega)
     have e':rA A 0=ngZ (rA A 0):=by rw[a0,b0]at e;exact e
     have z1:(rA A 0).1 = -(rA A 0).1:=congrArg Prod.fst e'
     have z2:(rA A 0).2 = -(rA A 0).2:=congrArg Prod.snd e'
     unfold GM.cr at c1
     have y1:(rA A 0).1=0:=by grind
     have y2:(rA A 0).2=0:=by grind
     rw[y1,y2]at c1;grind
    ·have:=R.up0 (i:=b) (by omega) h2
     rw[a0,jy]at ca;grind
   ·have p:=R.up0 (i:=a) (by omega) h1
    by_cases b0:b=0
    ·rw[b0,jy]at ca;grind
    ·have:=R.up0 (i:=b) (by omega) h2
     grind
  unfold vA
  by_cases c1:i<k
  ·rw[if_pos c1]
   by_cases c2:j<k
   ·rw[if_pos c2];exact inj hij c2
   ·rw[if_neg c2];exact nz c1 (by omega)
  ·rw[if_neg c1,if_neg (by omega)]
   intro e
   exact inj (a:=i - k) (b:=j - k) (by omega) (by omega) (by rw[← cA (rA A (i - k)),e,cA])
end
theorem pK{h0:Sd}{ss:List Sd}:∀(k:Nat) (a:Sd),∀ ab∈(a :: E2 h0 ss k (B4 a ss)).zip (E2 h0 ss k (B4 a ss)),B4 ab.1 ss=some ab.2
 | 0,a,ab,h=>by
  have:E2 h0 ss 0 (B4 a ss)=[]:=by cases B4 a ss<;>rfl
  rw[this]at h;cases h
 | k+1,a,ab,h=>by
  cases e:B4 a ss with
  | none=>rw[e]at h;cases h
  | some f =>
   rw[e]at h
   have e2:E2 h0 ss (k+1) (some f)=if 0<veZ h0 f then f :: E2 h0 ss k (B4 f ss)else[]:=rfl
   rw[e2]at h
   split at h
   ·rw[NC]at h
    rcases JJ.mp h with rfl|h
    ·exact e
    ·exact pK k f ab h
   ·cases h
theorem uO{h0:Sd}{ss:List Sd}:∀(k:Nat) (o:Option Sd),∀ s∈E2 h0 ss k o,0<veZ h0 s
 | 0,o,s,h=>by cases h
 | k+1,none,s,h=>by cases h
 | k+1,some f,s,h=>by
  have e2:E2 h0 ss (k+1) (some f)=if 0<veZ h0 f then f :: E2 h0 ss k (B4 f ss)else[]:=rfl
  rw[e2]at h
  split at h
  ·rename_i hv
   rcases JJ.mp h with rfl|h
   ·exact hv
   ·exact uO k _ s h
  ·cases h
noncomputable def kp(s:Sd):Rat:=(s.1:Rat) / (s.2.2.1:Rat)
noncomputable def kq(s:Sd):Rat:=(s.2.1:Rat) / (s.2.2.1:Rat)
def Lx(t f:Sd):Prop:=kp t<kp f∨(kp t=kp f∧kq t≤kq f)
theorem Lx.trans{a b c:Sd}(h:Lx a b)(g:Lx b c):Lx a c:=by unfold Lx at *;grind
theorem uu{a b x y:Int}(hx:0<x)(hy:0<y):((a*y - b*x:Int):Rat)=((a:Rat) / (x:Rat) - (b:Rat) / (y:Rat))*((x:Rat)*(y:Rat)):=by
 have h1:(0:Rat)<(x:Rat):=A2.mpr hx
 have h2:(0:Rat)<(y:Rat):=A2.mpr hy
 rw[LU,Kn,Kn]
 grind
theorem sgn{a b x y:Int}(hx:0<x)(hy:0<y):(0<a*y - b*x↔(b:Rat) / (y:Rat)<(a:Rat) / (x:Rat))∧(a*y - b*x=0↔(b:Rat) / (y:Rat)=(a:Rat) / (x:Rat)):=by
 have e:=uu (a:=a) (b:=b) hx hy
 have p:(0:Rat)<(x:Rat)*(y:Rat):=KI (A2.mpr hx) (A2.mpr hy)
 generalize a*y - b*x=n at *
 generalize (a:Rat) / (x:Rat)=u at *
 generalize (b:Rat) / (y:Rat)=v at *
 generalize (x:Rat)*(y:Rat)=c at *
 constructor
 ·rw[← A2,e]
  constructor
  ·intro h
   have:=O0 p (x:=u - v) (by grind)
   grind
  ·intro h
   have:=KI p (show 0<u - v by grind)
   grind
 ·constructor
  ·intro h
   rw[h]at e
   have e:(0:Rat)=(u - v)*c:=e
   grind
  ·intro h
   rw[h]at e
   have e:(n:Rat)=0:=by rw[e];grind
   exact_mod_cast e
theorem zq{s f:Sd}(hs:0<s.2.2.1)(hf:0<f.2.2.1):(D4 s f=true→Lx f s)∧(¬ D4 s f=true→Lx s f):=by
 obtain⟨a1,a2⟩:=sgn (a:=s.1) (b:=f.1) hs hf
 obtain⟨b1,b2⟩:=sgn (a:=s.2.1) (b:=f.2.1) hs hf
 have k1:kp s=(s.1:Rat) / (s.2.2.1:Rat):=rfl
 have k2:kp f=(f.1:Rat) / (f.2.2.1:Rat):=rfl
 have k3:kq s=(s.2.1:Rat) / (s.2.2.1:Rat):=rfl
 have k4:kq f=(f.2.1:Rat) / (f.2.2.1:Rat):=rfl
 rw[← k1,← k2]at a1 a2
 rw[← k3,← k4]at b1 b2
 unfold D4 Lx
 by_cases c:s.1*f.2.2.1 - f.1*s.2.2.1=0
 ·rw[if_pos c,decide_eq_true_eq]
  have:=a2.mp c
  constructor
  ·intro h;have:=b1.mp h;grind
  ·intro h;rw[b1]at h;grind
 ·rw[if_neg c,decide_eq_true_eq]
  rw[a2]at c
  constructor
  ·intro h;have:=a1.mp h;grind
  ·intro h;rw[a1]at h;grind
theorem iP:∀(ss:List Sd) (f t:Sd),(∀ s∈ss,0<s.2.2.1)→0<f.2.2.1→(t∈ss∨Lx t f)→Lx t (A0 ss f)
 | [],f,t,_,_,h=>by
  rcases h with h|h
  ·cases h
  ·exact h
 | s :: r,f,t,hp,hf,h=>by
  have hs:=hp s JH
  obtain⟨j1,j2⟩:=zq hs hf
  have e:A0 (s :: r) f=A0 r (if D4 s f=true then s else f):=rfl
  rw[e]
  by_cases c:D4 s f=true
  ·rw[if_pos c]
   refine iP r s t (fun x hx=>hp x (JF _ hx)) hs ?_
   rcases h with h|h
   ·rcases JJ.mp h with rfl|h
    ·exact .inr (.inr ⟨rfl,Kq⟩)
    ·exact .inl h
   ·exact .inr (h.trans (j1 c))
  ·rw[if_neg c]
   refine iP r f t (fun x hx=>hp x (JF _ hx)) hf ?_
   rcases h with h|h
   ·rcases JJ.mp h with rfl|h
    ·exact .inr (j2 c)
    ·exact .inl h
   ·exact .inr h
theorem FE{a h l:Sd}(pa:0<a.2.2.1)(ph:0<h.2.2.1)(pl:0<l.2.2.1)(la:Lx a h)(ll:Lx l h)(v1:0<veZ a h)(v2:0<veZ h l):tnZ a h l≠0:=fun z=>by
 have ra:(0:Rat)<(a.2.2.1:Rat):=A2.mpr pa
 have rh:(0:Rat)<(h.2.2.1:Rat):=A2.mpr ph
 have rl:(0:Rat)<(l.2.2.1:Rat):=A2.mpr pl
 have V1:(0:Rat)<ve (tri a) (tri h):=by rw[w6];exact A2.mpr v1
 have V2:(0:Rat)<ve (tri h) (tri l):=by rw[w6];exact A2.mpr v2
 have Z:tn (tri a) (tri h) (tri l)=0:=by rw[gN,z];rfl
 have ea:(a.1:Rat)=kp a*(a.2.2.1:Rat):=by unfold kp;grind
 have ea2:(a.2.1:Rat)=kq a*(a.2.2.1:Rat):=by unfold kq;grind
 have eh:(h.1:Rat)=kp h*(h.2.2.1:Rat):=by unfold kp;grind
 have eh2:(h.2.1:Rat)=kq h*(h.2.2.1:Rat):=by unfold kq;grind
 have el:(l.1:Rat)=kp l*(l.2.2.1:Rat):=by unfold kp;grind
 have el2:(l.2.1:Rat)=kq l*(l.2.2.1:Rat):=by unfold kq;grind
 unfold Lx at la ll
 have ve1:ve (tri a) (tri h)=(kp a*kq h - kq a*kp h)*((a.2.2.1:Rat)*(h.2.2.1:Rat)):=by
  unfold ve tri
  show(a.1:Rat)*(h.2.1:Rat) - (a.2.1:Rat)*(h.1:Rat)=_
  rw[ea,ea2,eh,eh2];grind
 have ve2:ve (tri h) (tri l)=(kp h*kq l - kq h*kp l)*((h.2.2.1:Rat)*(l.2.2.1:Rat)):=by
  unfold ve tri
  show(h.1:Rat)*(l.2.1:Rat) - (h.2.1:Rat)*(l.1:Rat)=_
  rw[el,el2,eh,eh2];grind
 have te:tn (tri a) (tri h) (tri l)=((kp h*kq l - kq h*kp l) - (kp a*kq l - kq a*kp l)+(kp a*kq h - kq a*kp h))*((a.2.2.1:Rat)*(h.2.2.1:Rat)*(l.2.2.1:Rat)):=by
  unfold tn ve tri
  show(a.2.2.1:Rat)*((h.1:Rat)*(l.2.1:Rat) - (h.2.1:Rat)*(l.1:Rat)) - (h.2.2.1:Rat)*((a.1:Rat)*(l.2.1:Rat) - (a.2.1:Rat)*(l.1:Rat))+(l.2.2.1:Rat)*((a.1:Rat)*(h.2.1:Rat) - (a.2.1:Rat)*(h.1:Rat))=_
  rw[ea,ea2,eh,eh2,el,el2];grind
 have P3:(0:Rat)<(a.2.2.1:Rat)*(h.2.2.1:Rat)*(l.2.2.1:Rat):=KI (KI ra rh) rl
 have U1:0<kp a*kq h - kq a*kp h:=O0 (KI ra rh) (by rw[ve1]at V1;grind)
 have U2:0<kp h*kq l - kq h*kp l:=O0 (KI rh rl) (by rw[ve2]at V2;grind)
 have U3:(kp h*kq l - kq h*kp l) - (kp a*kq l - kq a*kp l)+(kp a*kq h - kq a*kp h)=0:=by
  rw[Z]at te
  have hz:∀ x c:Rat,0<c→0=x*c→x=0:=fun x c h e=>by grind
  exact hz _ _ P3 te
 clear te ve1 ve2 ea ea2 eh eh2 el el2 Z V1 V2 z v1 v2 pa ph pl P3 ra rh rl
 generalize kp a=ap at *
 generalize kq a=aq at *
 generalize kp h=hp at *
 generalize kq h=hq at *
 generalize kp l=lp at *
 generalize kq l=lq at *
 generalize hU:hp*lq - hq*lp=u2 at *
 generalize hV:ap*hq - aq*hp=u1 at *
 have i1:u2*(hp - ap)+u1*(hp - lp)=0:=by grind
 have i2:u2*(hq - aq)+u1*(hq - lq)=0:=by grind
 have g1:ap≤hp:=by grind
 have g2:lp≤hp:=by grind
 have n1:0≤u2*(hp - ap):=JM (E4 U2) (by grind)
 have n2:0≤u1*(hp - lp):=JM (E4 U1) (by grind)
 have y1:u2*(hp - ap)=0:=by grind
 have y2:u1*(hp - lp)=0:=by grind
 have e1:hp=ap:=by grind
 have e2:hp=lp:=by grind
 have g3:aq≤hq:=by grind
 have g4:lq≤hq:=by grind
 have n3:0≤u2*(hq - aq):=JM (E4 U2) (by grind)
 have n4:0≤u1*(hq - lq):=JM (E4 U1) (by grind)
 have y3:u2*(hq - aq)=0:=by grind
 have e3:hq=aq:=by grind
 rw[e1,e3]at hV
 grind
noncomputable def j4(h0:Sd)(l:List Sd):List Sd:=h0 :: l++[j7 h0,j7 (l.headD h0)]
noncomputable def fA(h0:Sd)(l:List Sd)(i:Nat):T3:=tri ((j4 h0 l).getD i h0)
theorem G5{h0:Sd}{l:List Sd}{i:Nat}(h:i<l.length+1):(j4 h0 l).getD i h0=(h0 :: l)[i]'(by rw[JP];exact h):=by
 unfold j4
 rw[Kj,Lc (by rw[JP];exact h),Kg];rfl
theorem X7{h0:Sd}{l:List Sd}:(j4 h0 l).getD (l.length+1) h0=j7 h0:=by
 unfold j4
 rw[Kj,KH (by rw[JP];exact JY _),JP,Nat.sub_self];rfl
theorem cD{h0:Sd}{l:List Sd}:(j4 h0 l).getD (l.length+2) h0=j7 (l.headD h0):=by
 unfold j4
 rw[Kj,KH (by rw[JP];omega),JP,show l.length+2 - (l.length+1)=1 by omega];rfl
theorem qy{h0:Sd}{l:List Sd}{i:Nat}(h:i<l.length+1):((j4 h0 l).getD i h0,(j4 h0 l).getD (i+1) h0)∈(h0 :: l).zip (l++[j7 h0]):=by
 have hz:i<((h0 :: l).zip (l++[j7 h0])).length:=by rw[KO,JP,JQ];show i<min _ (l.length+1);omega
 have e:((h0 :: l).zip (l++[j7 h0]))[i]=((j4 h0 l).getD i h0,(j4 h0 l).getD (i+1) h0):=by
  rw[LK,G5 h]
  congr 1
  by_cases c:i<l.length
  ·rw[G5 (show i+1<l.length+1 by omega),Lo,LO c]
  ·obtain rfl:i=l.length:=by omega
   rw[X7,LF (JY _)]
   simp
 rw[← e]
 exact LJ _
theorem BN{h0:Sd}{l:List Sd}{i:Nat}(h:i<l.length):((j4 h0 l).getD i h0,(j4 h0 l).getD (i+1) h0)∈(h0 :: l).zip l:=by
 have hz:i<((h0 :: l).zip l).length:=by rw[KO,JP];omega
 have e:((h0 :: l).zip l)[i]=((j4 h0 l).getD i h0,(j4 h0 l).getD (i+1) h0):=by
  rw[LK,G5 (show i<l.length+1 by omega),G5 (show i+1<l.length+1 by omega),Lo]
 rw[← e]
 exact LJ _
theorem pv{a b c:Sd}(pa:0<a.2.2.1)(pb:0<b.2.2.1)(pc:0<c.2.2.1)(v1:0<veZ a b)(v2:0<veZ b c)(h:veZ a c≤0):0<tnZ a b c:=by
 unfold tnZ
 have h1:=Nt pa v2
 have h2:=Nt pc v1
 have h3:0≤b.2.2.1 * -veZ a c:=LD (by omega) (by omega)
 rw[Nr]at h3
 omega
theorem Cc{ss:List Sd}(hp:∀ s∈ss,0<s.2.2.1){a b c:Sd}(ha:a∈ss)(hc:c∈ss)(e:B4 a ss=some b)(v2:0<veZ b c):0<tnZ a b c:=by
 obtain⟨mb,v1,h3⟩:=(au (h:=a) hp).yes b e
 by_cases h:0<veZ a c
 ·obtain⟨q1,q2⟩:=h3 c hc h
  rcases Nc 0 (tnZ a b c)with z|z
  ·exact z
  ·have:=q2 (by omega);omega
 ·exact pv (hp a ha) (hp b mb) (hp c hc) v1 v2 (by omega)
theorem AY{ls:List T3}(hok:∀ l∈ls,LineOk l){h0 x:Sd}{l:List Sd}(e:O9 (e7 ls)=h0 :: x :: l) :
  J7 ((e7 ls).map tri) (fA h0 (x :: l)) ((x :: l).length+1)∧A6 h0 (x :: l)++(A6 h0 (x :: l)).map ngZ=E1 (fA h0 (x :: l)) ((x :: l).length+1):=by
 have hp:∀ s∈e7 ls,0<s.2.2.1:=gR hok (i:=0)
 have sy:∀ s∈e7 ls,j7 s∈e7 ls:=mF (ls:=ls) (i:=0)
 have hne:ls≠[]:=fun z=>by rw[z]at e;cases e
 obtain⟨g0,m,e',m0,h⟩:=M8 hok hne
 rw[e]at e'
 cases e'
 rcases h with⟨z,_⟩|⟨_,R,hE⟩
 ·cases z
 have nx:(∀ ab∈(h0 :: x :: l).zip (x :: l),B4 ab.1 (e7 ls)=some ab.2)∧(∀ s∈x :: l,0<veZ h0 s)∧∀ t∈e7 ls,Lx t h0:=by
  cases es:e7 ls with
  | nil=>rw[es]at e;cases e
  | cons s r =>
   rw[es]at e hp
   have e2:O9 (s :: r)=A0 (s :: r) s :: E2 (A0 (s :: r) s) (s :: r) (s :: r).length (B4 (A0 (s :: r) s) (s :: r)):=rfl
   rw[e2]at e
   injection e with e3 e4
   have n1:=pK (h0:=A0 (s :: r) s) (ss:=s :: r) (s :: r).length (A0 (s :: r) s)
   have n2:=uO (h0:=A0 (s :: r) s) (ss:=s :: r) (s :: r).length (B4 (A0 (s :: r) s) (s :: r))
   have n3:=fun t ht=>iP (s :: r) s t hp (hp s JH) (.inl ht)
   rw[e4,e3]at n1
   rw[e4,e3]at n2
   rw[e3]at n3
   exact⟨n1,n2,n3⟩
 obtain⟨nx1,nx2,nx3⟩:=nx
 generalize hL:x :: l=L at *
 have hL1:1≤L.length:=by rw[← hL];exact Nat.succ_le_succ (KU _)
 have ed:∀ i,i<L.length+1→(j4 h0 L).getD i h0∈e7 ls∧(j4 h0 L).getD (i+1) h0∈e7 ls∧0<veZ ((j4 h0 L).getD i h0) ((j4 h0 L).getD (i+1) h0):=fun i hi=>hE _ (qy hi)
 have f0:(j4 h0 L).getD 0 h0=h0:=rfl
 have f1:(j4 h0 L).getD 1 h0=L.headD h0:=by rw[← hL];rfl
 have edk:veZ ((j4 h0 L).getD (L.length+1) h0) ((j4 h0 L).getD (L.length+2) h0)=veZ ((j4 h0 L).getD 0 h0) ((j4 h0 L).getD 1 h0):=by
  rw[X7,cD,f0,f1];unfold veZ j7;grind
 have mk1:(j4 h0 L).getD (L.length+2) h0∈e7 ls:=by
  rw[cD,← f1];exact sy _ (ed 0 (by omega)).2.1
 have mem:∀ i,i≤L.length+2→(j4 h0 L).getD i h0∈e7 ls:=fun i hi=>by
  by_cases c:i<L.length+1
  ·exact(ed i c).1
  ·by_cases c2:i=L.length+1
   ·rw[c2];exact(ed L.length (by omega)).2.1
   ·rw[show i=L.length+2 by omega];exact mk1
 have vei:∀ i,i≤L.length+1→0<veZ ((j4 h0 L).getD i h0) ((j4 h0 L).getD (i+1) h0):=fun i hi=>by
  by_cases c:i<L.length+1
  ·exact(ed i c).2.2
  ·rw[show i=L.length+1 by omega,edk];exact(ed 0 (by omega)).2.2
 have sup0:∀ i,i<L.length+1→Sup ((e7 ls).map tri) (ry (fA h0 L i) (fA h0 L (i+1))):=fun i hi=>by
  have hm:=qy (h0:=h0) (l:=L) hi
  have em:(fA h0 L i,fA h0 L (i+1))∈(tri h0 :: L.map tri).zip (L.map tri++[ng (tri h0)]):=by
   have:(tri h0 :: L.map tri).zip (L.map tri++[ng (tri h0)])=((h0 :: L).zip (L++[j7 h0])).map fun ab=>(tri ab.1,tri ab.2):=by
    rw[← J1,Ky,Kp,Ky,Lw,y7]
   rw[this]
   exact JK.mpr ⟨_,hm,rfl⟩
  exact(R.all _ em).2.2.2
 have lk:fA h0 L (L.length+1)=ng (fA h0 L 0):=by unfold fA;rw[X7,f0,y7]
 have lk1:fA h0 L (L.length+2)=ng (fA h0 L 1):=by unfold fA;rw[cD,f1,y7]
 refine⟨⟨by omega,R.sy,R.pos,fun i hi=>JK.mpr ⟨_,mem i hi,rfl⟩,fun i hi=>?_,fun i hi=>?_,fun i hi=>?_,fun i h1 h2=>?_,lk,lk1⟩,?_⟩
 ·show 0<ve (tri _) (tri _);rw[w6];exact A2.mpr (vei i hi)
 ·by_cases c:i<L.length+1
  ·exact sup0 i c
  ·rw[show i=L.length+1 by omega,lk,lk1,kK]
   exact aM R.sy (sup0 0 (by omega))
 ·show 0<tn (tri _) (tri _) (tri _)
  rw[gN]
  refine A2.mpr ?_
  by_cases c:i<L.length
  ·exact Cc hp (mem i (by omega)) (mem (i+2) (by omega)) (nx1 _ (BN c)) (vei (i+1) (by omega))
  ·obtain rfl:i=L.length:=by omega
   have q1:=vei L.length (by omega)
   have q2:=vei (L.length+1) (by omega)
   have p1:=hp _ (mem L.length (by omega))
   have p2:=hp _ (mem (L.length+1) (by omega))
   have p3:=hp _ (mem (L.length+2) (by omega))
   by_cases h:veZ ((j4 h0 L).getD L.length h0) ((j4 h0 L).getD (L.length+2) h0)≤0
   ·exact pv p1 p2 p3 q1 q2 h
   ·have ge:0≤tnZ ((j4 h0 L).getD L.length h0) ((j4 h0 L).getD (L.length+1) h0) ((j4 h0 L).getD (L.length+2) h0):=by
     have s:=sup0 L.length (by omega) (fA h0 L (L.length+2)) (JK.mpr ⟨_,mk1,rfl⟩)
     have V:(0:Rat)<ve (fA h0 L L.length) (fA h0 L (L.length+1)):=by show 0<ve (tri _) (tri _);rw[w6];exact A2.mpr q1
     have t:=kJ (u6 V) (fA h0 L (L.length+2))
     have:0≤tn (fA h0 L L.length) (fA h0 L (L.length+1)) (fA h0 L (L.length+2)):=by
      rw[← t];exact JM (E4 V) (by grind)
     have:0≤tn (tri ((j4 h0 L).getD L.length h0)) (tri ((j4 h0 L).getD (L.length+1) h0)) (tri ((j4 h0 L).getD (L.length+2) h0)):=this
     rw[gN]at this
     exact BF.mp this
    have ne:=FE (a:=j7 ((j4 h0 L).getD L.length h0)) (h:=h0) (l:=L.headD h0) p1 (hp h0 m0) (hp _ (by rw[← f1];exact(ed 0 (by omega)).2.1)) (nx3 _ (sy _ (mem L.length (by omega)))) (nx3 _ (by rw[← f1];exact(ed 0 (by omega)).2.1)) (by
     rw[X7]at q1
     have:veZ (j7 ((j4 h0 L).getD L.length h0)) h0=veZ ((j4 h0 L).getD L.length h0) (j7 h0):=by unfold veZ j7;grind
     rw[this];exact q1) (by have:=(ed 0 (by omega)).2.2;rw[f0,f1]at this;exact this)
    have eq:tnZ (j7 ((j4 h0 L).getD L.length h0)) h0 (L.headD h0)=tnZ ((j4 h0 L).getD L.length h0) ((j4 h0 L).getD (L.length+1) h0) ((j4 h0 L).getD (L.length+2) h0):=by
     rw[X7,cD];unfold tnZ veZ j7;grind
    rw[eq]at ne
    omega
 ·show 0<ve (tri ((j4 h0 L).getD 0 h0)) (tri _)
  rw[w6,f0,G5 (show i<L.length+1 by omega)]
  obtain⟨j,rfl⟩:∃ j,i=j+1:=⟨i - 1,by omega⟩
  rw[Lo]
  exact A2.mpr (nx2 _ (LJ _))
 ·have er:A6 h0 L=(Mm (L.length+1)).map (rA (fA h0 L)):=by
   unfold A6
   refine NZ (by rw[JD,JD,Lv,KO,JP,JQ];show min _ (L.length+1)=_;omega) fun i h1 h2=>?_
   rw[JD,Lv]at h2
   rw[Oa,Oa,List.getElem_range,LK]
   have g1:=G5 (h0:=h0) (l:=L) h2
   have hB:i<(h0 :: L).length:=by rw[JP];exact h2
   have hA:i<(L++[j7 h0]).length:=by rw[JQ];exact h2
   show ry (tri ((h0 :: L)[i]'hB)) (tri ((L++[j7 h0])[i]'hA))=ry (tri _) (tri _)
   rw[g1]
   congr 2
   by_cases c:i<L.length
   ·rw[G5 (show i+1<L.length+1 by omega),Lo,LO c]
   ·obtain rfl:i=L.length:=by omega
    rw[X7,LF (JY _)]
    simp
  unfold E1
  rw[er,Lf]
  rfl
theorem Dj{a b c:Zr}(h:¬ G0 a b=true)(g:¬ G0 b c=true):¬ G0 a c=true:=by
 unfold G0 at *
 split at h<;>split at g<;>split<;>simp only[decide_eq_true_eq]at *<;>grind
theorem Dn{a b:Zr}(h:¬ G0 a b=true)(g:¬ G0 b a=true):a=b:=by
 unfold G0 at *
 by_cases e:a.1=b.1
 ·rw[if_pos e,decide_eq_true_eq]at h
  rw[if_pos e.symm,decide_eq_true_eq]at g
  exact Prod.ext e (by grind)
 ·rw[if_neg e,decide_eq_true_eq]at h
  rw[if_neg (fun z=>e z.symm),decide_eq_true_eq]at g
  exact absurd (by grind) e
theorem Dl(a:Zr):¬ G0 a a=true:=by
 unfold G0
 rw[if_pos rfl,decide_eq_true_eq];grind
theorem Dk{a b:Zr}(h:G0 a b=true):¬ G0 b a=true:=by
 unfold G0 at *
 split at h<;>split<;>simp only[decide_eq_true_eq]at *<;>grind
theorem pO{rs:List Zr}:∀(i:Nat),∀ j,j<i→¬ G0 (rs.getD j (0,0)) (rs.getD (F1 rs i) (0,0))=true
 | 0,j,h=>absurd h (Nf j)
 | i+1,j,h=>by
  have ih:=pO (rs:=rs) i
  show ¬ G0 _ (rs.getD (if G0 (rs.getD i (0,0)) (rs.getD (F1 rs i) (0,0))=true then i else F1 rs i) (0,0))=true
  split
  ·rename_i c
   by_cases e:j=i
   ·rw[e];exact Dl _
   ·exact Dj (ih j (by omega)) (Dk c)
  ·rename_i c
   by_cases e:j=i
   ·rw[e];exact c
   ·exact ih j (by omega)
theorem yw{rs:List Zr}(h:rs≠[]):∀ x∈aS rs,¬ G0 x (nth (aS rs) 0)=true:=fun x hx=>by
 have hx:=aj.mp hx
 have hp:=dS h rs.length (JY _)
 unfold aS
 rw[y4 rs hp,Mf,eA hp]
 obtain⟨j,hj,rfl⟩:=Mk.mp hx
 have:=pO (rs:=rs) rs.length j hj
 rw[Kj,Kj,Kg hj,Kg hp]at this
 exact this
structure V4(ls:List T3)(cs:List Zr):Prop where
 ne:cs≠[]
 chn:Chn cs
 low:∀ x∈cs,¬ G0 x (nth cs 0)=true
 mem:∀ z,z∈cs↔Cn2 ((e7 ls).map tri) z
theorem bj{ls:List T3}(hok:∀ l∈ls,LineOk l):(v9 ls=none∧v8 ls) ∨ ∃ cs,v9 ls=some cs∧¬ v8 ls∧V4 ls cs:=by
 rcases eN hok with h|⟨cs,e,na,g0,m,R,hm⟩
 ·exact .inl h
 right
 refine⟨cs,e,na,?_⟩
 unfold v9 at e
 cases eh:O9 (e7 ls)with
 | nil=>rw[eh]at e;cases e
 | cons h0 t =>
  cases t with
  | nil=>rw[eh]at e;cases e
  | cons x l =>
   rw[eh]at e
   obtain⟨RC,er⟩:=AY hok eh
   have e:some (aS (A6 h0 (x :: l)++(A6 h0 (x :: l)).map ngZ))=some cs:=e
   rw[er]at e
   cases e
   have hl:(E1 (fA h0 (x :: l)) ((x :: l).length+1)).length=2*((x :: l).length+1):=ao
   have nn:E1 (fA h0 (x :: l)) ((x :: l).length+1)≠[]:=fun z=>by rw[z]at hl;simp at hl
   have hp:=dS nn _ (JY _)
   refine⟨fun z=>?_,RC.chn.rot hp,yw nn,fun z=>?_⟩
   ·have:nth (E1 (fA h0 (x :: l)) ((x :: l).length+1)) 0∈aS (E1 (fA h0 (x :: l)) ((x :: l).length+1)):=aj.mpr (j6 nn 0)
    rw[z]at this;cases this
   ·constructor
    ·intro hz;exact pJ RC (aj.mp hz)
    ·intro⟨sz,s,t,ms,mt,hv,es,et⟩
     rw[hm]
     rcases tot 0 (ve s t)with q|q
     ·exact R.corner sz ms mt (by grind) es et
     ·exact R.corner sz mt ms (by rw[show ve t s = -ve s t by unfold ve;grind];grind) et es
theorem V4.one{ls ms:List T3}{cs ds:List Zr}(h:V4 ls cs)(g:V4 ms ds)(e:∀ z,z∈cs↔z∈ds):cs=ds :=
 BG h.chn g.chn h.ne g.ne e (Dn (g.low _ ((e _).mp (j6 h.ne 0))) (h.low _ ((e _).mpr (j6 g.ne 0))))
theorem eps:∀(xs:List (Rat × Rat)),(∀ x∈xs,0≤x.1∧(x.1=0→x.2=0))→∃ e:Rat,0<e∧∀ x∈xs,e*x.2≤x.1∧-(e*x.2)≤x.1
 | [],_=>⟨1,by decide,fun _ h=>nomatch h⟩
 | x :: xs,h=>by
  obtain⟨e,he,hx⟩:=eps xs fun y hy=>h y (JF _ hy)
  obtain⟨h1,h2⟩:=h x JH
  by_cases c:x.2=0
  ·refine⟨e,he,fun y hy=>?_⟩
   rcases JJ.mp hy with rfl|hy
   ·rw[c];grind
   ·exact hx y hy
  ·have hp:0<x.1:=by
    by_cases z:x.1=0
    ·exact absurd (h2 z) c
    ·grind
   let m:Rat:=if 0<x.2 then x.2 else -x.2
   have hm:0<m:=by show 0<(if 0<x.2 then x.2 else -x.2);split<;>grind
   have hd:0<x.1 / m:=by
    have e1:x.1 / m*m=x.1:=KC (u6 hm)
    exact O0 hm (by rw[Mb,e1];exact hp)
   have e1:x.1 / m*m=x.1:=KC (u6 hm)
   have mle:x.2≤m∧-x.2≤m:=by
    show x.2≤(if 0<x.2 then x.2 else -x.2)∧-x.2≤(if 0<x.2 then x.2 else -x.2)
    split<;>constructor<;>grind
   generalize m=w at *
   have small:∀ f:Rat,0<f→f≤x.1 / w→f*x.2≤x.1∧-(f*x.2)≤x.1:=fun f f0 f1=>by
    have a1:0≤f*(w - x.2):=JM (E4 f0) (by grind)
    have a2:0≤f*(w+x.2):=JM (E4 f0) (by grind)
    have a3:0≤(x.1 / w - f)*w:=JM (by grind) (E4 hm)
    constructor<;>grind
   have scale:∀ f:Rat,0<f→f≤e→∀ y∈xs,f*y.2≤y.1∧-(f*y.2)≤y.1:=fun f f0 f1 y hy=>by
    obtain⟨b1,b2⟩:=hx y hy
    have y0:=(h y (JF _ hy)).1
    rcases tot 0 y.2 with c|c
    ·have a1:0≤(e - f)*y.2:=JM (by grind) c
     have a2:0≤f*y.2:=JM (E4 f0) c
     constructor<;>grind
    ·have a1:0≤(e - f) * -y.2:=JM (by grind) (by grind)
     have a2:0≤f * -y.2:=JM (E4 f0) (by grind)
     constructor<;>grind
   rcases tot e (x.1 / w)with c2|c2
   ·refine⟨e,he,fun y hy=>?_⟩
    rcases JJ.mp hy with rfl|hy
    ·exact small e he c2
    ·exact hx y hy
   ·refine⟨x.1 / w,hd,fun y hy=>?_⟩
    rcases JJ.mp hy with rfl|hy
    ·exact small _ hd Kq
    ·exact scale _ hd c2 y hy
noncomputable def jH(z d:Zr)(e:Rat):Zr:=(z.1+e*d.1,z.2+e*d.2)
theorem nD(s:T3)(z d:Zr)(e:Rat):dt s (jH z d e)=dt s z+e*dt s d:=by unfold dt jH;grind
theorem FC{ss:List T3}(nz:∀ s∈ss,¬ (s.1=0∧s.2.1=0)){z:Zr}(hz:Sup ss z)(hn:¬ ∃ s t,s∈ss∧t∈ss∧ve s t≠0∧dt s z=s.2.2∧dt t z=t.2.2) :
  ∃ d:Zr,¬ (d.1=0∧d.2=0)∧Sup ss (jH z d 1)∧Sup ss (jH z d (-1)):=by
 obtain⟨d,hd,ht⟩:∃ d:Zr,¬ (d.1=0∧d.2=0)∧∀ s∈ss,dt s z=s.2.2→dt s d=0:=by
  by_cases c:∃ s∈ss,dt s z=s.2.2
  ·obtain⟨s,hs,es⟩:=c
   refine⟨(-s.2.1,s.1),fun⟨h1,h2⟩=>nz s hs ⟨h2,by have h1:-s.2.1=0:=h1;grind⟩,fun t ht et=>?_⟩
   by_cases v:ve s t=0
   ·have:dt t (-s.2.1,s.1)=ve s t:=by unfold dt ve;grind
    rw[this,v]
   ·exact absurd ⟨s,t,hs,ht,v,es,et⟩ hn
  ·exact⟨(1,0),fun⟨h,_⟩=>absurd h (by decide),fun s hs es=>absurd ⟨s,hs,es⟩ c⟩
 obtain⟨e,he,hx⟩:=eps (ss.map fun s=>(s.2.2 - dt s z,dt s d)) fun x hx=>by
  obtain⟨s,hs,rfl⟩:=JK.mp hx
  have:=hz s hs
  exact⟨by show 0≤s.2.2 - dt s z;grind,fun h0=>ht s hs (by have h0:s.2.2 - dt s z=0:=h0;grind)⟩
 have cmul:∀ s:T3,dt s (e*d.1,e*d.2)=e*dt s d:=fun s=>by unfold dt;grind
 refine⟨(e*d.1,e*d.2),fun⟨h1,h2⟩=>hd ⟨?_,?_⟩,fun s hs=>?_,fun s hs=>?_⟩
 ·have h1:e*d.1=0:=h1;grind
 ·have h2:e*d.2=0:=h2;grind
 ·obtain⟨b1,b2⟩:=hx _ (JK.mpr ⟨s,hs,rfl⟩)
  rw[nD,cmul]
  have b1:e*dt s d≤s.2.2 - dt s z:=b1
  grind
 ·obtain⟨b1,b2⟩:=hx _ (JK.mpr ⟨s,hs,rfl⟩)
  rw[nD,cmul]
  have b2:-(e*dt s d)≤s.2.2 - dt s z:=b2
  grind
theorem dz{ls:List T3}(hok:∀ l∈ls,LineOk l):∀ s∈(e7 ls).map tri,¬ (s.1=0∧s.2.1=0):=fun s hs ⟨z1,z2⟩=>by
 obtain⟨t,ht,rfl⟩:=JK.mp hs
 obtain⟨c,hc,k,ec⟩:=G1 ht
 have cp:=C5 c
 have:(tri (f7 c k)).1=0∧(tri (f7 c k)).2.1=0:=by
  rcases ec with rfl|rfl
  ·exact⟨z1,z2⟩
  ·rw[y7]at z1 z2
   unfold ng at z1 z2
   exact⟨by grind,by grind⟩
 rw[B0]at this
 have t1:c.1*(cbL c:Rat)=0:=this.1
 have t2:c.2.1*(cbL c:Rat)=0:=this.2
 exact(hok c hc).ne ⟨by grind,by grind⟩
theorem Rim.arnd{ss:List T3}{h0:T3}{l:List T3}(R:Rim ss h0 l)(w:T3)(hw:¬ (w.1=0∧w.2.1=0)) :
  ∃ ab∈jt h0 l,(0≤ve ab.1 w∧0<ve w ab.2)∨(0≤ve (ng ab.1) w∧0<ve w (ng ab.2)):=by
 have e0:ve w (ng h0)=ve h0 w:=by unfold ve ng;grind
 have e1:ve (ng h0) w = -ve h0 w:=by unfold ve ng;grind
 by_cases c1:0<ve h0 w
 ·obtain⟨ab,hm,k1,k2⟩:=mr h0 l (ng h0) (E4 c1) (by rw[e0];exact c1)
  exact⟨ab,hm,.inl ⟨k1,k2⟩⟩
 by_cases c2:ve h0 w<0
 ·have e2:ve w h0 = -ve h0 w:=by unfold ve;grind
  obtain⟨ab,hm,k1,k2⟩:=mr (w:=w) (ng h0) (l.map ng) h0 (by rw[e1];grind) (by rw[e2];grind)
  have em:ab∈((h0 :: l).map ng).zip ((l++[ng h0]).map ng):=by
   rw[Kp,Ky,Ky,Lw,vE];exact hm
  rw[J1]at em
  obtain⟨cd,hcd,rfl⟩:=JK.mp em
  exact⟨cd,hcd,.inr ⟨k1,k2⟩⟩
 ·have c0:ve h0 w=0:=by grind
  cases l with
  | nil=>exact absurd rfl R.ne
  | cons x l =>
   have hm:(h0,x)∈jt h0 (x :: l):=JH
   obtain⟨q1,q2,q3,q4⟩:=R.all _ hm
   have q3:0<ve h0 x:=q3
   by_cases k:0<ve w x
   ·exact⟨_,hm,.inl ⟨by show 0≤ve h0 w;rw[c0];exact Kq,k⟩⟩
   ·refine⟨_,hm,.inr ⟨by show 0≤ve (ng h0) w;rw[e1,c0];exact Kq,?_⟩⟩
    show 0<ve w (ng x)
    have ex:ve w (ng x) = -ve w x:=by unfold ve ng;grind
    rw[ex]
    have hne:ve w x≠0:=fun z=>hw (by
     unfold ve at c0 z q3
     have i1:w.1*(h0.1*x.2.1 - h0.2.1*x.1)=0:=by
      have:w.1*(h0.1*x.2.1 - h0.2.1*x.1)=h0.1*(w.1*x.2.1 - w.2.1*x.1)+x.1*(h0.1*w.2.1 - h0.2.1*w.1):=by grind
      rw[this,z,c0];grind
     have i2:w.2.1*(h0.1*x.2.1 - h0.2.1*x.1)=0:=by
      have:w.2.1*(h0.1*x.2.1 - h0.2.1*x.1)=h0.2.1*(w.1*x.2.1 - w.2.1*x.1)+x.2.1*(h0.1*w.2.1 - h0.2.1*w.1):=by grind
      rw[this,z,c0];grind
     have hv:h0.1*x.2.1 - h0.2.1*x.1≠0:=by grind
     exact⟨by grind,by grind⟩)
    grind
noncomputable def P0(v w z:Zr):Rat:=(w.1 - v.1)*(z.2 - v.2) - (w.2 - v.2)*(z.1 - v.1)
theorem Dy{b:T3}{v w z:Zr}(h1:dt b v=b.2.2)(h2:dt b w=b.2.2):b.2.2*P0 v w z=cr v w*(b.2.2 - dt b z):=by
 unfold P0 cr
 unfold dt at *
 have e:b.1*(w.1 - v.1)+b.2.1*(w.2 - v.2)=0:=by grind
 rw[← h1]
 grind
theorem qr{b:T3}(rb:0<b.2.2){v w z:Zr}(h1:dt b v=b.2.2)(h2:dt b w=b.2.2)(hc:0<cr v w):0≤P0 v w z↔dt b z≤b.2.2:=by
 have e:=Dy (z:=z) h1 h2
 constructor
 ·intro h
  have:0≤cr v w*(b.2.2 - dt b z):=by rw[← e];exact JM (E4 rb) h
  have:=j9 hc this
  grind
 ·intro h
  have:0≤b.2.2*P0 v w z:=by rw[e];exact JM (E4 hc) (by grind)
  exact j9 rb this
theorem J7.all{ss:List T3}{A:Nat→T3}{k:Nat}(R:J7 ss A k)(around:∀ w:T3,¬ (w.1=0∧w.2.1=0)→∃ i,i<k∧((0≤GM.ve (A i) w∧0<GM.ve w (A (i+1)))∨(0≤GM.ve (ng (A i)) w∧0<GM.ve w (ng (A (i+1))))))(nz:∀ s∈ss,¬ (s.1=0∧s.2.1=0)){z:Zr}(h:∀ i,1≤i→i≤k→dt (A i) z≤(A i).2.2∧dt (ng (A i)) z≤(A i).2.2):Sup ss z:=fun s hs=>by
 have h':∀ i,i≤k→dt (A i) z≤(A i).2.2∧dt (ng (A i)) z≤(A i).2.2:=fun i hi=>by
  by_cases c:i=0
  ·have:=h k (by have:=R.two;omega) (JY _)
   rw[R.lst,vE]at this
   have e:(ng (A 0)).2.2=(A 0).2.2:=rfl
   rw[e]at this
   rw[c];exact⟨this.2,this.1⟩
  ·exact h i (by omega) hi
 obtain⟨i,hi,c⟩:=around s (nz s hs)
 have key:∀{a b:T3},0<GM.ve a b→Sup ss (ry a b)→0≤GM.ve a s→0<GM.ve s b→dt a z≤a.2.2→dt b z≤b.2.2→dt s z≤s.2.2:=fun{a b} hv su k1 k2 d1 d2=>by
  have e1:=K7 (w:=s) hv z
  have e2:=K7 (w:=s) hv (ry a b)
  rw[fe (u6 hv),dQ (u6 hv)]at e2
  have q1:0≤GM.ve s b*(a.2.2 - dt a z):=JM (E4 k2) (by grind)
  have q2:0≤GM.ve a s*(b.2.2 - dt b z):=JM k1 (by grind)
  have q3:0≤GM.ve a b*(dt s (ry a b) - dt s z):=by grind
  have:=j9 hv q3
  have:=su s hs
  grind
 have v:=R.ve i (by omega)
 have su:=R.sup i (by omega)
 obtain⟨a1,a2⟩:=h' i (by omega)
 obtain⟨b1,b2⟩:=h' (i+1) (by omega)
 rcases c with⟨k1,k2⟩|⟨k1,k2⟩
 ·exact key v su k1 k2 a1 b1
 ·refine key (a:=ng (A i)) (b:=ng (A (i+1))) ?_ ?_ k1 k2 a2 b2
  ·have:GM.ve (ng (A i)) (ng (A (i+1)))=GM.ve (A i) (A (i+1)):=by unfold GM.ve ng;grind
   rw[this];exact v
  ·rw[kK];exact aM R.sy su
theorem yy{ss:List T3}{A:Nat→T3}{k:Nat}(R:J7 ss A k)(around:∀ w:T3,¬ (w.1=0∧w.2.1=0)→∃ i,i<k∧((0≤GM.ve (A i) w∧0<GM.ve w (A (i+1)))∨(0≤GM.ve (ng (A i)) w∧0<GM.ve w (ng (A (i+1))))))(nz:∀ s∈ss,¬ (s.1=0∧s.2.1=0))(z:Zr):(∀ i,0≤P0 (nth (E1 A k) i) (nth (E1 A k) (i+1)) z)↔Sup ss z:=by
 have h2:=R.two
 have st:∀ i,nth (E1 A k) (i+1)=if i % (2*k)<k then rA A (i % (2*k)+1)else ngZ (rA A (i % (2*k)+1 - k)):=fun i=>by
  rw[D3 (by omega),lA (by omega),R.v1 (Lu _ (by omega))]
 have on1:∀ j,j<k→dt (A (j+1)) (rA A j)=(A (j+1)).2.2∧dt (A (j+1)) (rA A (j+1))=(A (j+1)).2.2:=fun j hj=>⟨dQ (u6 (R.ve j (by omega))),fe (u6 (R.ve (j+1) (by omega)))⟩
 have rp:∀ j,j≤k→0<(A j).2.2:=fun j hj=>R.pos _ (R.mem j (by omega))
 have dn:∀(b:T3) (y:Zr),dt (ng b) (ngZ y)=dt b y:=fun b y=>by unfold dt ng ngZ;grind
 have eq1:∀ j,j<k→(0≤P0 (rA A j) (rA A (j+1)) z↔dt (A (j+1)) z≤(A (j+1)).2.2):=fun j hj=>qr (rp (j+1) (by omega)) (on1 j hj).1 (on1 j hj).2 (R.cr hj)
 have eq2:∀ j,j<k→(0≤P0 (ngZ (rA A j)) (ngZ (rA A (j+1))) z↔dt (ng (A (j+1))) z≤(A (j+1)).2.2):=fun j hj=>by
  have:=qr (b:=ng (A (j+1))) (z:=z) (rp (j+1) (by omega)) (v:=ngZ (rA A j)) (w:=ngZ (rA A (j+1))) (by rw[dn];exact(on1 j hj).1) (by rw[dn];exact(on1 j hj).2) (by rw[Bz];exact R.cr hj)
  exact this
 constructor
 ·intro h
  refine R.all around nz fun i h1 hi=>?_
  obtain⟨j,rfl⟩:∃ j,i=j+1:=⟨i - 1,by omega⟩
  have a:=h j
  have b:=h (j+k)
  rw[D3 (by omega),st,KP (show j<2*k by omega),if_pos (show j<k by omega)]at a
  rw[D3 (by omega),st,KP (show j+k<2*k by omega),if_neg (show ¬ j+k<k by omega),show j+k+1 - k=j+1 by omega]at b
  unfold vA at a b
  rw[if_pos (show j<k by omega)]at a
  rw[if_neg (show ¬ j+k<k by omega),show j+k - k=j by omega]at b
  exact⟨(eq1 j (by omega)).mp a,(eq2 j (by omega)).mp b⟩
 ·intro h i
  rw[D3 (by omega),st]
  have hi:i % (2*k)<2*k:=Lu _ (by omega)
  generalize i % (2*k)=j at *
  unfold vA
  by_cases c:j<k
  ·rw[if_pos c,if_pos c]
   exact(eq1 j c).mpr (h _ (R.mem _ (by omega)))
  ·rw[if_neg c,if_neg c,show j+1 - k=j - k+1 by omega]
   exact(eq2 (j - k) (by omega)).mpr (h _ (R.sy _ (R.mem _ (by omega))))
theorem DP{ls:List T3}(hok:∀ l∈ls,LineOk l){cs:List Zr}(e:v9 ls=some cs)(y u:Rat):(∀ i,0≤P0 (nth cs i) (nth cs (i+1)) (y,u))↔j8 ls y u=true:=by
 rw[← E7 ls (y,u)]
 unfold v9 at e
 cases eh:O9 (e7 ls)with
 | nil=>rw[eh]at e;cases e
 | cons h0 t =>
  cases t with
  | nil=>rw[eh]at e;cases e
  | cons x l =>
   rw[eh]at e
   obtain⟨RC,er⟩:=AY hok eh
   have e:some (aS (A6 h0 (x :: l)++(A6 h0 (x :: l)).map ngZ))=some cs:=e
   rw[er]at e
   cases e
   have hl:(E1 (fA h0 (x :: l)) ((x :: l).length+1)).length=2*((x :: l).length+1):=ao
   have nn:E1 (fA h0 (x :: l)) ((x :: l).length+1)≠[]:=fun z=>by rw[z]at hl;simp at hl
   have hp:=dS nn _ (JY _)
   have hne:ls≠[]:=fun z=>by rw[z]at eh;cases eh
   have R:Rim ((e7 ls).map tri) (tri h0) ((x :: l).map tri):=by
    obtain⟨g0,m,e',m0,h⟩:=M8 hok hne
    rw[eh]at e'
    cases e'
    rcases h with⟨z,_⟩|⟨_,R,_⟩
    ·cases z
    ·exact R
   have around:∀ w:T3,¬ (w.1=0∧w.2.1=0)→∃ i,i<(x :: l).length+1∧((0≤ve (fA h0 (x :: l) i) w∧0<ve w (fA h0 (x :: l) (i+1)))∨(0≤ve (ng (fA h0 (x :: l) i)) w∧0<ve w (ng (fA h0 (x :: l) (i+1))))):=fun w hw=>by
    obtain⟨ab,hm,hc⟩:=R.arnd w hw
    unfold jt at hm
    have e2:∀ L:List Sd,(tri h0 :: L.map tri).zip (L.map tri++[ng (tri h0)])=((h0 :: L).zip (L++[j7 h0])).map fun ab=>(tri ab.1,tri ab.2):=fun L=>by
     rw[← J1,Ky,Kp,Ky,Lw,y7]
    rw[e2 (x :: l)]at hm
    obtain⟨cd,hcd,rfl⟩:=JK.mp hm
    obtain⟨i,hi,ei⟩:=Mk.mp hcd
    have hi2:i<(x :: l).length+1:=by
     rw[KO,JP,JQ]at hi
     exact JN hi (Od _ _)
    refine⟨i,hi2,?_⟩
    have g1:=G5 (h0:=h0) (l:=x :: l) hi2
    rw[LK]at ei
    have f1:fA h0 (x :: l) i=tri cd.1:=by unfold fA;rw[g1,← ei]
    have f2:fA h0 (x :: l) (i+1)=tri cd.2:=by
     unfold fA
     rw[← ei]
     congr 1
     by_cases c:i<(x :: l).length
     ·rw[G5 (show i+1<(x :: l).length+1 by omega),Lo,LO c]
     ·obtain rfl:i=(x :: l).length:=by omega
      rw[X7,LF (JY _)]
      simp
    rw[f1,f2];exact hc
   rw[← yy RC around (dz hok)]
   unfold aS
   constructor
   ·intro h i
    have:=h (i+(E1 (fA h0 (x :: l)) ((x :: l).length+1)).length - F1 (E1 (fA h0 (x :: l)) ((x :: l).length+1)) (E1 (fA h0 (x :: l)) ((x :: l).length+1)).length)
    rw[y4 _ hp,y4 _ hp]at this
    generalize E1 (fA h0 (x :: l)) ((x :: l).length+1)=L at *
    have per:∀ j,nth L (j+L.length)=nth L j:=fun j=>by unfold nth;rw[NN]
    rw[show i+L.length - F1 L L.length+F1 L L.length=i+L.length by omega,show i+L.length - F1 L L.length+1+F1 L L.length=i+1+L.length by omega,per,per]at this
    exact this
   ·intro h i
    rw[y4 _ hp,y4 _ hp,show i+1+F1 (E1 (fA h0 (x :: l)) ((x :: l).length+1)) (E1 (fA h0 (x :: l)) ((x :: l).length+1)).length=i+F1 (E1 (fA h0 (x :: l)) ((x :: l).length+1)) (E1 (fA h0 (x :: l)) ((x :: l).length+1)).length+1 by omega]
    exact h _
structure Ext(P:Zr→Prop)(z:Zr):Prop where
 on:P z
 no:∀ d:Zr,P (jH z d 1)→P (jH z d (-1))→d.1=0∧d.2=0
theorem wK{ss:List T3}(nz:∀ s∈ss,¬ (s.1=0∧s.2.1=0)){z:Zr}:Cn2 ss z↔Ext (Sup ss) z:=by
 constructor
 ·intro hz
  refine⟨hz.sup,fun d s1 s2=>?_⟩
  obtain⟨s,t,ms,mt,hv,es,et⟩:=hz.two
  have key:∀ s∈ss,dt s z=s.2.2→dt s d=0:=fun s ms es=>by
   have a1:=s1 s ms
   have a2:=s2 s ms
   rw[nD]at a1 a2
   grind
  have k1:=key s ms es
  have k2:=key t mt et
  unfold dt at k1 k2
  unfold ve at hv
  refine⟨?_,?_⟩
  ·have:(s.1*t.2.1 - s.2.1*t.1)*d.1=0:=by
    have:(s.1*t.2.1 - s.2.1*t.1)*d.1=t.2.1*(s.1*d.1+s.2.1*d.2) - s.2.1*(t.1*d.1+t.2.1*d.2):=by grind
    rw[this,k1,k2];grind
   generalize s.1*t.2.1 - s.2.1*t.1=u at *
   grind
  ·have:(s.1*t.2.1 - s.2.1*t.1)*d.2=0:=by
    have:(s.1*t.2.1 - s.2.1*t.1)*d.2=s.1*(t.1*d.1+t.2.1*d.2) - t.1*(s.1*d.1+s.2.1*d.2):=by grind
    rw[this,k1,k2];grind
   generalize s.1*t.2.1 - s.2.1*t.1=u at *
   grind
 ·intro⟨on,no⟩
  refine⟨on,?_⟩
  by_cases c:∃ s t,s∈ss∧t∈ss∧ve s t≠0∧dt s z=s.2.2∧dt t z=t.2.2
  ·exact c
  obtain⟨d,hd,s1,s2⟩:=FC nz on c
  exact absurd (no d s1 s2) hd
noncomputable def lmZ(a b c d:Rat)(z:Zr):Zr:=(a*z.1+b*z.2,c*z.1+d*z.2)
theorem vL(a b c d:Rat)(z x:Zr)(e:Rat):lmZ a b c d (jH z x e)=jH (lmZ a b c d z) (lmZ a b c d x) e:=by
 unfold lmZ jH
 refine Prod.ext ?_ ?_
 ·show a*(z.1+e*x.1)+b*(z.2+e*x.2)=a*z.1+b*z.2+e*(a*x.1+b*x.2);grind
 ·show c*(z.1+e*x.1)+d*(z.2+e*x.2)=c*z.1+d*z.2+e*(c*x.1+d*x.2);grind
theorem qc{a b c d:Rat}(h:a*d - b*c≠0){x:Zr}(h1:(lmZ a b c d x).1=0)(h2:(lmZ a b c d x).2=0):x.1=0∧x.2=0:=by
 have h1:a*x.1+b*x.2=0:=h1
 have h2:c*x.1+d*x.2=0:=h2
 have e1:(a*d - b*c)*x.1=d*(a*x.1+b*x.2) - b*(c*x.1+d*x.2):=by grind
 have e2:(a*d - b*c)*x.2=a*(c*x.1+d*x.2) - c*(a*x.1+b*x.2):=by grind
 rw[h1,h2]at e1 e2
 generalize a*d - b*c=D at *
 exact⟨by grind,by grind⟩
noncomputable def lmB(a b c d:Rat)(z:Zr):Zr:=lmZ (d / (a*d - b*c)) (-b / (a*d - b*c)) (-c / (a*d - b*c)) (a / (a*d - b*c)) z
theorem jg{a b c d:Rat}(h:a*d - b*c≠0)(z:Zr):lmZ a b c d (lmB a b c d z)=z:=by
 have e:∀ x:Rat,x / (a*d - b*c)*(a*d - b*c)=x:=fun x=>KC h
 have e1:=e d
 have e2:=e (-b)
 have e3:=e (-c)
 have e4:=e a
 unfold lmB lmZ
 generalize hD:a*d - b*c=D at *
 refine Prod.ext ?_ ?_
 ·show a*(d / D*z.1 + -b / D*z.2)+b*(-c / D*z.1+a / D*z.2)=z.1
  have:D*(a*(d / D*z.1 + -b / D*z.2)+b*(-c / D*z.1+a / D*z.2))=D*z.1:=by
   generalize d / D=x1 at *;generalize -b / D=x2 at *;generalize -c / D=x3 at *;generalize a / D=x4 at *
   grind
  exact F2 h this
 ·show c*(d / D*z.1 + -b / D*z.2)+d*(-c / D*z.1+a / D*z.2)=z.2
  have:D*(c*(d / D*z.1 + -b / D*z.2)+d*(-c / D*z.1+a / D*z.2))=D*z.2:=by
   generalize d / D=x1 at *;generalize -b / D=x2 at *;generalize -c / D=x3 at *;generalize a / D=x4 at *
   grind
  exact F2 h this
theorem Dp{a b c d:Rat}(h:a*d - b*c≠0){x y:Zr}(e:lmZ a b c d x=lmZ a b c d y):x=y:=by
 have e1:a*x.1+b*x.2=a*y.1+b*y.2:=congrArg Prod.fst e
 have e2:c*x.1+d*x.2=c*y.1+d*y.2:=congrArg Prod.snd e
 have:=qc h (x:=(x.1 - y.1,x.2 - y.2)) (by show a*(x.1 - y.1)+b*(x.2 - y.2)=0;grind) (by show c*(x.1 - y.1)+d*(x.2 - y.2)=0;grind)
 have t1:x.1 - y.1=0:=this.1
 have t2:x.2 - y.2=0:=this.2
 exact Prod.ext (by grind) (by grind)
theorem DD{P Q:Zr→Prop}{a b c d:Rat}(h:a*d - b*c≠0)(pq:∀ z,Q z↔P (lmZ a b c d z)){z:Zr}:Ext Q z↔Ext P (lmZ a b c d z):=by
 constructor
 ·intro⟨on,no⟩
  refine⟨(pq z).mp on,fun e e1 e2=>?_⟩
  have b0:=jg h e
  rw[← b0,← vL,← pq]at e1 e2
  obtain⟨h1,h2⟩:=no _ e1 e2
  rw[← b0]
  unfold lmZ
  rw[h1,h2]
  exact⟨by show a*0+b*0=0;grind,by show c*0+d*0=0;grind⟩
 ·intro⟨on,no⟩
  refine⟨(pq z).mpr on,fun e e1 e2=>?_⟩
  rw[pq,vL]at e1 e2
  obtain⟨h1,h2⟩:=no _ e1 e2
  exact qc h h1 h2
theorem qG(a b c d:Rat)(x y:Zr):cr (lmZ a b c d x) (lmZ a b c d y)=(a*d - b*c)*cr x y:=by unfold cr lmZ;grind
noncomputable def A4(f:Nat→Rat):Nat→Rat
 | 0=>0
 | n+1=>A4 f n+f n
noncomputable def a2(L:List Zr):Rat:=A4 (fun i=>cr (nth L i) (nth L (i+1))) L.length
theorem N2{f g:Nat→Rat}:∀{n:Nat},(∀ i,i<n→f i=g i)→A4 f n=A4 g n:=fun{n}=>by
 induction n with
 | zero=>intro _;rfl
 | succ n ih=>intro h;show A4 f n+f n=A4 g n+g n;rw[ih fun i hi=>h i (by omega),h n (by omega)]
theorem dq(f:Nat→Rat)(m:Nat):∀ n:Nat,A4 f (m+n)=A4 f m+A4 (fun i=>f (m+i)) n:=fun n=>by
 induction n with
 | zero=>show A4 f m=A4 f m+0;grind
 | succ n ih=>show A4 f (m+n)+f (m+n)=A4 f m+(A4 (fun i=>f (m+i)) n+f (m+n));rw[ih];grind
theorem ur(k:Rat)(f:Nat→Rat):∀ n:Nat,A4 (fun i=>k*f i) n=k*A4 f n:=fun n=>by
 induction n with
 | zero=>show(0:Rat)=k*0;grind
 | succ n ih=>show A4 (fun i=>k*f i) n+k*f n=k*(A4 f n+f n);rw[ih];grind
theorem je(L:List Zr)(i:Nat):nth L (i+L.length)=nth L i:=by unfold nth;rw[NN]
theorem uq(f:Nat→Rat){n:Nat}(per:∀ i,f (i+n)=f i):∀ k,A4 (fun i=>f (i+k)) n=A4 f n:=fun k=>by
 induction k with
 | zero=>rfl
 | succ k ih =>
  rw[← ih]
  have h1:=dq (fun i=>f (i+k)) 1 n
  have h2:=dq (fun i=>f (i+k)) n 1
  have e1:A4 (fun i=>f (i+k)) (1+n)=A4 (fun i=>f (i+k)) (n+1):=by rw[Ng]
  rw[h1,h2]at e1
  have f1:A4 (fun i=>f (i+k)) 1=f k:=by show(0:Rat)+f (0+k)=f k;rw[Mf];grind
  have f2:A4 (fun i=>(fun i=>f (i+k)) (n+i)) 1=f k:=by
   show(0:Rat)+f (n+0+k)=f k
   rw[show n+0+k=k+n by omega,per];grind
  have f3:A4 (fun i=>(fun i=>f (i+k)) (1+i)) n=A4 (fun i=>f (i+(k+1))) n:=N2 fun i _=>by show f (1+i+k)=f (i+(k+1));rw[show 1+i+k=i+(k+1)by omega]
  rw[f1,f2,f3]at e1
  grind
theorem DW(L:List Zr){n:Nat}(hn:n<L.length):a2 (L.drop n++L.take n)=a2 L:=by
 have hl:(L.drop n++L.take n).length=L.length:=by rw[JQ,Kr,JX];omega
 unfold a2
 rw[hl,N2 (g:=fun i=>(fun j=>cr (nth L j) (nth L (j+1))) (i+n)) fun i _=>by
  show cr (nth (L.drop n++L.take n) i) (nth (L.drop n++L.take n) (i+1))=cr (nth L (i+n)) (nth L (i+n+1))
  rw[y4 L hn,y4 L hn,show i+1+n=i+n+1 by omega]]
 exact uq (fun j=>cr (nth L j) (nth L (j+1))) (fun i=>by
  show cr (nth L (i+L.length)) (nth L (i+L.length+1))=cr (nth L i) (nth L (i+1))
  rw[show i+L.length+1=i+1+L.length by omega,je,je]) n
theorem K3{f:Zr→Zr}{L:List Zr}(h:L≠[])(i:Nat):nth (L.map f) i=f (nth L i):=by
 have hl:0<L.length:=Lz.mpr h
 have hi:i % L.length<L.length:=Lu _ hl
 unfold nth
 rw[JD,Kj,Kj,Ki,Kg hi];rfl
theorem Gw(a b c d:Rat){L:List Zr}(h:L≠[]):a2 (L.map (lmZ a b c d))=(a*d - b*c)*a2 L:=by
 unfold a2
 rw[JD,← ur]
 exact N2 fun i _=>by rw[K3 h,K3 h,qG]
theorem Chn.lm{a b c d:Rat}(h:0<a*d - b*c){L:List Zr}(nL:L≠[])(hL:Chn L):Chn (L.map (lmZ a b c d)):=by
 refine⟨fun i=>?_,fun i x hx hc=>?_,fun i j h1 h2 e=>?_⟩
 ·rw[K3 nL,K3 nL,qG];exact KI h (hL.cr i)
 ·obtain⟨y,hy,rfl⟩:=JK.mp hx
  rw[K3 nL,qG]at hc
  rw[K3 nL]
  rcases hL.nxt i y hy (O0 h hc)with e|e
  ·left;rw[e]
  ·right;rw[qG];exact KI h e
 ·rw[JD]at h2
  rw[K3 nL,K3 nL]at e
  exact hL.nd i j h1 h2 (Dp (by grind) e)
theorem Ab{L M:List Zr}(hL:Chn L)(hM:Chn M)(nL:L≠[])(nM:M≠[])(hs:∀ z,z∈L↔z∈M):a2 L=a2 M:=by
 have m0:=(hs _).mp (j6 nL 0)
 obtain⟨k,hk,ek⟩:=Nw m0
 have hr:=hM.rot hk
 have hmem:∀ z,z∈M.drop k++M.take k↔z∈M:=fun z=>by rw[Kf,Or.comm,← Kf,Me]
 have nr:M.drop k++M.take k≠[]:=fun z=>by
  have:=(hmem _).mpr m0
  rw[z]at this;cases this
 have:L=M.drop k++M.take k:=BG hL hr nL nr (fun z=>by rw[hs,hmem]) (by rw[y4 M hk,Mf,eA hk,ek])
 rw[this,DW M hk]
theorem nH{ls ms:List T3}(hl:∀ l∈ls,LineOk l)(hm:∀ l∈ms,LineOk l){a b c d:Rat}(h:a*d - b*c≠0)(pq:∀ z:Zr,j8 ms z.1 z.2=j8 ls (lmZ a b c d z).1 (lmZ a b c d z).2)
  {cs ds:List Zr} (C:V4 ls cs) (D:V4 ms ds) (z:Zr):z∈ds↔lmZ a b c d z∈cs:=by
 rw[C.mem,D.mem,wK (dz hl),wK (dz hm)]
 exact DD h fun z=>by rw[E7,E7,pq]
theorem wI{ls ms:List T3}(hl:∀ l∈ls,LineOk l)(hm:∀ l∈ms,LineOk l){a b c d:Rat}(h:0<a*d - b*c)(pq:∀ z:Zr,j8 ms z.1 z.2=j8 ls (lmZ a b c d z).1 (lmZ a b c d z).2)
  {cs ds:List Zr} (C:V4 ls cs) (D:V4 ms ds):(a*d - b*c)*a2 ds=a2 cs:=by
 have hn:a*d - b*c≠0:=by grind
 rw[← Gw a b c d D.ne]
 refine Ab (D.chn.lm h D.ne) C.chn (fun z=>D.ne (List.map_eq_nil_iff.mp z)) C.ne fun z=>?_
 rw[JK]
 constructor
 ·rintro⟨y,hy,rfl⟩;exact(nH hl hm hn pq C D y).mp hy
 ·intro hz
  exact⟨lmB a b c d z,(nH hl hm hn pq C D _).mpr (by rw[jg hn];exact hz),jg hn z⟩
structure F6(cs:List Zr)(P:Zr→Prop):Prop where
 ne:cs≠[]
 chn:Chn cs
 low:∀ x∈cs,¬ G0 x (nth cs 0)=true
 on:∀ x∈cs,P x
 ins:∀ z,P z ↔ ∀ i,0≤P0 (nth cs i) (nth cs (i+1)) z
 zero:P (0,0)
 sym:∀ x∈cs,ngZ x∈cs
theorem aW{x c:Zr}(h:¬ G0 x c=true):c.1<x.1∨(c.1=x.1∧c.2≤x.2):=by
 unfold G0 at h
 by_cases e:x.1=c.1
 ·simp[e]at h;right;exact⟨e.symm,by grind⟩
 ·simp[e]at h;left;grind
noncomputable def cum(f:Rat→Rat):List Rat→Rat→Rat
 | a :: b :: r,x=>(if b≤x then(b - a)*(f a+f b)else 0)+cum f (b :: r) x
 | _,_=>0
theorem C1(f:Rat→Rat):∀(G:List Rat) (a x:Rat),Ris (a :: G)→x≤a→cum f (a :: G) x=0:=fun G=>by
 induction G with
 | nil=>intro a x _ _;rfl
 | cons b r ih =>
  intro a x h hx
  obtain⟨h1,h2⟩:=KJ.mp h
  have ab:=h1 b (.head _)
  show(if b≤x then(b - a)*(f a+f b)else 0)+cum f (b :: r) x=0
  rw[if_neg (by grind),ih b x h2 (by grind)];grind
theorem lS{f:Rat→Rat}{c s:Rat}:∀(G:List Rat) (a b:Rat),Ris G→a∈G→b∈G→a≤b→(∀ x∈G,a≤x→x≤b→f x=c+s*x)→cum f G b - cum f G a=(b - a)*(f a+f b):=fun G=>by
 induction G with
 | nil=>intro a b _ h;cases h
 | cons g r ih =>
  intro a b hG ha hb ab ev
  obtain⟨h1,h2⟩:=KJ.mp hG
  by_cases eg:a=g
  ·subst eg
   rw[C1 f r a a hG (by grind)]
   by_cases eb:b=a
   ·subst eb;rw[C1 f r b b hG (by grind)];grind
   have hb:b∈r:=by rcases JJ.mp hb with e|e;exact absurd e eb;exact e
   cases r with
   | nil=>cases hb
   | cons g' r =>
    have gb:g'≤b:=by
     rcases JJ.mp hb with e|e
     ·grind
     ·have:=(KJ.mp h2).1 b e;grind
    have ag:=h1 g' (.head _)
    have:=ih g' b h2 (.head _) hb gb fun x hx x1 x2=>ev x (.tail _ hx) (by grind) x2
    rw[C1 f r g' g' h2 (by grind)]at this
    show(if g'≤b then(g' - a)*(f a+f g')else 0)+cum f (g' :: r) b - 0=_
    rw[if_pos gb]
    have e1:=ev a (.head _) (by grind) ab
    have e2:=ev g' (.tail _ (.head _)) (by grind) gb
    have e3:=ev b (.tail _ hb) ab (by grind)
    rw[e1,e2,e3]at *
    generalize cum f (g' :: r) b=C at *
    grind
  ·have ha:a∈r:=by rcases JJ.mp ha with e|e;exact absurd e eg;exact e
   have ga:=h1 a ha
   have hb:b∈r:=by rcases JJ.mp hb with e|e;(exfalso;grind);exact e
   have gb:=h1 b hb
   cases r with
   | nil=>cases ha
   | cons g' r =>
    have g1:g'≤a:=by
     rcases JJ.mp ha with e|e
     ·grind
     ·have:=(KJ.mp h2).1 a e;grind
    have:=ih a b h2 ha hb ab fun x hx=>ev x (.tail _ hx)
    show(if g'≤b then(g' - g)*(f g+f g')else 0)+cum f (g' :: r) b - ((if g'≤a then(g' - g)*(f g+f g')else 0)+cum f (g' :: r) a)=_
    rw[if_pos (by grind),if_pos g1]
    generalize cum f (g' :: r) b=C at *
    generalize cum f (g' :: r) a=C' at *
    grind
section
variable {cs:List Zr} {P:Zr→Prop}
theorem F6.rise0(Q:F6 cs P):(nth cs 0).1<(nth cs 1).1:=by
 rcases aW (Q.low _ (j6 Q.ne 1))with h|⟨h1,h2⟩
 ·exact h
 exfalso
 have c:=Q.chn.cr 0
 have s:=aW (Q.low _ (Q.sym _ (j6 Q.ne 0)))
 unfold cr at c
 have s:(nth cs 0).1 < -(nth cs 0).1∨((nth cs 0).1 = -(nth cs 0).1∧(nth cs 0).2 ≤ -(nth cs 0).2):=s
 rw[show 0+1=1 from rfl]at c
 rw[← h1]at c
 generalize (nth cs 0).1=a at *
 generalize (nth cs 0).2=b at *
 generalize (nth cs 1).2=d at *
 have:a≤0:=by grind
 have:a*d - b*a=a*(d - b):=by grind
 rw[this]at c
 have:a*(d - b)≤0:=by
  have:=JM (show 0 ≤ -a by grind) (show 0≤d - b by grind)
  grind
 grind
theorem F6.turn(Q:F6 cs P){i:Nat}(h1:(nth cs (i+1)).1≤(nth cs i).1)(h2:(nth cs (i+1)).1<(nth cs (i+2)).1):nth cs (i+1)=nth cs 0:=by
 have c:=Q.chn.cr i
 have k:∀ z,P z→0≤P0 (nth cs i) (nth cs (i+1)) z∧0≤P0 (nth cs (i+1)) (nth cs (i+2)) z:=fun z hz=>⟨(Q.ins z).mp hz i,(Q.ins z).mp hz (i+1)⟩
 have k0:=k _ Q.zero
 have k2:=(k _ (Q.on _ (j6 Q.ne (i+2)))).1
 obtain⟨k3,k4⟩:=k _ (Q.on _ (j6 Q.ne 0))
 have lw:=aW (Q.low _ (j6 Q.ne (i+1)))
 generalize nth cs i=v at *
 generalize nth cs (i+1)=w at *
 generalize nth cs (i+2)=x at *
 generalize nth cs 0=o at *
 obtain⟨v1,v2⟩:=v
 obtain⟨w1,w2⟩:=w
 obtain⟨x1,x2⟩:=x
 obtain⟨o1,o2⟩:=o
 unfold P0 at *
 unfold cr at c
 simp only at *
 have idn:∀ z1 z2:Rat,((w1 - v1)*(x2 - v2) - (w2 - v2)*(x1 - v1))*(z1 - w1)=((w1 - v1)*(z2 - v2) - (w2 - v2)*(z1 - v1))*(x1 - w1) - ((x1 - w1)*(z2 - w2) - (x2 - w2)*(z1 - w1))*(w1 - v1):=fun z1 z2=>by grind
 have i0:=idn 0 0
 have io:=idn o1 o2
 have e0:(w1 - v1)*(0 - v2) - (w2 - v2)*(0 - v1)=v1*w2 - v2*w1:=by grind
 have p0:0<((w1 - v1)*(0 - v2) - (w2 - v2)*(0 - v1))*(x1 - w1):=by rw[e0];exact KI c (by grind)
 have p1:0 ≤ -(((x1 - w1)*(0 - w2) - (x2 - w2)*(0 - w1))*(w1 - v1)):=by
  have:=JM k0.2 (show 0≤v1 - w1 by grind);grind
 have D0:(w1 - v1)*(x2 - v2) - (w2 - v2)*(x1 - v1)≠0:=fun z=>by rw[z]at i0;grind
 have q0:0≤((w1 - v1)*(o2 - v2) - (w2 - v2)*(o1 - v1))*(x1 - w1):=JM k3 (by grind)
 have q1:0 ≤ -(((x1 - w1)*(o2 - w2) - (x2 - w2)*(o1 - w1))*(w1 - v1)):=by
  have:=JM k4 (show 0≤v1 - w1 by grind);grind
 have D1:0<(w1 - v1)*(x2 - v2) - (w2 - v2)*(x1 - v1):=by grind
 have ow:0≤o1 - w1:=by
  refine j9 D1 ?_
  rw[io]
  generalize ((w1 - v1)*(o2 - v2) - (w2 - v2)*(o1 - v1))*(x1 - w1)=A at *
  generalize ((x1 - w1)*(o2 - w2) - (x2 - w2)*(o1 - w1))*(w1 - v1)=B at *
  grind
 have e1:o1=w1:=by grind
 subst e1
 have e2:0≤(x1 - o1)*(o2 - w2):=by grind
 have e3:=j9 (show 0<x1 - o1 by grind) e2
 have:w2=o2:=by grind
 rw[this]
theorem F6.conv(Q:F6 cs P){x y:Zr}(hx:P x)(hy:P y){t:Rat}(t0:0≤t)(t1:t≤1):P (x.1+(y.1 - x.1)*t,x.2+(y.2 - x.2)*t):=by
 rw[Q.ins]
 intro i
 have a:=(Q.ins x).mp hx i
 have b:=(Q.ins y).mp hy i
 have:P0 (nth cs i) (nth cs (i+1)) (x.1+(y.1 - x.1)*t,x.2+(y.2 - x.2)*t)=(1 - t)*P0 (nth cs i) (nth cs (i+1)) x+t*P0 (nth cs i) (nth cs (i+1)) y:=by unfold P0;grind
 rw[this]
 have h1:=JM (show 0≤1 - t by grind) a
 have h2:=JM t0 b
 grind
structure V5(P:Zr→Prop)(lo hi:Rat→Rat):Prop where
 at':∀ g u,P (g,u)→∀ v,P (g,v)↔lo g≤v∧v≤hi g
variable {lo hi:Rat→Rat}
theorem pS{a b x y g:Rat}(hab:a≠b):x+(y - x)*((g - a) / (b - a))=(x - (y - x) / (b - a)*a)+(y - x) / (b - a)*g:=by
 have h:b - a≠0:=by grind
 rw[Mw,Mw]
 grind
theorem gM{a b g:Rat}(hab:a≠b):a+(b - a)*((g - a) / (b - a))=g:=by
 have h:b - a≠0:=by grind
 have:=KC (a:=g - a) h
 grind
theorem nA{a b g:Rat}(h:(a≤g∧g≤b∧a<b)∨(b≤g∧g≤a∧b<a)):0≤(g - a) / (b - a)∧(g - a) / (b - a)≤1:=by
 have hn:b - a≠0:=by grind
 have e:=KC (a:=g - a) hn
 generalize (g - a) / (b - a)=t at *
 rcases h with⟨h1,h2,h3⟩|⟨h1,h2,h3⟩
 ·refine⟨j9 (show 0<b - a by grind) (by grind),?_⟩
  have:=j9 (v:=b - a) (x:=1 - t) (by grind) (by grind)
  grind
 ·refine⟨j9 (show 0<a - b by grind) (by grind),?_⟩
  have:=j9 (v:=a - b) (x:=1 - t) (by grind) (by grind)
  grind
theorem F6.lo_on(Q:F6 cs P)(C:V5 P lo hi){i:Nat}(h:(nth cs i).1<(nth cs (i+1)).1){g:Rat}(h1:(nth cs i).1≤g)(h2:g≤(nth cs (i+1)).1) :
  lo g=(nth cs i).2+((nth cs (i+1)).2 - (nth cs i).2)*((g - (nth cs i).1) / ((nth cs (i+1)).1 - (nth cs i).1)):=by
 obtain⟨t0,t1⟩:=nA (.inl ⟨h1,h2,h⟩)
 have te:=gM (a:=(nth cs i).1) (b:=(nth cs (i+1)).1) (g:=g) (by grind)
 have pe:=Q.conv (Q.on _ (j6 Q.ne i)) (Q.on _ (j6 Q.ne (i+1))) t0 t1
 rw[te]at pe
 obtain⟨a1,a2⟩:=(C.at' _ _ pe _).mp pe
 have pl:=(C.at' _ _ pe (lo g)).mpr ⟨by grind,by grind⟩
 have iq:=(Q.ins _).mp pl i
 unfold P0 at iq
 generalize (g - (nth cs i).1) / ((nth cs (i+1)).1 - (nth cs i).1)=t at *
 generalize (nth cs i).1=a at *
 generalize (nth cs i).2=x at *
 generalize (nth cs (i+1)).1=b at *
 generalize (nth cs (i+1)).2=y at *
 simp only at iq
 have:0≤(b - a)*(lo g - (x+(y - x)*t)):=by
  have:(b - a)*(lo g - (x+(y - x)*t))=(b - a)*(lo g - x) - (y - x)*((b - a)*t):=by grind
  rw[this,show(b - a)*t=g - a by grind]
  exact iq
 have:=j9 (show 0<b - a by grind) this
 grind
theorem F6.hi_on(Q:F6 cs P)(C:V5 P lo hi){i:Nat}(h:(nth cs (i+1)).1<(nth cs i).1){g:Rat}(h1:(nth cs (i+1)).1≤g)(h2:g≤(nth cs i).1) :
  hi g=(nth cs i).2+((nth cs (i+1)).2 - (nth cs i).2)*((g - (nth cs i).1) / ((nth cs (i+1)).1 - (nth cs i).1)):=by
 obtain⟨t0,t1⟩:=nA (.inr ⟨h1,h2,h⟩)
 have te:=gM (a:=(nth cs i).1) (b:=(nth cs (i+1)).1) (g:=g) (by grind)
 have pe:=Q.conv (Q.on _ (j6 Q.ne i)) (Q.on _ (j6 Q.ne (i+1))) t0 t1
 rw[te]at pe
 obtain⟨a1,a2⟩:=(C.at' _ _ pe _).mp pe
 have pl:=(C.at' _ _ pe (hi g)).mpr ⟨by grind,by grind⟩
 have iq:=(Q.ins _).mp pl i
 unfold P0 at iq
 generalize (g - (nth cs i).1) / ((nth cs (i+1)).1 - (nth cs i).1)=t at *
 generalize (nth cs i).1=a at *
 generalize (nth cs i).2=x at *
 generalize (nth cs (i+1)).1=b at *
 generalize (nth cs (i+1)).2=y at *
 simp only at iq
 have:0≤(a - b)*((x+(y - x)*t) - hi g):=by
  have:(a - b)*((x+(y - x)*t) - hi g)=(b - a)*(hi g - x) - (y - x)*((b - a)*t):=by grind
  rw[this,show(b - a)*t=g - a by grind]
  exact iq
 have:=j9 (show 0<a - b by grind) this
 grind
theorem wc{a b:Rat}:(a - a) / (b - a)=0:=by rw[Mw];grind
theorem wb{a b:Rat}(h:a≠b):(b - a) / (b - a)=1:=by
 have hn:b - a≠0:=by grind
 have:=KC (a:=b - a) hn
 exact F2 hn (by grind)
theorem F6.edge_lo(Q:F6 cs P)(C:V5 P lo hi){G:List Rat}(hG:Ris G)(hh:∀ z∈cs,z.1∈G){i:Nat}(h:(nth cs i).1<(nth cs (i+1)).1) :
  ((nth cs i).1 - (nth cs (i+1)).1)*((nth cs i).2+(nth cs (i+1)).2) = -(cum lo G (nth cs (i+1)).1 - cum lo G (nth cs i).1):=by
 have e1:=Q.lo_on C h (Kq) (by grind)
 have e2:=Q.lo_on C h (by grind) (Kq)
 rw[wc]at e1
 rw[wb (by grind)]at e2
 have:=lS (f:=lo) (c:=(nth cs i).2 - ((nth cs (i+1)).2 - (nth cs i).2) / ((nth cs (i+1)).1 - (nth cs i).1)*(nth cs i).1) (s:=((nth cs (i+1)).2 - (nth cs i).2) / ((nth cs (i+1)).1 - (nth cs i).1)) G _ _ hG (hh _ (j6 Q.ne i)) (hh _ (j6 Q.ne (i+1))) (by grind) fun x _ x1 x2=>by
  rw[Q.lo_on C h x1 x2,pS (by grind)]
 rw[this,e1,e2]
 generalize (nth cs i).1=a at *
 generalize (nth cs i).2=x at *
 generalize (nth cs (i+1)).1=b at *
 generalize (nth cs (i+1)).2=y at *
 grind
theorem F6.edge_hi(Q:F6 cs P)(C:V5 P lo hi){G:List Rat}(hG:Ris G)(hh:∀ z∈cs,z.1∈G){i:Nat}(h:(nth cs (i+1)).1≤(nth cs i).1) :
  ((nth cs i).1 - (nth cs (i+1)).1)*((nth cs i).2+(nth cs (i+1)).2)=cum hi G (nth cs i).1 - cum hi G (nth cs (i+1)).1:=by
 by_cases e:(nth cs (i+1)).1=(nth cs i).1
 ·rw[e];grind
 have h:(nth cs (i+1)).1<(nth cs i).1:=by grind
 have e1:=Q.hi_on C h (by grind) (Kq)
 have e2:=Q.hi_on C h (Kq) (by grind)
 rw[wc]at e1
 rw[wb (by grind)]at e2
 have:=lS (f:=hi) (c:=(nth cs i).2 - ((nth cs (i+1)).2 - (nth cs i).2) / ((nth cs (i+1)).1 - (nth cs i).1)*(nth cs i).1) (s:=((nth cs (i+1)).2 - (nth cs i).2) / ((nth cs (i+1)).1 - (nth cs i).1)) G _ _ hG (hh _ (j6 Q.ne (i+1))) (hh _ (j6 Q.ne i)) (by grind) fun x _ x1 x2=>by
  rw[Q.hi_on C h x1 x2,pS (by grind)]
 rw[this,e1,e2]
 generalize (nth cs i).1=a at *
 generalize (nth cs i).2=x at *
 generalize (nth cs (i+1)).1=b at *
 generalize (nth cs (i+1)).2=y at *
 grind
end
section
variable {cs:List Zr} {P:Zr→Prop} {lo hi:Rat→Rat}
theorem tel(L:List Zr):∀ n:Nat,A4 (fun i=>cr (nth L i) (nth L (i+1))) n=A4 (fun i=>((nth L i).1 - (nth L (i+1)).1)*((nth L i).2+(nth L (i+1)).2)) n+((nth L n).1*(nth L n).2 - (nth L 0).1*(nth L 0).2):=fun n=>by
 induction n with
 | zero=>show(0:Rat)=0+_;grind
 | succ n ih =>
  show A4 _ n+cr (nth L n) (nth L (n+1))=A4 _ n+((nth L n).1 - (nth L (n+1)).1)*((nth L n).2+(nth L (n+1)).2)+_
  rw[ih];unfold cr;grind
theorem F6.len(Q:F6 cs P):0<cs.length:=Lz.mpr Q.ne
theorem F6.upto(Q:F6 cs P)(C:V5 P lo hi){G:List Rat}(hG:Ris G)(hh:∀ z∈cs,z.1∈G):∀ k,k+1≤cs.length →
  (((nth cs k).1<(nth cs (k+1)).1∧(∀ j,j≤k+1→(nth cs j).1≤(nth cs (k+1)).1) ∧
   A4 (fun i=>((nth cs i).1 - (nth cs (i+1)).1)*((nth cs i).2+(nth cs (i+1)).2)) (k+1) = -(cum lo G (nth cs (k+1)).1 - cum lo G (nth cs 0).1)) ∨
  ((nth cs (k+1)).1≤(nth cs k).1∧∃ m,(∀ j,j≤k+1→(nth cs j).1≤(nth cs m).1) ∧
   A4 (fun i=>((nth cs i).1 - (nth cs (i+1)).1)*((nth cs i).2+(nth cs (i+1)).2)) (k+1) = -(cum lo G (nth cs m).1 - cum lo G (nth cs 0).1)+(cum hi G (nth cs m).1 - cum hi G (nth cs (k+1)).1))):=fun k=>by
 induction k with
 | zero =>
  intro _
  left
  refine⟨Q.rise0,fun j hj=>?_,?_⟩
  ·have r:=Q.rise0
   rcases Nat.le_one_iff_eq_zero_or_eq_one.mp hj with rfl|rfl
   ·grind
   ·exact Kq
  ·have e:=Q.edge_lo C hG hh Q.rise0
   show(0:Rat)+((nth cs 0).1 - (nth cs (0+1)).1)*((nth cs 0).2+(nth cs (0+1)).2)=_
   rw[e];grind
 | succ k ih =>
  intro hk
  rcases ih (by omega)with⟨r,mx,s⟩|⟨r,m,mx,s⟩
  ·by_cases r2:(nth cs (k+1)).1<(nth cs (k+1+1)).1
   ·left
    refine⟨r2,fun j hj=>?_,?_⟩
    ·by_cases e:j=k+1+1
     ·rw[e];exact Kq
     ·have:=mx j (by omega);grind
    ·have e:=Q.edge_lo C hG hh r2
     show A4 _ (k+1)+((nth cs (k+1)).1 - (nth cs (k+1+1)).1)*((nth cs (k+1)).2+(nth cs (k+1+1)).2)=_
     rw[s,e];grind
   ·right
    refine⟨by grind,k+1,fun j hj=>?_,?_⟩
    ·by_cases e:j=k+1+1
     ·rw[e];grind
     ·exact mx j (by omega)
    ·have e:=Q.edge_hi C hG hh (i:=k+1) (by grind)
     show A4 _ (k+1)+((nth cs (k+1)).1 - (nth cs (k+1+1)).1)*((nth cs (k+1)).2+(nth cs (k+1+1)).2)=_
     rw[s,e]
  ·have r2:¬ (nth cs (k+1)).1<(nth cs (k+1+1)).1:=fun r2=>by
    have e:=Q.turn r r2
    exact Q.chn.nd 0 (k+1) (by omega) (by omega) e.symm
   right
   refine⟨by grind,m,fun j hj=>?_,?_⟩
   ·by_cases e:j=k+1+1
    ·have:=mx (k+1) (by omega);rw[e];grind
    ·exact mx j (by omega)
   ·have e:=Q.edge_hi C hG hh (i:=k+1) (by grind)
    show A4 _ (k+1)+((nth cs (k+1)).1 - (nth cs (k+1+1)).1)*((nth cs (k+1)).2+(nth cs (k+1+1)).2)=_
    rw[s,e];grind
theorem F6.area(Q:F6 cs P)(C:V5 P lo hi){G:List Rat}(hG:Ris G)(hh:∀ z∈cs,z.1∈G) :
  ∃ b,(∃ z∈cs,z.1=b)∧(∀ z∈cs,z.1≤b)∧a2 cs=(cum hi G b - cum hi G (nth cs 0).1) - (cum lo G b - cum lo G (nth cs 0).1):=by
 have hl:=Q.len
 have h:=Q.upto C hG hh (cs.length - 1) (by omega)
 rw[show cs.length - 1+1=cs.length by omega]at h
 have e0:nth cs cs.length=nth cs 0:=by have:=je cs 0;rwa [Mf]at this
 have al:∀ z∈cs,∃ j,j≤cs.length∧nth cs j=z:=fun z hz=>by
  obtain⟨j,hj,e⟩:=Nw hz
  exact⟨j,by omega,by rw[eA hj,e]⟩
 have ta:=tel cs cs.length
 have ta:a2 cs=_:=ta
 rw[e0]at ta h
 rcases h with⟨r,mx,s⟩|⟨r,m,mx,s⟩
 ·exfalso
  have:=mx 1 (by
   have:=Q.rise0
   by_cases e:cs.length=0
   ·omega
   ·omega)
  have:=Q.rise0
  grind
 ·refine⟨(nth cs m).1,⟨_,j6 Q.ne m,rfl⟩,fun z hz=>?_,?_⟩
  ·obtain⟨j,hj,rfl⟩:=al z hz
   exact mx j hj
  ·rw[ta,s];grind
end
theorem lR{f g:Rat→Rat}:∀(G:List Rat) (a b:Rat),Ris G→a≤b→(∀ x∈G,a≤x→x≤b→f x≤g x)→a∈G→cum f G b - cum f G a≤cum g G b - cum g G a:=fun G=>by
 induction G with
 | nil=>intro a b _ _ _ h;cases h
 | cons x r ih =>
  intro a b hG ab hf ha
  obtain⟨h1,h2⟩:=KJ.mp hG
  cases r with
  | nil=>show(0:Rat) - 0≤0 - 0;grind
  | cons y r =>
   have xy:=h1 y (.head _)
   show(if y≤b then(y - x)*(f x+f y)else 0)+cum f (y :: r) b - ((if y≤a then(y - x)*(f x+f y)else 0)+cum f (y :: r) a)≤(if y≤b then(y - x)*(g x+g y)else 0)+cum g (y :: r) b - ((if y≤a then(y - x)*(g x+g y)else 0)+cum g (y :: r) a)
   by_cases e:a=x
   ·subst e
    rw[C1 f r y a h2 (by grind),C1 g r y a h2 (by grind),if_neg (show ¬ y≤a by grind),if_neg (show ¬ y≤a by grind)]
    by_cases yb:y≤b
    ·have:=ih y b h2 yb (fun x hx x1 x2=>hf x (.tail _ hx) (by grind) x2) (.head _)
     rw[C1 f r y y h2 (Kq),C1 g r y y h2 (Kq)]at this
     rw[if_pos yb,if_pos yb]
     have f1:=hf a (.head _) (Kq) ab
     have f2:=hf y (.tail _ (.head _)) (by grind) yb
     have:=JM (show 0≤y - a by grind) (show 0≤(g a+g y) - (f a+f y)by grind)
     grind
    ·rw[if_neg yb,if_neg yb,C1 f r y b h2 (by grind),C1 g r y b h2 (by grind)];grind
   ·have ha:a∈y :: r:=by rcases JJ.mp ha with z|z;exact absurd z e;exact z
    have ya:y≤a:=by
     rcases JJ.mp ha with z|z
     ·grind
     ·have:=(KJ.mp h2).1 a z;grind
    have:=ih a b h2 ab (fun x hx=>hf x (.tail _ hx)) ha
    rw[if_pos ya,if_pos ya,if_pos (show y≤b by grind),if_pos (show y≤b by grind)]
    grind
theorem lQ:∀(G:List Rat) (x:Rat),cum (fun _=>0) G x=0:=fun G=>by
 induction G with
 | nil=>intro x;rfl
 | cons a r ih =>
  intro x
  cases r with
  | nil=>rfl
  | cons b r=>show(if b≤x then(b - a)*((0:Rat)+0)else 0)+cum (fun _=>0) (b :: r) x=0;rw[ih];grind
theorem qF{f:Rat→Rat}{G:List Rat}{a b:Rat}(hG:Ris G)(ab:a≤b)(hf:∀ x∈G,a≤x→x≤b→0≤f x)(ha:a∈G):0≤cum f G b - cum f G a:=by
 have:=lR (f:=fun _=>0) (g:=f) G a b hG ab hf ha
 rw[lQ,lQ]at this
 grind
theorem O4(f g:Rat→Rat):∀(G:List Rat) (x:Rat),cum (fun y=>f y - g y) G x=cum f G x - cum g G x:=fun G=>by
 induction G with
 | nil=>intro x;show(0:Rat)=0 - 0;grind
 | cons a r ih =>
  intro x
  cases r with
  | nil=>show(0:Rat)=0 - 0;grind
  | cons b r =>
   show(if b≤x then(b - a)*((f a - g a)+(f b - g b))else 0)+cum (fun y=>f y - g y) (b :: r) x=(if b≤x then(b - a)*(f a+f b)else 0)+cum f (b :: r) x - ((if b≤x then(b - a)*(g a+g b)else 0)+cum g (b :: r) x)
   rw[ih];split<;>grind
theorem zY{cs ds:List Zr}{P R:Zr→Prop}{lo hi lo' hi':Rat→Rat}(Q:F6 cs P)(C:V5 P lo hi)(Q':F6 ds R)(C':V5 R lo' hi')(sub:∀ z,R z→P z)(top:∀ z,P z→∃ c∈cs,z.1≤c.1)(bot:∀ z,P z→∃ c∈cs,c.1≤z.1):a2 ds≤a2 cs:=by
 obtain⟨hG,mG⟩:=cy ((cs++ds).map (·.1))
 have m1:∀ z∈cs,z.1∈C6 ((cs++ds).map (·.1)):=fun z hz=>(mG _).mpr (JK.mpr ⟨z,KZ _ hz,rfl⟩)
 have m2:∀ z∈ds,z.1∈C6 ((cs++ds).map (·.1)):=fun z hz=>(mG _).mpr (JK.mpr ⟨z,Kh _ hz,rfl⟩)
 generalize C6 ((cs++ds).map (·.1))=G at *
 obtain⟨b,⟨zb,hzb,eb⟩,mb,e⟩:=Q.area C hG m1
 obtain⟨b',⟨zb',hzb',eb'⟩,mb',e'⟩:=Q'.area C' hG m2
 have hbb:b'≤b:=by
  obtain⟨c,hc,h⟩:=top _ (sub _ (Q'.on _ hzb'))
  have:=mb c hc;grind
 have lowC:∀ z∈cs,(nth cs 0).1≤z.1:=fun z hz=>by rcases aW (Q.low z hz)with h|⟨h,_⟩<;>grind
 have lowD:∀ z∈ds,(nth ds 0).1≤z.1:=fun z hz=>by rcases aW (Q'.low z hz)with h|⟨h,_⟩<;>grind
 have haa:(nth cs 0).1≤(nth ds 0).1:=by
  obtain⟨c,hc,h⟩:=bot _ (sub _ (Q'.on _ (j6 Q'.ne 0)))
  have:=lowC c hc;grind
 have hab:(nth ds 0).1≤b':=by have:=lowD _ hzb';grind
 have meet:∀{cs:List Zr} {P:Zr→Prop} (_:F6 cs P) {x y:Zr} (_:P x) (_:P y) {g:Rat},x.1≤g→g≤y.1→∃ u,P (g,u):=fun{cs P} Q {x y} hx hy {g} h1 h2=>by
  by_cases ex:x.1=y.1
  ·exact⟨x.2,by rw[show g=x.1 by grind];exact hx⟩
  obtain⟨t0,t1⟩:=nA (.inl ⟨h1,h2,show x.1<y.1 by grind⟩)
  have:=Q.conv hx hy t0 t1
  rw[gM ex]at this
  exact⟨_,this⟩
 have inner:∀ x∈G,(nth ds 0).1≤x→x≤b'→hi' x - lo' x≤hi x - lo x:=fun x _ x1 x2=>by
  obtain⟨u,hu⟩:=meet Q' (Q'.on _ (j6 Q'.ne 0)) (Q'.on _ hzb') x1 (by rw[eb'];exact x2)
  have c':=(C'.at' _ _ hu u).mp hu
  have l1:=(C'.at' _ _ hu (lo' x)).mpr ⟨by grind,by grind⟩
  have l2:=(C'.at' _ _ hu (hi' x)).mpr ⟨by grind,by grind⟩
  have k1:=(C.at' _ _ (sub _ hu) (lo' x)).mp (sub _ l1)
  have k2:=(C.at' _ _ (sub _ hu) (hi' x)).mp (sub _ l2)
  grind
 have pos:∀ x,(nth cs 0).1≤x→x≤b→0≤hi x - lo x:=fun x x1 x2=>by
  obtain⟨u,hu⟩:=meet Q (Q.on _ (j6 Q.ne 0)) (Q.on _ hzb) x1 (by rw[eb];exact x2)
  have:=(C.at' _ _ hu u).mp hu
  grind
 have gd:(nth ds 0).1∈G:=m2 _ (j6 Q'.ne 0)
 have gb':b'∈G:=by rw[← eb'];exact m2 _ hzb'
 have s1:=lR (f:=fun y=>hi' y - lo' y) (g:=fun y=>hi y - lo y) G _ _ hG hab inner gd
 have s2:=qF (f:=fun y=>hi y - lo y) hG haa (fun x _ x1 x2=>pos x x1 (by grind)) (m1 _ (j6 Q.ne 0))
 have s3:=qF (f:=fun y=>hi y - lo y) hG hbb (fun x _ x1 x2=>pos x (by grind) x2) gb'
 rw[O4,O4,O4,O4]at s1
 rw[O4,O4]at s2 s3
 rw[e,e']
 grind
noncomputable def evn(f:Rat→Rat):List Rat→Rat
 | a :: b :: r=>(b - a)*(f a+f b)+evn f (b :: r)
 | _=>0
theorem zN(f:Rat→Rat):∀(G:List Rat) (b:Rat),(∀ x∈G,x≤b)→cum f G b=evn f G:=fun G=>by
 induction G with
 | nil=>intro b _;rfl
 | cons a r ih =>
  intro b h
  cases r with
  | nil=>rfl
  | cons y r=>show(if y≤b then(y - a)*(f a+f y)else 0)+cum f (y :: r) b=(y - a)*(f a+f y)+evn f (y :: r);rw[if_pos (h y (.tail _ (.head _))),ih b fun x hx=>h x (.tail _ hx)]
theorem F6.even{cs:List Zr}{P:Zr→Prop}{lo hi:Rat→Rat}(Q:F6 cs P)(C:V5 P lo hi):a2 cs=evn (fun h=>hi h - lo h) (C6 (cs.map (·.1))):=by
 obtain⟨hG,mG⟩:=cy (cs.map (·.1))
 have m1:∀ z∈cs,z.1∈C6 (cs.map (·.1)):=fun z hz=>(mG _).mpr (JK.mpr ⟨z,hz,rfl⟩)
 have lowC:∀ z∈cs,(nth cs 0).1≤z.1:=fun z hz=>by rcases aW (Q.low z hz)with h|⟨h,_⟩<;>grind
 have m3:∀ x∈C6 (cs.map (·.1)),∃ z∈cs,z.1=x:=fun x hx=>JK.mp ((mG x).mp hx)
 generalize C6 (cs.map (·.1))=G at *
 obtain⟨b,⟨zb,hzb,eb⟩,mb,e⟩:=Q.area C hG m1
 have hb:∀ x∈G,x≤b:=fun x hx=>by obtain⟨z,hz,rfl⟩:=m3 x hx;exact mb z hz
 have z0:∀ f:Rat→Rat,cum f G (nth cs 0).1=0:=fun f=>by
  have m0:=m1 _ (j6 Q.ne 0)
  cases G with
  | nil=>cases m0
  | cons g r =>
   refine C1 f r g _ hG ?_
   obtain⟨z,hz,e⟩:=m3 g (.head _)
   have:=lowC z hz;grind
 rw[e,z0,z0,← zN _ G b hb,O4];grind
theorem rK{ls:List T3}(hok:∀ l∈ls,LineOk l):j8 ls 0 0=true:=by
 unfold j8
 rw[Li]
 intro l hl
 have:=(hok l hl).pos
 rw[A1]
 exact⟨by grind,by grind⟩
theorem eR{a b:Bool}(h:a=true↔b=true):a=b:=by cases a<;>cases b<;>simp_all
theorem F3(ls:List T3)(y u:Rat):j8 ls y u=true ↔ ∀ l∈ls,l.1*y+l.2.1*u≤l.2.2∧-(l.1*y+l.2.1*u)≤l.2.2:=by
 unfold j8
 rw[Li]
 exact⟨fun h l hl=>(A1 l y u).mp (h l hl),fun h l hl=>(A1 l y u).mpr (h l hl)⟩
theorem qd(ls:List T3)(z:Zr):j8 ls z.1 z.2=j8 ls (lmZ (-1) 0 0 (-1) z).1 (lmZ (-1) 0 0 (-1) z).2:=by
 refine eR ?_
 rw[F3,F3]
 unfold lmZ
 constructor
 ·intro h l hl;have:=h l hl;exact⟨by show l.1*(-1*z.1+0*z.2)+l.2.1*(0*z.1 + -1*z.2)≤_;grind,by show -(l.1*(-1*z.1+0*z.2)+l.2.1*(0*z.1 + -1*z.2))≤_;grind⟩
 ·intro h l hl
  obtain⟨h1,h2⟩:=h l hl
  have h1:l.1*(-1*z.1+0*z.2)+l.2.1*(0*z.1 + -1*z.2)≤l.2.2:=h1
  have h2:-(l.1*(-1*z.1+0*z.2)+l.2.1*(0*z.1 + -1*z.2))≤l.2.2:=h2
  exact⟨by grind,by grind⟩
theorem R8{ls:List T3}(hok:∀ l∈ls,LineOk l){cs:List Zr}(e:v9 ls=some cs):V4 ls cs∧¬ v8 ls:=by
 rcases bj hok with⟨e',_⟩|⟨ds,e',na,C⟩
 ·rw[e]at e';cases e'
 ·rw[e]at e';cases e';exact⟨C,na⟩
theorem wG{ls:List T3}(hok:∀ l∈ls,LineOk l){cs:List Zr}(C:V4 ls cs){z:Zr}(h:z∈cs):ngZ z∈cs:=by
 have:=(nH hok hok (a:=-1) (b:=0) (c:=0) (d:=-1) (by grind) (qd ls) C C z).mp h
 have e:lmZ (-1) 0 0 (-1) z=ngZ z:=by unfold lmZ ngZ;exact Prod.ext (by show -1*z.1+0*z.2 = -z.1;grind) (by show 0*z.1 + -1*z.2 = -z.2;grind)
 rwa [e]at this
theorem iM{ls:List T3}(hok:∀ l∈ls,LineOk l){cs:List Zr}(e:v9 ls=some cs):F6 cs (fun z=>j8 ls z.1 z.2=true):=by
 obtain⟨C,_⟩:=R8 hok e
 exact⟨C.ne,C.chn,C.low,fun x hx=>(E7 ls x).mp ((C.mem x).mp hx).sup,fun z=>(DP hok e z.1 z.2).symm,rK hok,fun x hx=>wG hok C hx⟩
theorem eO{ls:List T3}(hok:∀ l∈ls,LineOk l)(hq:∃ l∈ls,l.2.1≠0):V5 (fun z=>j8 ls z.1 z.2=true) (fun g=>(S0 ls g).1) (fun g=>(S0 ls g).2):=by
 refine⟨fun g u h v=>?_⟩
 obtain⟨lo,hi,C,_,_⟩:=aF hok hq (show j8 ls g u=true from h)
 rw[R9 C]
 constructor
 ·intro h2
  obtain⟨lo',hi',C',h3,h4⟩:=aF hok hq (show j8 ls g v=true from h2)
  have:=R9 C
  rw[R9 C']at this
  cases this
  exact⟨h3,h4⟩
 ·intro⟨h3,h4⟩
  exact D2 hok C.eq h3 h4
theorem qH{ls:List T3}(hok:∀ l∈ls,LineOk l){cs:List Zr}(e:v9 ls=some cs){z:Zr}(h:j8 ls z.1 z.2=true):∃ c∈cs,z.1≤c.1:=by
 rcases eN hok with⟨h',_⟩|⟨ds,e',na,g0,m,R,hm⟩
 ·rw[e]at h';cases h'
 rw[e]at e';cases e'
 refine Lp fun hc=>?_
 have:=wR R (g:=z.1) (fun c h1=>by
  have:¬ z.1≤c.1:=fun h2=>hc ⟨c,(hm c).mpr h1,h2⟩
  grind) z.2
 rw[h]at this;cases this
theorem zO{ls:List T3}(hok:∀ l∈ls,LineOk l){cs:List Zr}(e:v9 ls=some cs){z:Zr}(h:j8 ls z.1 z.2=true):∃ c∈cs,c.1≤z.1:=by
 rw[qd]at h
 obtain⟨c,hc,h1⟩:=qH hok e h
 refine⟨ngZ c,wG hok (R8 hok e).1 hc,?_⟩
 have h1:-1*z.1+0*z.2≤c.1:=h1
 show -c.1≤z.1
 grind
theorem DO{ls ms:List T3}(hl:∀ l∈ls,LineOk l)(hm:∀ l∈ms,LineOk l)(sub:∀ y u,j8 ms y u=true→j8 ls y u=true){cs ds:List Zr}(e:v9 ls=some cs)(e':v9 ms=some ds):a2 ds≤a2 cs :=
 zY (iM hl e) (eO hl (gP hl (R8 hl e).2)) (iM hm e') (eO hm (gP hm (R8 hm e').2)) (fun z h=>sub z.1 z.2 h) (fun _ h=>qH hl e h) fun _ h=>zO hl e h
theorem wH{ls ms:List T3}(hm:∀ l∈ms,LineOk l)(sub:∀ l∈ls,l∈ms)(na:¬ v8 ls):∃ ds,v9 ms=some ds:=by
 rcases bj hm with⟨_,al⟩|⟨ds,e,_⟩
 ·exact absurd (fun a ha b hb=>al a (sub a ha) b (sub b hb)) na
 ·exact⟨ds,e⟩
theorem qS(ls:List T3)(x:Rat)(z:Zr):j8 (ls.map fun l=>(l.1,l.1*x+l.2.1,l.2.2)) z.1 z.2=j8 ls (lmZ 1 x 0 1 z).1 (lmZ 1 x 0 1 z).2:=by
 refine eR ?_
 rw[F3,F3]
 have e:∀ l:T3,l.1*z.1+(l.1*x+l.2.1)*z.2=l.1*(lmZ 1 x 0 1 z).1+l.2.1*(lmZ 1 x 0 1 z).2:=fun l=>by
  show _=l.1*(1*z.1+x*z.2)+l.2.1*(0*z.1+1*z.2);grind
 constructor
 ·intro h l hl
  have:=h _ (JK.mpr ⟨l,hl,rfl⟩)
  rw[← e];exact this
 ·intro h l hl
  obtain⟨m,hm,rfl⟩:=JK.mp hl
  have:=h m hm
  rw[← e]at this;exact this
theorem eS(ls:List T3)(x:Rat):v8 (ls.map fun l=>(l.1,l.1*x+l.2.1,l.2.2))↔v8 ls:=by
 unfold v8
 constructor
 ·intro h a ha b hb
  have:=h _ (JK.mpr ⟨a,ha,rfl⟩) _ (JK.mpr ⟨b,hb,rfl⟩)
  have:a.1*(b.1*x+b.2.1)=b.1*(a.1*x+a.2.1):=this
  grind
 ·intro h a ha b hb
  obtain⟨m,hm,rfl⟩:=JK.mp ha
  obtain⟨n,hn,rfl⟩:=JK.mp hb
  have:=h m hm n hn
  show m.1*(n.1*x+n.2.1)=n.1*(m.1*x+m.2.1)
  grind
theorem iT{ls:List T3}(hl:∀ l∈ls,LineOk l)(x:Rat):∀ l∈ls.map (fun l=>(l.1,l.1*x+l.2.1,l.2.2)),LineOk l:=fun l h=>by
 obtain⟨m,hm,rfl⟩:=JK.mp h
 have:=hl m hm
 refine⟨fun⟨h1,h2⟩=>this.ne ?_,this.pos⟩
 have h1:m.1=0:=h1
 have h2:m.1*x+m.2.1=0:=h2
 exact⟨h1,by rw[h1]at h2;grind⟩
theorem kv{ls:List T3}(hl:∀ l∈ls,LineOk l)(x:Rat):(v9 ls=none∧v9 (ls.map fun l=>(l.1,l.1*x+l.2.1,l.2.2))=none) ∨ ∃ cs ds,v9 ls=some cs∧v9 (ls.map fun l=>(l.1,l.1*x+l.2.1,l.2.2))=some ds∧a2 ds=a2 cs:=by
 rcases bj hl with⟨e1,a1⟩|⟨cs,e1,n1,c1⟩
 ·rcases bj (iT hl x)with⟨e2,a2⟩|⟨ds,e2,n2,c2⟩
  ·exact .inl ⟨e1,e2⟩
  ·exact absurd ((eS ls x).mpr a1) n2
 ·rcases bj (iT hl x)with⟨e2,a2⟩|⟨ds,e2,n2,c2⟩
  ·exact absurd ((eS ls x).mp a2) n1
  ·refine .inr ⟨cs,ds,e1,e2,?_⟩
   have:=wI hl (iT hl x) (a:=1) (b:=x) (c:=0) (d:=1) (by grind) (qS ls x) c1 c2
   grind
theorem rP(ls:List T3)(z:Zr):j8 (ls.map fun l=>(l.1,l.2.1,l.2.2*(1 / 2))) z.1 z.2=j8 ls (lmZ 2 0 0 2 z).1 (lmZ 2 0 0 2 z).2:=by
 refine eR ?_
 rw[F3,F3]
 have e:∀ l:T3,l.1*(lmZ 2 0 0 2 z).1+l.2.1*(lmZ 2 0 0 2 z).2=2*(l.1*z.1+l.2.1*z.2):=fun l=>by
  show l.1*(2*z.1+0*z.2)+l.2.1*(0*z.1+2*z.2)=_;grind
 constructor
 ·intro h l hl
  have:=h _ (JK.mpr ⟨l,hl,rfl⟩)
  have:l.1*z.1+l.2.1*z.2≤l.2.2*(1 / 2)∧-(l.1*z.1+l.2.1*z.2)≤l.2.2*(1 / 2):=this
  rw[e];exact⟨by grind,by grind⟩
 ·intro h l hl
  obtain⟨m,hm,rfl⟩:=JK.mp hl
  have:=h m hm
  rw[e]at this
  show m.1*z.1+m.2.1*z.2≤m.2.2*(1 / 2)∧-(m.1*z.1+m.2.1*z.2)≤m.2.2*(1 / 2)
  exact⟨by grind,by grind⟩
theorem pT{ls:List T3}(hl:∀ l∈ls,LineOk l):∀ l∈ls.map (fun l=>(l.1,l.2.1,l.2.2*(1 / 2))),LineOk l:=fun l h=>by
 obtain⟨m,hm,rfl⟩:=JK.mp h
 have:=hl m hm
 have hp:=this.pos
 exact⟨this.ne,by show 0<m.2.2*(1 / 2);grind⟩
theorem nO(ls:List T3):v8 (ls.map fun l=>(l.1,l.2.1,l.2.2*(1 / 2)))→v8 ls:=fun h a ha b hb=>by
 have:=h _ (JK.mpr ⟨a,ha,rfl⟩) _ (JK.mpr ⟨b,hb,rfl⟩)
 exact this
theorem vU{ls:List T3}(hl:∀ l∈ls,LineOk l){cs:List Zr}(e:v9 ls=some cs):∃ ds,v9 (ls.map fun l=>(l.1,l.2.1,l.2.2*(1 / 2)))=some ds∧a2 ds*4=a2 cs:=by
 obtain⟨c1,n1⟩:=R8 hl e
 rcases bj (pT hl)with⟨e2,al⟩|⟨ds,e2,n2,c2⟩
 ·exact absurd (nO ls al) n1
 ·refine⟨ds,e2,?_⟩
  have:=wI hl (pT hl) (a:=2) (b:=0) (c:=0) (d:=2) (by grind) (rP ls) c1 c2
  grind
theorem we{ls:List T3}(hl:∀ l∈ls,LineOk l){cs:List Zr}(e:v9 ls=some cs):a2 cs=evn (fun h=>(S0 ls h).2 - (S0 ls h).1) (C6 (cs.map (·.1))) :=
 (iM hl e).even (eO hl (gP hl (R8 hl e).2))
end GM
namespace DL
open PySem PySem.Spec L2
open PyProof.Rows hiding St
section
variable {X:Cx} {x:Expr} {t:DTE}
def EU(t:TE):TE:=fun σ H Q=>t σ H fun v H1=>(∃ p xs,H1 p=some (.lst xs)∧∀ o,Q v (upd H1 p (.frz o (.lst xs))))∨Q v H1
theorem yO{t:TE}(h:PE X x t):PE X x (EU t):=fun pins s σ H Q I q =>
 wpAny_mono (h pins s σ H _ I q) (fun u s1 ⟨v,H1,I1,r,z⟩=>by
  rcases z with⟨p,xs,hp,q1⟩|q1
  ·obtain⟨o,I2⟩:=I1.freeze hp
   exact⟨v,_,I2,r,q1 o⟩
  ·exact⟨v,H1,I1,r,q1⟩) fun _ _ z=>z
def qN(x:D)(M1:Mem)(R:DK):Prop:=(∃ p ds,x = .ref p∧M1 p=some (.lst ds)∧R (.vl ds) (bg M1 p))∨R x M1
def Bt(t:DTE):DTE:=fun e M R=>t e M fun x M1=>qN x M1 R
theorem zx(h:JE X x t):JE X x (Bt t):=⟨(yO h.out).imp fun σ H Q ⟨e,M,R,ok,am,t,f⟩=>⟨e,M,_,ok,am,t,fun d M1 z v H1 k1 a1 r1=>by
 rcases z with⟨p,ds,z,hm,r⟩|r
 ·subst z
  cases r1
  obtain⟨xs,hx,lx⟩:=a1.lst hm
  exact .inl ⟨p,xs,hx,fun o=>f _ _ r _ _ (k1.trans (KT.any hx)) (a1.del.at (KT.any hx).toKT0 gy) (.vl (.inl ⟨o,i3⟩) (lx.mono (KT.any hx)))⟩
 ·exact .inr (f _ _ r _ _ k1 a1 r1)⟩⟩
theorem tR{e:Ev}{M:Mem}{R:DK}:Bt t e M R=t e M fun x M1=>qN x M1 R:=rfl
end
end DL
namespace GM
open PySem PySem.Spec L2 DL
open RM (sz)
local macro_rules|`(tactic| walk_at "inj")=>`(tactic| (rename_i e h;simp only[List.cons.injEq,GM.G9,GM.X3,GM.T9,and_true,true_and,GM.g8,GM.i5,GM.h7,GM.i6,GM.h8,D.tup.injEq,D.ref.injEq,D.int.injEq,D.str.injEq,D.bl.injEq,D.vl.injEq,Kt,and_assoc]at e;(repeat(obtain⟨e1,e⟩:=e;subst e1));subst e;exact h))
local macro_rules|`(tactic| walk_at "injs")=>`(tactic| (rename_i e o h;rcases o with o|o<;>(subst o;first|(exfalso;simp only[D.tup.injEq,List.cons.injEq,reduceCtorEq,false_and,and_false]at e;done)|(simp only[List.cons.injEq,GM.G9,GM.X3,GM.T9,and_true,true_and,GM.g8,GM.i5,GM.h7,GM.i6,GM.h8,D.tup.injEq,D.ref.injEq,D.int.injEq,D.str.injEq,D.bl.injEq,D.vl.injEq,Kt,and_assoc]at e;(repeat(obtain⟨e1,e⟩:=e;subst e1));subst e;exact h))))
abbrev cc(a b:Int)(M:Mem)(R:DK)(Y:DXK):Prop:=b≠0∧R (d7 (Lh a b)) M
def O8:DSp:=fun ds M R Y=>∃(a b:Int),ds=[.int a,.int b]∧cc a b M R Y
theorem oi{a b:Int}{M:Mem}{R:DK}{Y:DXK}:O8 [.int a,.int b] M R Y=(cc a b M R Y):=propext ⟨fun z=>by obtain⟨_,_,_,_⟩:=z;walk_at "inj",fun h=>⟨a,b,rfl,h⟩⟩
abbrev Z6(q r:Rat)(M:Mem)(R:DK)(Y:DXK):Prop:=sz q+sz r≤1000000∧R (d7 (q+r)) M
def mR:DSp:=fun ds M R Y=>∃(q r:Rat),ds=[d7 q,d7 r]∧Z6 q r M R Y
theorem jV{q r:Rat}{M:Mem}{R:DK}{Y:DXK}:mR [d7 q,d7 r] M R Y=(Z6 q r M R Y):=propext ⟨fun z=>by obtain⟨_,_,_,_⟩:=z;walk_at "inj",fun h=>⟨q,r,rfl,h⟩⟩
abbrev T5(q r:Rat)(M:Mem)(R:DK)(Y:DXK):Prop:=sz q+sz r≤1000000∧R (d7 (q - r)) M
def iD:DSp:=fun ds M R Y=>∃(q r:Rat),ds=[d7 q,d7 r]∧T5 q r M R Y
theorem fE{q r:Rat}{M:Mem}{R:DK}{Y:DXK}:iD [d7 q,d7 r] M R Y=(T5 q r M R Y):=propext ⟨fun z=>by obtain⟨_,_,_,_⟩:=z;walk_at "inj",fun h=>⟨q,r,rfl,h⟩⟩
abbrev S8(q r:Rat)(M:Mem)(R:DK)(Y:DXK):Prop:=sz q+sz r≤1000000∧R (d7 (q*r)) M
def B3:DSp:=fun ds M R Y=>∃(q r:Rat),ds=[d7 q,d7 r]∧S8 q r M R Y
theorem fu{q r:Rat}{M:Mem}{R:DK}{Y:DXK}:B3 [d7 q,d7 r] M R Y=(S8 q r M R Y):=propext ⟨fun z=>by obtain⟨_,_,_,_⟩:=z;walk_at "inj",fun h=>⟨q,r,rfl,h⟩⟩
abbrev Z9(q r:Rat)(M:Mem)(R:DK)(Y:DXK):Prop:=sz q+sz r≤1000000∧R (.bl (decide (q<r))) M
def mT:DSp:=fun ds M R Y=>∃(q r:Rat),ds=[d7 q,d7 r]∧Z9 q r M R Y
theorem jY{q r:Rat}{M:Mem}{R:DK}{Y:DXK}:mT [d7 q,d7 r] M R Y=(Z9 q r M R Y):=propext ⟨fun z=>by obtain⟨_,_,_,_⟩:=z;walk_at "inj",fun h=>⟨q,r,rfl,h⟩⟩
theorem vG{a b:Int}(m n:Nat)(ha:a.natAbs<2 ^ m)(hb:b.natAbs<2 ^ n)(h:m+n≤100000000):IntMulOk a b:=by
 have hx:∀(x:Int) (k:Nat),x.natAbs<2 ^ k→Builtin.Int.intBits x≤k:=fun x k hx=>by
  unfold Builtin.Int.intBits
  split
  ·exact KU _
  ·rename_i h0
   have:x.natAbs≠0:=by
    intro z;apply h0
    first|exact(by simpa using NA.mp z)|(simp;omega)
   have:=(Nm this).mpr hx
   omega
 exact PySem.IntMulOk.of_le (hx a m ha) (hx b n hb) (by omega)
theorem bNN{q r:Rat}(h:sz q+sz r≤1000000):IntMulOk q.num r.num:=vG _ _ (ez q) (ez r) (by omega)
theorem bND{q r:Rat}(h:sz q+sz r≤1000000):IntMulOk q.num (r.den:Int):=vG _ _ (ez q) (X9 r) (by omega)
theorem bDD{q r:Rat}(h:sz q+sz r≤1000000):IntMulOk (q.den:Int) (r.den:Int):=vG _ _ (X9 q) (X9 r) (by omega)
noncomputable def lcL(qs:List Rat):Nat:=qs.foldl (fun c q=>B9 c q.den) 1
abbrev iK(qs:List Rat)(M:Mem)(R:DK)(Y:DXK):Prop:=(qs.length≤60∧∀ q∈qs,sz q≤5000)∧R (.int ((lcL qs:Nat):Int)) M
def Cp:DSp:=fun ds M R Y=>∃(qs:List Rat),ds=[.vl (qs.map d7)]∧iK qs M R Y
theorem sG{qs:List Rat}{M:Mem}{R:DK}{Y:DXK}:Cp [.vl (qs.map d7)] M R Y=(iK qs M R Y):=propext ⟨fun z=>by obtain⟨_,_,_⟩:=z;walk_at "inj",fun h=>⟨qs,rfl,h⟩⟩
abbrev bY(qs:List Rat)(c:Int)(M:Mem)(R:DK)(Y:DXK):Prop:=((qs.length≤60∧∀ q∈qs,sz q≤5000)∧c=((lcL qs:Nat):Int))∧R (.vl ((qs.map fun q=>q.num*((lcL qs / q.den:Nat):Int)).map D.int)) M
def uF:DSp:=fun ds M R Y=>∃(qs:List Rat) (c:Int),ds=[.vl (qs.map d7),.int c]∧bY qs c M R Y
theorem nY{qs:List Rat}{c:Int}{M:Mem}{R:DK}{Y:DXK}:uF [.vl (qs.map d7),.int c] M R Y=(bY qs c M R Y):=propext ⟨fun z=>by obtain⟨_,_,_,_⟩:=z;walk_at "inj",fun h=>⟨qs,c,rfl,h⟩⟩
noncomputable def gO(qs:List Rat):Rat:=qs.foldr (· + ·) 0
abbrev Z3(qs:List Rat)(M:Mem)(R:DK)(Y:DXK):Prop:=(qs.length≤60∧∀ q∈qs,sz q≤5000)∧R (d7 (gO qs)) M
def ix:DSp:=fun ds M R Y=>∃(qs:List Rat),ds=[.vl (qs.map d7)]∧Z3 qs M R Y
theorem jS{qs:List Rat}{M:Mem}{R:DK}{Y:DXK}:ix [.vl (qs.map d7)] M R Y=(Z3 qs M R Y):=propext ⟨fun z=>by obtain⟨_,_,_⟩:=z;walk_at "inj",fun h=>⟨qs,rfl,h⟩⟩
abbrev T8(y u z w:Rat)(M:Mem)(R:DK)(Y:DXK):Prop:=(sz y≤1200∧sz u≤1200∧sz z≤1200∧sz w≤1200)∧R (d7 (y*w - z*u)) M
def cq:DSp:=fun ds M R Y=>∃(y u z w:Rat),ds=[aT y u,aT z w]∧T8 y u z w M R Y
theorem fJ{y u z w:Rat}{M:Mem}{R:DK}{Y:DXK}:cq [aT y u,aT z w] M R Y=(T8 y u z w M R Y):=propext ⟨fun z=>by obtain⟨_,_,_,_,_,_⟩:=z;walk_at "inj",fun h=>⟨y,u,z,w,rfl,h⟩⟩
abbrev cu(cs:List Zr)(M:Mem)(R:DK)(Y:DXK):Prop:=(cs.length≤60∧2≤cs.length∧∀ z∈cs,sz z.1≤1200∧sz z.2≤1200)∧R (d7 (a2 cs*(1 / 2))) M
def uL:DSp:=fun ds M R Y=>∃(cs:List Zr),ds=[.vl (cs.map rD)]∧cu cs M R Y
theorem oy{cs:List Zr}{M:Mem}{R:DK}{Y:DXK}:uL [.vl (cs.map rD)] M R Y=(cu cs M R Y):=propext ⟨fun z=>by obtain⟨_,_,_⟩:=z;walk_at "inj",fun h=>⟨cs,rfl,h⟩⟩
abbrev ai(cs:List Zr)(M:Mem)(R:DK)(Y:DXK):Prop:=(cs.length≤60∧2≤cs.length∧∀ z∈cs,sz z.1≤1200∧sz z.2≤1200)∧R (d7 (a2 cs*(1 / 2))) M
def mV:DSp:=fun ds M R Y=>∃(cs:List Zr),ds=[.tup (cs.map rD)]∧ai cs M R Y
theorem ka{cs:List Zr}{M:Mem}{R:DK}{Y:DXK}:mV [.tup (cs.map rD)] M R Y=(ai cs M R Y):=propext ⟨fun z=>by obtain⟨_,_,_⟩:=z;walk_at "inj",fun h=>⟨cs,rfl,h⟩⟩
theorem qf(qs:List Rat):0<lcL qs:=by
 have:∀(xs:List Rat) (c:Nat),0<c→0<xs.foldl (fun c q=>B9 c q.den) c:=fun xs=>by
  induction xs with
  | nil=>exact fun c h=>h
  | cons x xs ih=>exact fun c h=>ih _ (by show 0<B9 c x.den;rw[K5];exact Nu h x.den_pos)
 exact this _ _ (by decide)
theorem zp{qs:List Rat}{q:Rat}(h:q∈qs):q.den ∣ lcL qs:=by
 have up:∀(xs:List Rat) (c:Nat),c ∣ xs.foldl (fun c q=>B9 c q.den) c:=fun xs=>by
  induction xs with
  | nil=>exact fun c=>Nat.dvd_refl c
  | cons x xs ih=>exact fun c=>ML (by show c ∣ B9 c x.den;rw[K5];exact Mh _ _) (ih _)
 have:∀(xs:List Rat) (c:Nat),q∈xs→q.den ∣ xs.foldl (fun c q=>B9 c q.den) c:=fun xs=>by
  induction xs with
  | nil=>exact fun c h=>nomatch h
  | cons x xs ih =>
   intro c h
   rcases JJ.mp h with rfl|h
   ·exact ML (by rw[K5];exact MH _ _) (up xs (B9 c q.den))
   ·exact ih _ h
 exact this _ _ h
theorem vM:∀(qs:List Rat) (c n:Nat),(∀ q∈qs,sz q≤5000)→c<2 ^ n→qs.foldl (fun c q=>B9 c q.den) c<2 ^ (n+5000*qs.length):=fun qs=>by
 induction qs with
 | nil=>exact fun c n _ h=>h
 | cons q qs ih =>
  intro c n hq hc
  have hd:q.den<2 ^ 5000:=B5 q (hq q (.head _))
  have h1:B9 c q.den<2 ^ (n+5000):=by
   rw[K5,Ob]
   refine Kz (JR (Lr _ _) (JY _)) ?_
   exact MP hc hd
  have:=ih _ _ (fun x hx=>hq x (.tail _ hx)) h1
  show qs.foldl (fun c q=>B9 c q.den) (B9 c q.den)<_
  rw[JP]
  exact JN this (Kw (by decide) (by omega))
theorem um:∀(qs:List Rat) (N:Nat),0<N→(∀ q∈qs,q.den ∣ N)→Lh ((qs.map fun q=>q.num*((N / q.den:Nat):Int)).sum) N=gO qs:=fun qs=>by
 induction qs with
 | nil =>
  intro N hN _
  show Lh 0 N=0
  rw[Rat.zero_divInt]
 | cons q qs ih =>
  intro N hN hd
  rw[Ky,List.sum_cons]
  have e:=ih N hN fun x hx=>hd x (.tail _ hx)
  have n0:(N:Int)≠0:=by omega
  have e1:Lh (q.num*((N / q.den:Nat):Int)) N=q:=by
   obtain⟨k,rfl⟩:=hd q (.head _)
   rw[MM _ q.den_pos]
   have k0:(k:Int)≠0:=fun z=>by rw[My,z]at n0;exact n0 (NS _)
   rw[My,Nk k0,LR]
  show _=q+gO qs
  rw[← e]
  conv=>rhs;rw[← e1]
  rw[Rat.divInt_add_divInt _ _ n0 n0,← Int.add_mul,Nk n0]
theorem U5{ds:List D}{n:Nat}:J6 ds (some (n:Int)) none=ds.drop n:=by
 unfold J6
 rw[HT.iF,HT.uJ]
 by_cases h:n≤ds.length
 ·rw[LW h,KN (by rw[Kr];omega)]
 ·rw[NX (by omega),MW (by omega),MW (by omega),List.take_nil]
theorem cG{cs:List Zr}:J6 (cs.map rD) (some 1) none++J6 (cs.map rD) none (some 1)=(cs.drop 1++cs.take 1).map rD:=by
 rw[show(some (1:Int))=some ((1:Nat):Int)from rfl,U5,bh,← Ml,← MN,← Kp]
theorem cI:∀(xs ys:List Zr),P2 (xs.map rD) (ys.map rD)=(xs.zip ys).map fun p=>D.tup [rD p.1,rD p.2]
 | [],_=>by cases ‹List Zr›<;>rfl
 | _ :: _,[]=>rfl
 | x :: xs,y :: ys=>by
  show D.tup [rD x,rD y] :: P2 (xs.map rD) (ys.map rD)=_
  rw[cI xs ys];rfl
noncomputable def eM(cs:List Zr):List Rat:=(cs.zip (cs.drop 1++cs.take 1)).map fun p=>p.1.1*p.2.2 - p.2.1*p.1.2
theorem ak{cs:List Zr}(h:0<cs.length):(cs.drop 1++cs.take 1).length=cs.length:=by rw[JQ,Kr,JX];omega
theorem DN{cs:List Zr}(h:1<cs.length){i:Nat}(hi:i<cs.length):(eM cs)[i]? = some (cr (nth cs i) (nth cs (i+1))):=by
 unfold eM
 have hr:=ak (show 0<cs.length by omega)
 rw[Ki,Kg (by rw[KO,hr];omega),LK]
 have e1:cs[i]=nth cs i:=(eA hi).symm
 have e2:(cs.drop 1++cs.take 1)[i]'(by omega)=nth cs (i+1):=by rw[← y4 cs h,eA (by omega)]
 show some (_*_ - _*_)=_
 rw[e1,e2]
 unfold cr
 congr 1
 grind
theorem uo:∀(qs:List Rat) (f:Nat→Rat),(∀ i,i<qs.length→qs[i]? = some (f i))→gO qs=A4 f qs.length:=fun qs=>by
 induction qs with
 | nil=>intro f _;rfl
 | cons q qs ih =>
  intro f h
  have h0:=h 0 (by simp)
  have h0:q=f 0:=by simpa using h0
  have:=ih (fun i=>f (i+1)) fun i hi=>by
   have:=h (i+1) (by simpa using hi)
   simpa using this
  show q+gO qs=_
  rw[this,JP,Ng qs.length 1,dq]
  rw[show A4 f 1=f 0 by show(0:Rat)+f 0=f 0;grind,h0]
  congr 1
  exact N2 fun i _=>by rw[Ng]
theorem aE{cs:List Zr}(h:0<cs.length):(eM cs).length=cs.length:=by unfold eM;rw[JD,KO,ak h];omega
theorem nG{cs:List Zr}(h:1<cs.length):gO (eM cs)=a2 cs:=by
 rw[uo (eM cs) (fun i=>cr (nth cs i) (nth cs (i+1))) fun i hi=>DN h (by rw[aE (by omega)]at hi;exact hi),aE (by omega)];rfl
theorem nF{cs:List Zr}(hz:∀ z∈cs,sz z.1≤1200∧sz z.2≤1200):∀ q∈eM cs,sz q≤5000:=fun q hq=>by
 obtain⟨p,hp,rfl⟩:=JK.mp hq
 have m1:=Lq hp
 have m2:p.2∈cs:=by
  rcases Kf.mp m1.2 with h|h
  ·exact Lj h
  ·exact Kx h
 have a:=hz _ m1.1
 have b:=hz _ m2
 have c1:=RM.F7 p.1.1 p.2.2
 have c2:=RM.F7 p.2.1 p.1.2
 have c3:=RM.W0 (p.1.1*p.2.2) (p.2.1*p.1.2)
 show sz (p.1.1*p.2.2 - p.2.1*p.1.2)≤5000
 omega
theorem mC:∀(qs:List Rat),(∀ q∈qs,sz q≤5000)→sz (gO qs)≤5001*qs.length+1:=fun qs=>by
 induction qs with
 | nil=>intro _;show sz 0≤_;rw[RM.bT];omega
 | cons q qs ih =>
  intro h
  have h1:=ih fun x hx=>h x (.tail _ hx)
  have h2:=h q (.head _)
  have h3:=RM.W1 q (gO qs)
  show sz (q+gO qs)≤_
  rw[JP];omega
end GM
namespace GM
open PySem PySem.Spec L2 DL
open RM (sz)
structure S4(x:Str × Rat):Prop where
 ok:t6 x
 s:sz x.2≤40
noncomputable def J8(x:Str × Rat):Str × Rat:=if x.1 = "stop" then(x.1,x.2*(1 / 2))else x
local macro_rules|`(tactic| walk_at "inj")=>`(tactic| (rename_i e h;simp only[List.cons.injEq,GM.G9,GM.X3,GM.T9,and_true,true_and,GM.g8,GM.i5,GM.h7,GM.i6,GM.h8,D.tup.injEq,D.ref.injEq,D.int.injEq,D.str.injEq,D.bl.injEq,D.vl.injEq,Kt,and_assoc]at e;(repeat(obtain⟨e1,e⟩:=e;subst e1));subst e;exact h))
local macro_rules|`(tactic| walk_at "injs")=>`(tactic| (rename_i e o h;rcases o with o|o<;>(subst o;first|(exfalso;simp only[D.tup.injEq,List.cons.injEq,reduceCtorEq,false_and,and_false]at e;done)|(simp only[List.cons.injEq,GM.G9,GM.X3,GM.T9,and_true,true_and,GM.g8,GM.i5,GM.h7,GM.i6,GM.h8,D.tup.injEq,D.ref.injEq,D.int.injEq,D.str.injEq,D.bl.injEq,D.vl.injEq,Kt,and_assoc]at e;(repeat(obtain⟨e1,e⟩:=e;subst e1));subst e;exact h))))
abbrev Z7(p:Addr)(M:Mem)(R:DK)(Y:DXK):Prop:=D7 M p∧∀(q:Rat) M',sz q≤40→C2 p M M'→R (d7 q) M'
def dN:DSp:=fun ds M R Y=>∃(p:Addr),ds=[.ref p]∧Z7 p M R Y
theorem jW{p:Addr}{M:Mem}{R:DK}{Y:DXK}:dN [.ref p] M R Y=(Z7 p M R Y):=propext ⟨fun z=>by obtain⟨_,_,_⟩:=z;walk_at "inj",fun h=>⟨p,rfl,h⟩⟩
abbrev T6(x:Str × Rat)(M:Mem)(R:DK)(Y:DXK):Prop:=S4 x∧R (f9 (J8 x)) M
def iG:DSp:=fun ds M R Y=>∃(x:Str × Rat),ds=[f9 x]∧T6 x M R Y
theorem fF{x:Str × Rat}{M:Mem}{R:DK}{Y:DXK}:iG [f9 x] M R Y=(T6 x M R Y):=propext ⟨fun z=>by obtain⟨_,_,_⟩:=z;walk_at "inj",fun h=>⟨x,rfl,h⟩⟩
noncomputable def evT:List T3→Rat
 | a :: b :: r=>((a.2.2 - a.2.1)+(b.2.2 - b.2.1))*(1 / 2)*(b.1 - a.1)+evT (b :: r)
 | _=>0
abbrev cj(rs:List T3)(M:Mem)(R:DK)(Y:DXK):Prop:=(rs.length≤60∧∀ r∈rs,sz r.1≤1200∧sz r.2.1≤2900∧sz r.2.2≤2900)∧R (d7 (evT rs)) M
def uK:DSp:=fun ds M R Y=>∃(rs:List T3),ds=[.vl (rs.map g5)]∧cj rs M R Y
theorem ou{rs:List T3}{M:Mem}{R:DK}{Y:DXK}:uK [.vl (rs.map g5)] M R Y=(cj rs M R Y):=propext ⟨fun z=>by obtain⟨_,_,_⟩:=z;walk_at "inj",fun h=>⟨rs,rfl,h⟩⟩
theorem nT{α:Type}(f:α→D):∀(xs ys:List α),P2 (xs.map f) (ys.map f)=(xs.zip ys).map fun p=>D.tup [f p.1,f p.2]
 | [],ys=>by cases ys<;>rfl
 | _ :: _,[]=>rfl
 | x :: xs,y :: ys=>by
  show D.tup [f x,f y] :: P2 (xs.map f) (ys.map f)=_
  rw[nT f xs ys];rfl
theorem wD{α:Type}(f:α→D)(xs:List α):J6 (xs.map f) (some 1) none=(xs.drop 1).map f:=by
 rw[show(some (1:Int))=some ((1:Nat):Int)from rfl,U5,← Ml]
noncomputable def evA(p:T3 × T3):Rat:=((p.1.2.2 - p.1.2.1)+(p.2.2.2 - p.2.2.1))*(1 / 2)*(p.2.1 - p.1.1)
noncomputable def evP(ps:List (T3 × T3)):Rat:=ps.foldl (fun c p=>c+evA p) 0
theorem wg(ps:List (T3 × T3))(c:Rat):ps.foldl (fun c p=>c+evA p) c=c+evP ps:=by
 unfold evP
 induction ps generalizing c with
 | nil=>show c=c+0;grind
 | cons p ps ih =>
  show ps.foldl _ (c+evA p)=c+ps.foldl _ (0+evA p)
  rw[ih,ih (0+evA p)];grind
theorem Bi:∀(rs:List T3),evP (rs.zip (rs.drop 1))=evT rs
 | []=>rfl
 | [_]=>rfl
 | a :: b :: r=>by
  have ih:=Bi (b :: r)
  show(((a,b) :: (b :: r).zip r):List (T3 × T3)).foldl (fun c p=>c+evA p) 0=_
  show((b :: r).zip r).foldl (fun c p=>c+evA p) (0+evA (a,b))=_
  rw[wg]
  have ih:evP ((b :: r).zip r)=evT (b :: r):=ih
  rw[ih]
  show 0+evA (a,b)+evT (b :: r)=evA (a,b)+evT (b :: r)
  grind
theorem DE{p:T3 × T3}(h1:sz p.1.1≤1200∧sz p.1.2.1≤2900∧sz p.1.2.2≤2900)(h2:sz p.2.1≤1200∧sz p.2.2.1≤2900∧sz p.2.2.2≤2900) :
  sz (p.1.2.2 - p.1.2.1)≤5801∧sz (p.2.2.2 - p.2.2.1)≤5801∧sz ((p.1.2.2 - p.1.2.1)+(p.2.2.2 - p.2.2.1))≤11603∧sz (((p.1.2.2 - p.1.2.1)+(p.2.2.2 - p.2.2.1))*(1 / 2))≤11606∧sz (p.2.1 - p.1.1)≤2401∧sz (evA p)≤14007:=by
 have a1:=RM.W0 p.1.2.2 p.1.2.1
 have a2:=RM.W0 p.2.2.2 p.2.2.1
 have a3:=RM.W1 (p.1.2.2 - p.1.2.1) (p.2.2.2 - p.2.2.1)
 have a4:=RM.F7 ((p.1.2.2 - p.1.2.1)+(p.2.2.2 - p.2.2.1)) (1 / 2)
 have a5:=U0
 have a6:=RM.W0 p.2.1 p.1.1
 have a7:=RM.F7 (((p.1.2.2 - p.1.2.1)+(p.2.2.2 - p.2.2.1))*(1 / 2)) (p.2.1 - p.1.1)
 refine⟨by omega,by omega,by omega,by omega,by omega,?_⟩
 unfold evA
 omega
theorem Bh{f:Rat→Rat × Rat}:∀(hs:List Rat),evn (fun h=>(f h).2 - (f h).1) hs*(1 / 2)=evT (hs.map fun h=>(h,f h))
 | []=>by show(0:Rat)*(1 / 2)=0;grind
 | [_]=>by show(0:Rat)*(1 / 2)=0;grind
 | a :: b :: r=>by
  have ih:=Bh (f:=f) (b :: r)
  show((b - a)*(((f a).2 - (f a).1)+((f b).2 - (f b).1))+evn (fun h=>(f h).2 - (f h).1) (b :: r))*(1 / 2)=(((f a).2 - (f a).1)+((f b).2 - (f b).1))*(1 / 2)*(b - a)+evT ((b :: r).map fun h=>(h,f h))
  rw[← ih];grind
end GM
namespace GM
open PySem PySem.Spec L2 DL
open RM (sz)
theorem zH(x:Str × Rat)(y u:Rat)(h:x.1 = "gap" ∨ x.1 = "glass" ∨ x.1 = "stop"):E5 (J8 x) y u=E5 x y u:=by
 unfold J8
 rcases h with h|h|h
 ·rw[if_neg (by rw[h];decide)]
 ·rw[if_neg (by rw[h];decide)]
 ·rw[if_pos h]
  unfold E5
  have n1:¬ x.1 = "gap" := by rw[h];decide
  have n2:¬ x.1 = "glass" := by rw[h];decide
  show(if x.1 = "gap" then _ else if x.1 = "glass" then _ else _)=_
  rw[if_neg n1,if_neg n2,if_neg n1,if_neg n2]
theorem qt:∀(bs:List (Str × Rat)) (r:Rat × Rat),(∀ x∈bs,t6 x)→o9 (bs.map J8) r=o9 bs r:=fun bs=>by
 induction bs with
 | nil=>intro r _;rfl
 | cons x bs ih =>
  intro r h
  have hk:x.1 = "gap" ∨ x.1 = "glass" ∨ x.1 = "stop" := by
   rcases(h x (.head _)).kind with h|h|h
   ·exact .inl h.1
   ·exact .inr (.inl h)
   ·exact .inr (.inr h.1)
  show o9 (bs.map J8) (E5 (J8 x) r.1 r.2)=o9 bs (E5 x r.1 r.2)
  rw[zH x r.1 r.2 hk,ih _ fun y hy=>h y (.tail _ hy)]
theorem zG{bs:List (Str × Rat)}(h:∀ x∈bs,t6 x):∀ i,A9 (bs.map J8) i=(A9 bs i).map fun l=>(l.1,l.2.1,l.2.2*(1 / 2)):=fun i=>by
 induction i with
 | zero=>rfl
 | succ i ih =>
  show A9 (bs.map J8) i++_=(A9 bs i++_).map _
  rw[ih,Kp]
  congr 1
  rw[Ki]
  cases e:bs[i]? with
  | none=>rfl
  | some x =>
   have hn:(J8 x).1=x.1:=by unfold J8;split<;>rfl
   show(if (J8 x).1 = "stop" then _ else _)=(if x.1 = "stop" then _ else _:List T3).map _
   rw[hn,← MN,qt _ _ fun y hy=>h y (Kx hy),qt _ _ fun y hy=>h y (Kx hy)]
   by_cases c:x.1 = "stop"
   ·rw[if_pos c,if_pos c]
    unfold J8
    rw[if_pos c];rfl
   ·rw[if_neg c,if_neg c];rfl
theorem pZ{bs:List (Str × Rat)}{l:T3}:∀{i:Nat},l∈A9 bs i ↔ ∃ j x,j<i∧bs[j]? = some x∧x.1 = "stop" ∧ l=((o9 (bs.take j) (1,0)).1,(o9 (bs.take j) (0,1)).1,x.2):=fun{i}=>by
 induction i with
 | zero =>
  constructor
  ·intro h;cases h
  ·rintro⟨j,_,h,_⟩;exact absurd h (Nf j)
 | succ i ih =>
  show l∈A9 bs i++_↔_
  rw[Kf,ih]
  constructor
  ·rintro(⟨j,x,h1,h2⟩|h)
   ·exact⟨j,x,by omega,h2⟩
   ·cases e:bs[i]? with
    | none=>rw[e]at h;cases h
    | some x =>
     rw[e]at h
     by_cases c:x.1 = "stop"
     ·have h:l∈(if x.1 = "stop" then[_]else[]):=h
      rw[if_pos c]at h
      exact⟨i,x,by omega,e,c,Kl.mp h⟩
     ·have h:l∈(if x.1 = "stop" then[_]else[]):=h
      rw[if_neg c]at h;cases h
  ·rintro⟨j,x,h1,h2,h3,h4⟩
   by_cases c:j<i
   ·exact .inl ⟨j,x,c,h2,h3,h4⟩
   ·obtain rfl:j=i:=by omega
    right
    rw[h2]
    show l∈(if x.1 = "stop" then[_]else[])
    rw[if_pos h3,h4]
    exact Kl.mpr rfl
theorem uv{x:Str × Rat}(h:x.1 = "stop")(y u:Rat):E5 x y u=(y,u):=by
 unfold E5
 rw[if_neg (by rw[h];decide),if_neg (by rw[h];decide)]
theorem kP{as cs:List (Str × Rat)}{x:Str × Rat}(h:x.1 = "stop")(r:Rat × Rat):o9 (as++x :: cs) r=o9 (as++cs) r:=by
 unfold o9
 rw[KR,KR,Mv,uv h]
theorem vH{bs:List (Str × Rat)}{x:Str × Rat}(h:x.1 = "stop"){k:Nat}(hk:k≤bs.length){l:T3}(hl:l∈A9 bs bs.length):l∈A9 (bs.take k++[x]++bs.drop k) (bs.take k++[x]++bs.drop k).length:=by
 have hlen:(bs.take k++[x]++bs.drop k).length=bs.length+1:=by rw[JQ,JQ,JX,Kr,KQ];omega
 rw[hlen]
 obtain⟨j,y,h1,h2,h3,rfl⟩:=pZ.mp hl
 rw[pZ]
 by_cases c:j<k
 ·refine⟨j,y,by omega,?_,h3,?_⟩
  ·rw[Ls,Lc (by rw[JX];omega),LM c];exact h2
  ·rw[Ls,List.take_append_of_le_length (by rw[JX];omega),List.take_take,LW (by omega)]
 ·have e:(bs.take k++[x]++bs.drop k).take (j+1)=bs.take k++x :: (bs.drop k).take (j - k):=by
   rw[Ls,List.take_append,KN (by rw[JX];omega),JX,LW hk,show j+1 - k=(j - k)+1 by omega]
   rfl
  have e2:bs.take k++(bs.drop k).take (j - k)=bs.take j:=by
   rw[← List.take_add,show k+(j - k)=j by omega]
  refine⟨j+1,y,by omega,?_,h3,?_⟩
  ·rw[KH (by rw[JQ,JX,KQ];omega),JQ,JX,KQ,LW hk,NG,show k+(j+1 - (k+1))=j by omega];exact h2
  ·rw[e,kP h,kP h,e2]
theorem vT{q:Rat}{n:Nat}(h:sz q≤n):sz (q*(1 / 2))≤n+1:=by
 have e:q*(1 / 2)=Lh q.num (q.den*2:Int):=by
  rw[jk]
  conv=>lhs;rw[← LR q]
  rw[Rat.divInt_mul_divInt,Int.mul_one]
 have h1:=G3 q h
 have h2:=B5 q h
 have:=q.den_pos
 rw[e]
 have hs:=RM.G8 q.num (q.den*2:Int) (by omega)
 refine JR hs (Mn.mpr ⟨RM.S3 (MD h1 (by rw[Ma];omega)) (by omega),RM.S3 ?_ (by omega)⟩)
 rw[Ma];omega
theorem Dz{x:Str × Rat}(h:S4 x):t6 (J8 x):=by
 unfold J8
 by_cases c:x.1 = "stop"
 ·rw[if_pos c]
  refine⟨.inr (.inr ⟨c,?_⟩),vT h.s⟩
  rcases h.ok.kind with⟨z,_⟩|z|⟨_,z⟩
  ·rw[z]at c;exact absurd c (by decide)
  ·rw[z]at c;exact absurd c (by decide)
  ·show 0<x.2*(1 / 2);grind
 ·rw[if_neg c];exact h.ok
theorem Fd(bs:List (Str × Rat)):p6 bs 0=A9 bs bs.length:=by
 unfold p6
 conv=>rhs;rw[← List.map_id (A9 bs bs.length)]
 refine List.map_congr_left fun l _=>?_
 show(l.1,l.1*0+l.2.1,l.2.2)=l
 rw[show l.1*0+l.2.1=l.2.1 by grind]
theorem zR{cs:List Zr}(hn:cs≠[])(h:Chn cs):2≤cs.length:=by
 match cs,hn with
 | [],hn=>exact absurd rfl hn
 | [a],_ =>
  have:=h.cr 0
  have e1:nth [a] 0=a:=rfl
  have e2:nth [a] (0+1)=a:=by simp[nth]
  rw[e1,e2]at this
  unfold cr at this
  grind
 | _ :: _ :: _,_=>exact Oj 2 _
structure BnL(ls:List T3):Prop where
 ok:∀ l∈ls,LineOk l
 lsk:si ls
 bd:∀ cs,v9 ls=some cs→cs.length≤50∧2≤cs.length∧∀ z∈cs,sz z.1≤1177∧sz z.2≤1177
theorem pE{bs:List (Str × Rat)}{x:Rat}(hl:bs.length≤12)(hok:∀ x∈bs,t6 x)(hx:sz x≤41):BnL (p6 bs x):=by
 have hso:=Z0 hl hok hx
 have hlo:∀ l∈p6 bs x,LineOk l:=fun l h=>(hso l h).1.toLineOk
 refine⟨hlo,pD hl hok hx,fun cs ec=>?_⟩
 obtain⟨hcl,hcz⟩:=wF hlo (fun l h=>(hso l h).2.2) ec
 have h12:(p6 bs x).length≤12:=JR (gh bs x) hl
 have C:=(R8 hlo ec).1
 exact⟨by omega,zR C.ne C.chn,hcz⟩
theorem nk{bs:List (Str × Rat)}(hl:bs.length≤12)(hok:∀ x∈bs,t6 x):BnL (A9 bs bs.length):=by
 have:=pE (x:=0) hl hok (by rw[RM.bT];decide)
 rwa [Fd]at this
theorem wU{cs:List Zr}(h:cs.length≤60∧2≤cs.length∧∀ z∈cs,sz z.1≤1200∧sz z.2≤1200):sz (a2 cs*(1 / 2))≤300100:=by
 obtain⟨h1,h2,h3⟩:=h
 have ss:=mC _ (nF h3)
 rw[nG (by omega),aE (by omega)]at ss
 have:=RM.F7 (a2 cs) (1 / 2)
 have:=U0
 omega
noncomputable def K2(ls:List T3):D:=match v9 ls with
 | none=>.non
 | some cs=>.vl ((Q9 ls cs).map g5)
theorem gk{bs:List (Str × Rat)}{x:Rat}{cs ds:List Zr}(hl:bs.length≤12)(hok:∀ x∈bs,t6 x)(hx:sz x≤41)(e:v9 (p6 bs x)=some ds)(ea:a2 ds=a2 cs):(Q9 (p6 bs x) ds).length≤60∧(∀ r∈Q9 (p6 bs x) ds,sz r.1≤1200∧sz r.2.1≤2900∧sz r.2.2≤2900)∧evT (Q9 (p6 bs x) ds)=a2 cs*(1 / 2):=by
 have B:=pE hl hok hx
 have hso:=Z0 hl hok hx
 obtain⟨b1,_,b3⟩:=B.bd ds e
 have fo:=lI B.ok e
 unfold Q9
 refine⟨?_,fun r hr=>?_,?_⟩
 ·rw[JD]
  exact JR (JR (dR (ds.map (·.1))) (by rw[JD];exact JY _)) (JR b1 (by decide))
 ·obtain⟨h,hh,rfl⟩:=JK.mp hr
  obtain⟨lo,hi,c⟩:=fo.cone h hh
  obtain⟨z,hz,rfl⟩:=(fo.mem h).mp hh
  have z1:=(b3 z hz).1
  have:=zP (fun l hl=>(hso l hl).2.1) z1 c
  dsimp only
  rw[R9 c]
  exact⟨by omega,by dsimp only;omega,by dsimp only;omega⟩
 ·rw[← Bh,← we B.ok e,ea]
abbrev T0(p:Addr)(M:Mem)(R:DK)(Y:DXK):Prop:=D7 M p∧∀ x M',S4 x→C2 p M M'→R (f9 x) M'
def iB:DSp:=fun ds M R Y=>∃(p:Addr),ds=[.ref p,.vl [.str "gap",.str "glass",.str "stop",.str "gap",.str "glass",.str "stop"]]∧T0 p M R Y
theorem fD{p:Addr}{M:Mem}{R:DK}{Y:DXK}:iB [.ref p,.vl [.str "gap",.str "glass",.str "stop",.str "gap",.str "glass",.str "stop"]] M R Y=(T0 p M R Y):=propext ⟨fun z=>by obtain⟨_,_,_⟩:=z;walk_at "inj",fun h=>⟨p,rfl,h⟩⟩
abbrev N8(p:Addr)(M:Mem)(R:DK)(Y:DXK):Prop:=D7 M p∧∀ x M',(S4 x∧x.1 = "stop")→C2 p M M'→R (f9 x) M'
def dM:DSp:=fun ds M R Y=>∃(p:Addr),ds=[.ref p,.vl [.str "stop"]]∧N8 p M R Y
theorem cL{p:Addr}{M:Mem}{R:DK}{Y:DXK}:dM [.ref p,.vl [.str "stop"]] M R Y=(N8 p M R Y):=propext ⟨fun z=>by obtain⟨_,_,_⟩:=z;walk_at "inj",fun h=>⟨p,rfl,h⟩⟩
abbrev N9(p:Addr)(n:Int)(M:Mem)(R:DK)(Y:DXK):Prop:=D7 M p∧(0≤n∧n≤10)∧∀(bs:List (Str × Rat)) M',bs.length≤10→(∀ x∈bs,S4 x)→C2 p M M'→R (.vl (bs.map f9)) M'
def dP:DSp:=fun ds M R Y=>∃(p:Addr) (n:Int),ds=[.ref p,.int n,.vl [.str "gap",.str "glass",.str "stop",.str "gap",.str "glass",.str "stop"]]∧N9 p n M R Y
theorem cN{p:Addr}{n:Int}{M:Mem}{R:DK}{Y:DXK}:dP [.ref p,.int n,.vl [.str "gap",.str "glass",.str "stop",.str "gap",.str "glass",.str "stop"]] M R Y=(N9 p n M R Y):=propext ⟨fun z=>by obtain⟨_,_,_,_⟩:=z;walk_at "inj",fun h=>⟨p,n,rfl,h⟩⟩
structure xb(bs more:List (Str × Rat))(hd:D)(x1 x2:Rat):Prop where
 hd:hd = .vl (bs.map f9)∨hd = .tup (bs.map f9)
 len:bs.length≤10
 ok:∀ x∈bs,S4 x
 x1:sz x1≤40
 x2:sz x2≤40
 more:∃(k:Nat) (s:Str × Rat),k≤bs.length∧s.1 = "stop" ∧ S4 s∧more=bs.take k++[s]++bs.drop k
abbrev T7(bs more:List (Str × Rat))(hd:D)(x1 x2:Rat)(M:Mem)(R:DK)(Y:DXK):Prop:=xb bs more hd x1 x2∧R (.bl true) M
def iH:DSp:=fun ds M R Y=>∃(bs more:List (Str × Rat)) (hd:D) (x1 x2:Rat),ds=[.vl (bs.map f9),hd,.vl [d7 x1,d7 x2],.vl (more.map f9)]∧T7 bs more hd x1 x2 M R Y
theorem fH{bs more:List (Str × Rat)}{hd:D}{x1 x2:Rat}{M:Mem}{R:DK}{Y:DXK}:iH [.vl (bs.map f9),hd,.vl [d7 x1,d7 x2],.vl (more.map f9)] M R Y=(T7 bs more hd x1 x2 M R Y):=propext ⟨fun z=>by obtain⟨_,_,_,_,_,_,_⟩:=z;walk_at "inj",fun h=>⟨bs,more,hd,x1,x2,rfl,h⟩⟩
end GM
namespace K33
open PySem PySem.Spec L2 DL GM
open RM (sz)
open PyProof.Rows hiding St
local macro_rules|`(tactic| walk_at "sim")=>do
 let f:=fun(b:Bool) (p:String) (s:String)=>((s.splitOn " ").mapM (fun s=>(let i:=Lean.mkIdent (p++s).toName;if b then `(Lean.Parser.Tactic.simpLemma| ↓$i:ident)else `(Lean.Parser.Tactic.simpLemma| $i:ident))):Lean.MacroM _)
 let a := "z_C EJ EH EF EG EE ED EC tD AO AR EI AB tW tL EL AH AD tT Aw AF tV EM tM Ay tS Az oY oO tw oP df ke AQ AA tK AS AE AG AJ AI tN tU Ax ki tJ oX oZ dg aJ kc kf oN tQ tu oM AK AM pk Av oR tH tF kg pj pf oQ oW oT oV oU oS tI AL AN tO tP EK tE bz cQ fP cR fO bx cO fN cP fM bC cW fW cX fV bB cU fU cV fT bA cS fR cT fQ bE dc gc de fZ bD cY fY cZ fX Ep Eo En Em El Ek Ej Ei Eh Eg Ai EB EA Ez Ey Ex Ew Eu Et Es Er Au V9 V8 gK tm sZ sY sX sW sV sU sT sS sR sQ sP sO As Ar Aq Ap Ao An Am Al Ak Aj tR"
 let b := "kb fL oz sN sL sJ sI oG oF oA oH oK oJ oI oy ka cN sH sG ox fK fJ ou sF cM V7 jZ fH oq fG fF oo oj jY V6 N1 oi jX sE fE jW sD og fD cL jV sC sA fy sr so sm nZ fw jU cK Y5 cJ fu nY jT jS nX nW nV bu jR ft jQ nU jP jO jN ai cu N9 iL iK af T8 cj iJ Q8 ae T7 aa T6 cg cf Z9 J4 cc Z8 iE T5 Z7 iC bZ T0 N8 Z6 S9 Z5 Q7 G2 N7 S8 bY Z4 Z3 bX bW"
 let xs:=((← f true "DL." a)++(← f true "GM." b)++(← f false "GM." b)++(← f false "DL." a)++(← f false "" "DL.yd DL.xV DL.xJ DL.xD DL.ye DL.xW DL.xK DL.xE DL.yf DL.xX DL.xM DL.xF DL.yg DL.xY DL.xO DL.xG DL.yh DL.xZ DL.xP DL.xH DL.yi DL.yc DL.xQ DL.xI DL.xo DL.xv DL.xp DL.xw DL.xq DL.xx DL.xr DL.xA DL.xt DL.xB DL.xu DL.xC GM.xR GM.xS GM.xT GM.xU DL.BZ DL.BY DL.BX DL.BW DL.BV DL.BU DL.BS DL.BR DL.BQ DL.xm DL.xl DL.xk Nat.reduceAdd Nat.reduceLT Nat.reduceLeDiff Mf Int.reduceLT Int.reduceLE Int.reduceEq eq_self decide_true decide_false D.int.injEq D.str.injEq beq_self_eq_true and_self true_and and_true not_true_eq_false not_false_eq_true false_implies true_implies forall_const X8 Ky Lw NY Oh LB JP List.length_nil LA lZ List.getElem?_cons_zero List.getElem?_cons_succ Option.getD_some decide_eq_true_eq decide_eq_false_iff_not Bool.not_eq_true' Bool.not_eq_false' Bool.and_self Nz Bool.and_true Bool.xor_false Bool.false_xor Bool.true_xor Bool.not_true Bool.not_false LP Bool.true_eq_false reduceIte GM.r0 GM.r1 GM.r2 GM.r4 GM.rm1 GM.rm2 GM.g8 GM.Ct GM.uT GM.Fg GM.Cs")).toArray
 `(tactic| try simp only[$xs,*])
local macro_rules|`(tactic| walk_at "fn")=>do
 let i:=fun(s:String)=>Lean.mkIdent s.toName
 let x:=(("f cdv A outer s H E ds M R Y hr h".splitOn " ").map i).toArray
 `(tactic| (refine $(i "i4") $(i "d") $(i "sc") (by walk_at "len") (fun $x*=>?_);have $(i "hu"):ident:=$(i "hr.units")))
local macro_rules|`(tactic| walk_at "len")=>`(tactic| (intro ds M R Y h;repeat(first|exact congrArg LL h.1|(obtain⟨_,h⟩:=h))))
local macro_rules|`(tactic| walk_at "size")=>`(tactic| first|omega|grind only[RM.F7,RM.W1,RM.W0,RM.D9,RM.dm,RM.bT,GM.J2])
local macro_rules|`(tactic| walk_at "sc")=>`(tactic| exact⟨rfl,rfl,rfl,by decide +kernel,rfl,by decide +kernel,by decide +kernel⟩)
noncomputable def top(i:Nat):Stmt:=PySem.Challenge.pw_roundglass_k33_whole_one_area.main.body.getD i (.Pass ⟨0,0,0,0⟩)
noncomputable abbrev N4:Stmt:=top 55
noncomputable abbrev aP:Stmt:=top 6
noncomputable abbrev W8:Stmt:=top 5
noncomputable abbrev ik:Stmt:=top 7
noncomputable abbrev ij:Stmt:=top 12
noncomputable abbrev K0:Stmt:=top 15
noncomputable abbrev C4:Stmt:=top 14
noncomputable abbrev ig:Stmt:=top 16
noncomputable abbrev mN:Stmt:=top 10
noncomputable abbrev W6:Stmt:=top 8
noncomputable abbrev ip:Stmt:=top 11
noncomputable abbrev iu:Stmt:=top 21
noncomputable abbrev iw:Stmt:=top 47
noncomputable abbrev mP:Stmt:=top 17
noncomputable abbrev W9:Stmt:=top 35
noncomputable abbrev L1:Stmt:=top 36
noncomputable abbrev dI:Stmt:=top 25
noncomputable abbrev mL:Stmt:=top 27
noncomputable abbrev dH:Stmt:=top 33
noncomputable abbrev mM:Stmt:=top 28
noncomputable abbrev P9:Stmt:=top 31
noncomputable abbrev Q0:Stmt:=top 29
noncomputable abbrev P8:Stmt:=top 30
noncomputable abbrev W5:Stmt:=top 26
noncomputable abbrev X0:Stmt:=top 32
noncomputable abbrev aQ:Stmt:=top 37
noncomputable abbrev L0:Stmt:=top 23
noncomputable abbrev W7:Stmt:=top 39
noncomputable abbrev N5:Stmt:=top 51
noncomputable abbrev aR:Stmt:=top 54
noncomputable abbrev L4:Stmt:=top 60
noncomputable abbrev X1:Stmt:=top 52
noncomputable abbrev Q1:Stmt:=top 53
noncomputable abbrev Q6:Stmt:=top 59
noncomputable abbrev K9:Stmt:=top 45
noncomputable abbrev W4:Stmt:=top 9
noncomputable abbrev mO:Stmt:=top 13
noncomputable abbrev P6:Stmt:=top 43
noncomputable abbrev dG:Stmt:=top 44
noncomputable abbrev P7:Stmt:=top 42
noncomputable abbrev ir:Stmt:=top 46
noncomputable abbrev Q5:Stmt:=top 61
noncomputable abbrev Q4:Stmt:=top 50
noncomputable abbrev L3:Stmt:=top 56
noncomputable abbrev K1:Stmt:=top 57
noncomputable abbrev N6:Stmt:=top 58
noncomputable abbrev Q2:Stmt:=top 49
noncomputable abbrev uD:Stmt:=top 62
theorem eZ:e8 ["one","other"] ["one","other"] (d8 N4):=by walk_at "sc"
theorem mI:e8 ["one","other"] ["one","other"] (d8 aP):=by walk_at "sc"
theorem kD:e8 ["thing"] ["thing"] (d8 W8):=by walk_at "sc"
theorem uz:e8 ["top","bottom","share"] ["top","bottom"] (d8 ik):=by walk_at "sc"
theorem uy:e8 ["one","other"] ["one","other"] (d8 ij):=by walk_at "sc"
theorem Z1:e8 ["ratios","bottom"] ["ratios","bottom"] (d8 K0):=by walk_at "sc"
theorem L6:e8 ["ratios","bottom","one"] ["ratios"] (d8 C4):=by walk_at "sc"
theorem ux:e8 ["ratios","bottom"] ["ratios"] (d8 ig):=by walk_at "sc"
theorem yr:e8 ["one","other"] ["one","other"] (d8 mN):=by walk_at "sc"
theorem kB:e8 ["one"] ["one"] (d8 W6):=by walk_at "sc"
theorem uA:e8 ["one","other"] ["one","other"] (d8 ip):=by walk_at "sc"
theorem uC:e8 ["one","other","y","u","z","w"] ["one","other"] (d8 iu):=by walk_at "sc"
theorem pF:e8 ["rays","crosses"] ["rays"] (d8 iw):=by walk_at "sc"
theorem yu:e8 ["one","other"] ["one","other"] (d8 mP):=by walk_at "sc"
theorem kF:e8 ["one","other"] ["one","other"] (d8 W9):=by walk_at "sc"
theorem dD:e8 ["rays","place","number","ray"] ["rays"] (d8 L1):=by walk_at "sc"
theorem qW:e8 ["side","p","q","r","number","scale"] ["side"] (d8 dI):=by walk_at "sc"
theorem yp:e8 ["one","other"] ["one","other"] (d8 mL):=by walk_at "sc"
theorem qV:e8 ["one","other","bottom","y","u"] ["one","other"] (d8 dH):=by walk_at "sc"
theorem yq:e8 ["one","other","third"] ["one","other","third"] (d8 mM):=by walk_at "sc"
theorem gY:e8 ["sides","here","found","side","bend"] ["sides","here"] (d8 P9):=by walk_at "sc"
theorem gZ:e8 ["one","other","more"] ["one","other"] (d8 Q0):=by walk_at "sc"
theorem gX:e8 ["sides","found","side"] ["sides"] (d8 P8):=by walk_at "sc"
theorem kA:e8 ["lines","sides","number","line","scale","p","q","r","side"] ["lines"] (d8 W5):=by walk_at "sc"
theorem kG:e8 ["lines","sides","half","here"] ["lines"] (d8 X0):=by walk_at "sc"
theorem mJ:e8 ["lines","half","rays"] ["lines"] (d8 aQ):=by walk_at "sc"
theorem dB:e8 ["part","ray","word","number","y","u"] ["part","ray"] (d8 L0):=by walk_at "sc"
theorem kC:e8 ["bench","lines","level","axis","part"] ["bench"] (d8 W7):=by walk_at "sc"
theorem fb:e8 ["top","bottom","one","other"] ["top","bottom"] (d8 N5):=by walk_at "sc"
theorem mK:e8 ["one","other"] ["one","other"] (d8 aR):=by walk_at "sc"
theorem dF:e8 ["part"] ["part"] (d8 L4):=by walk_at "sc"
theorem kH:e8 ["one","other"] ["one","other"] (d8 X1):=by walk_at "sc"
theorem hJ:e8 ["one","other"] ["one","other"] (d8 Q1):=by walk_at "sc"
theorem ic:e8 ["rows","found","one","other","ends"] ["rows"] (d8 Q6):=by walk_at "sc"
theorem dA:e8 ["ratios","rising","one","lower"] ["ratios"] (d8 K9):=by walk_at "sc"
theorem kz:e8 ["one"] ["one"] (d8 W4):=by walk_at "sc"
theorem yt:e8 ["one","other"] ["one","other"] (d8 mO):=by walk_at "sc"
theorem gT:e8 ["line","h","p","q","r","middle","half"] ["line","h"] (d8 P6):=by walk_at "sc"
theorem qU:e8 ["lines","h","low","high","line","p","q","r","least","greatest"] ["lines","h"] (d8 dG):=by walk_at "sc"
theorem gW:e8 ["bench","x"] ["bench","x"] (d8 P7):=by walk_at "sc"
theorem uB:e8 ["bench","x","lines","rays","told","h","low","high"] ["bench","x"] (d8 ir):=by walk_at "sc"
theorem ib:e8 ["bench","handed","planes","more","found","rows","due","some","less_wide"] ["bench","handed","planes","more"] (d8 Q5):=by walk_at "sc"
theorem ia:e8 ["pool","base","digit","near","stir"] ["pool","base"] (d8 Q4):=by walk_at "sc"
theorem dE:e8 ["pool","pick","top"] ["pool"] (d8 L3):=by walk_at "sc"
theorem Z2:e8 ["pool","words","word","top","bottom"] ["pool","words"] (d8 K1):=by walk_at "sc"
theorem fc:e8 ["pool","count","words"] ["pool","count","words"] (d8 N6):=by walk_at "sc"
theorem hZ:e8 ["cell"] ["cell"] (d8 Q2):=by walk_at "sc"
theorem Ck:e8 ["script","cell","pool","bench","at","more","handed"] ["script"] (d8 uD):=by walk_at "sc"
structure Txt(K:JB)(mg:Str→Option Value):Prop where
 b_abs:mg "abs" = none
 b_bool:mg "bool" = none
 b_enumerate:mg "enumerate" = none
 b_int:mg "int" = none
 b_isinstance:mg "isinstance" = none
 b_len:mg "len" = none
 b_list:mg "list" = none
 b_max:mg "max" = none
 b_range:mg "range" = none
 b_sum:mg "sum" = none
 b_tuple:mg "tuple" = none
 b_zip:mg "zip" = none
 sub:wW K
 c_AXIS_RAY:GlD K mg "AXIS_RAY" (.tup [(.tup [(.int 0),(.int 1)]),(.tup [(.int 1),(.int 1)])])
 c_HALF:GlD K mg "HALF" (.tup [(.int 1),(.int 2)])
 c_LEVEL_RAY:GlD K mg "LEVEL_RAY" (.tup [(.tup [(.int 1),(.int 1)]),(.tup [(.int 0),(.int 1)])])
 c_NOUGHT:GlD K mg "NOUGHT" (.tup [(.int 0),(.int 1)])
section
variable {P:Program} {w:World} {K:JB} {mg:Str→Option Value} {base:Heap}
theorem ff(T:Txt K mg)(d:Df K mg "_law_under" N4 ["one","other"]):Fn P w K mg base "_law_under" 1 ["one","other"] mT:=by
 have sc:=eZ
 walk_at "fn"
 obtain⟨q,r,rfl,hz,k⟩:=h
 refine⟨_,(d6 (d9 (jm lj (f6 o8 (jx (a9 0) d4) (jx (a9 1) d4)) (f6 o8 (jx (a9 1) d4) (jx (a9 0) d4))))),?_⟩
 walk_at "sim"
 have e:decide (q.num*(r.den:Int)<r.num*(q.den:Int))=decide (q<r):=decide_eq_decide.mpr (Ov q r).symm
 rw[e]
 exact⟨bND hz,bND (by omega),k⟩
theorem mY(T:Txt K mg)(d:Df K mg "divisor" aP ["one","other"]):Fn P w K mg base "divisor" 1 ["one","other"] L5:=by
 have sc:=mI
 refine i4 d sc (fun ds M R Y h=>?_) (fun f cdv A outer s H E ds M R Y hr h=>?_)
 ·obtain⟨a,b,rfl,_⟩:=h;rfl
 ·obtain⟨a,b,rfl,k⟩:=h
  refine⟨_,(d5 (aY PassesOwn.never (jtm Fy (a9 1) d4) (d6 (cC (i:=0) (j:=1) rfl sc.nd rfl rfl (by decide) rfl rfl (a8 (a9 1) (a8 (f6 bG (a9 0) (a9 1)) d3))))) (d6 (d9 (a9 0)))),?_⟩
  refine⟨fun m e M'=>M'=M∧∃ u:Nat,e=[some (.int (u:Int)),some (.int (m:Int))]∧Ll u m=Ll a b,⟨b,rfl,a,rfl,rfl⟩,?_⟩
  rintro v e M' ⟨rfl,u,rfl,hg⟩
  refine⟨_,rfl,_,rfl,_,rfl,?_⟩
  refine FI (fun h0=>?_) (fun h0=>?_)
  ·have hv:0<v:=by omega
   refine⟨_,rfl,_,rfl,_,rfl,_,_,rfl,rfl,by omega,_,_,rfl,?_⟩
   exact⟨u % v,Lu _ hv,rfl,v,rfl,by rw[← RM.lH u v (by omega)];exact hg⟩
  ·have hv:v=0:=by omega
   subst hv
   rw[Nat.gcd_zero_right]at hg
   subst hg
   exact⟨_,rfl,k⟩
theorem kW(T:Txt K mg)(d:Df K mg "is_whole" W8 ["thing"]):Fn P w K mg base "is_whole" 1 ["thing"] pA:=by
 have sc:=kD
 refine i4 d sc (fun ds M R Y h=>?_) (fun f cdv A outer s H E ds M R Y hr h=>?_)
 ·obtain⟨n,rfl,_⟩:=h;rfl
 ·obtain⟨n,rfl,k⟩:=h
  refine⟨_,(d6 (d9 (qj (v7 (BI T.sub) rfl T.b_isinstance V3 (a8 (a9 0) (a8 (Be rfl T.b_int DR) d3))) (qh (qi (v7 (BI T.sub) rfl T.b_isinstance V3 (a8 (a9 0) (a8 (Be rfl T.b_bool zV) d3)))))))),?_⟩
  refine⟨_,rfl,_,_,_,_,rfl,rfl,rfl,_,rfl,?_⟩
  refine Hf ?_
  exact⟨_,rfl,_,_,_,_,rfl,rfl,rfl,_,rfl,k⟩
theorem vw(T:Txt K mg)(d:Df K mg "ratio" ik ["top","bottom"])(hsee:wY P base)(HC:Fn P w K mg base "divisor" 1 ["one","other"] L5)(HW:Fn P w K mg base "is_whole" 1 ["thing"] pA):Fn P w K mg base "ratio" 40 ["top","bottom"] O8:=by
 have sc:=uz
 walk_at "fn"
 obtain⟨a,b,rfl,hb,k⟩:=h
 refine⟨_,(d5 (j0 (ay (eF (nq (E9 (jc HW hr (a8 (a9 0) d3)))) (eF (nq (E9 (jc HW hr (a8 (a9 1) d3)))) (aZ (jtm pV (a9 1) d4))))) (d6 rL) g9) (d5 (jst 2 sc.nd (jc HC hr (a8 (v7 bK rfl T.b_abs S2 (a8 (a9 0) d3)) (a8 (v7 bK rfl T.b_abs S2 (a8 (a9 1) d3)) d3)))) (d5 (j0 (jtm lj (a9 1) d4) (d6 (jst 2 sc.nd (ba (a9 2)))) g9) (d6 (d9 (j5 (a8 (f6 (cz (ldv hsee hr sc)) (a9 0) (a9 2)) (a8 (f6 (cz (ldv hsee hr sc)) (a9 1) (a9 2)) d3)))))))),?_⟩
 walk_at "sim"
 have hn:=vX (a:=a) hb
 refine⟨_,rfl,true,rfl,fun z=>absurd z (by decide),fun _=>⟨_,rfl,true,rfl,fun z=>absurd z (by decide),fun _=>⟨fun z=>absurd z hb,fun _=>⟨fun h1=>⟨?_,?_,?_⟩,fun h1=>⟨hn,hn,?_⟩⟩⟩⟩⟩
 ·show -((Ll a.natAbs b.natAbs:Nat):Int)≠0;omega
 ·show -((Ll a.natAbs b.natAbs:Nat):Int)≠0;omega
 ·exact jf hb (by rw[if_pos h1]) k
 ·exact jf hb (by rw[if_neg h1]) k
theorem vt(T:Txt K mg)(d:Df K mg "times" ij ["one","other"])(Hz:Fn P w K mg base "ratio" 40 ["top","bottom"] O8):Fn P w K mg base "times" 41 ["one","other"] B3:=by
 have sc:=uy
 walk_at "fn"
 obtain⟨q,r,rfl,hz,k⟩:=h
 refine⟨_,(d6 (d9 (jc Hz hr (a8 (f6 o8 (jx (a9 0) d4) (jx (a9 1) d4)) (a8 (f6 o8 (jx (a9 0) d4) (jx (a9 1) d4)) d3))))),?_⟩
 walk_at "sim"
 rw[RM.ni]at k
 exact⟨bNN hz,bDD hz,Le (RM.y9 q) (RM.y9 r),k⟩
theorem bN(T:Txt K mg)(d:Df K mg "tops_over" K0 ["ratios","bottom"]):Fn P w K mg base "tops_over" 1 ["ratios","bottom"] uF:=by
 have sc:=Z1
 walk_at "fn"
 obtain⟨qs,c,rfl,⟨⟨hl,hz⟩,rfl⟩,k⟩:=h
 refine⟨_,(d6 (d9 (J5 [1] ["one"] ["bottom"] rfl (by decide +kernel) rfl (by decide +kernel) (by decide +kernel) rfl (fq ⟨rfl,rfl⟩) (fq (Or.inl rfl)) (t5 (a9 0)) (fun _ _ _ _ _ _=>(jn 0 (show(["one","bottom"]:List Str).Nodup by decide +kernel))) (fun _ _ _ _ _ _=>v6) (fun _ _ _ _ _ _=>(f6 o8 (jx (a9 0) d4) (f6 aV (a9 1) (jx (a9 0) d4))))))),?_⟩
 walk_at "sim"
 rw[Lf]at k
 refine A3 (xs:=qs) (enc:=d7) (fun q=>.int (q.num*((lcL qs / q.den:Nat):Int))) (by omega) (by show p7 M (.vl _) _;rw[h9]) (fun q hq Q hQ=>?_) k
 have hqs:=hz q hq
 have d0:=q.den_pos
 have hd:q.den<2 ^ 5000:=B5 q hqs
 have hb:lcL qs<2 ^ 400000:=by
  have:=vM qs 1 1 hz (by decide)
  exact JN this (Kw (by decide) (by omega))
 have ef:((lcL qs:Nat):Int).fdiv (q.den:Int)=((lcL qs / q.den:Nat):Int):=by rw[cF (by omega) (by omega)];rfl
 walk_at "sim"
 rw[ef]
 exact⟨⟨by omega,JN (X5 (by rw[JU];exact hd) (by decide)) (by decide)⟩,vG 5000 400000 (G3 q hqs) (by rw[JU];exact Kz (Lr _ _) hb) (by decide),hQ⟩
theorem U8(T:Txt K mg)(d:Df K mg "common_bottom" C4 ["ratios"])(HC:Fn P w K mg base "divisor" 1 ["one","other"] L5):Fn P w K mg base "common_bottom" 2 ["ratios"] Cp:=by
 have sc:=L6
 walk_at "fn"
 obtain⟨qs,rfl,⟨hl,hz⟩,k⟩:=h
 refine⟨_,(d5 (jst 1 sc.nd d4) (d5 (u9 PassesOwn.never rfl (t5 (a9 0)) (jn 2 sc.nd) (d6 (jst 1 sc.nd (f6 o8 (f6 aV (a9 1) (jc HC hr (a8 (a9 1) (a8 (jx (a9 2) d4) d3)))) (jx (a9 2) d4))))) (d6 (d9 (a9 1))))),?_⟩
 walk_at "sim"
 refine U9.by (fun i e M'=>M'=M∧∃ z:Option D,e=[some (.vl (qs.map d7)),some (.int ((lcL (qs.take i):Nat):Int)),z]) ⟨rfl,_,rfl⟩ (fun i e M' _ h=>by rw[h.1,h9]) ?_ ?_
 ·rintro i dd e M' hd ⟨rfl,z,rfl⟩
  rw[Ki]at hd
  cases hq:qs[i]? with
  | none=>rw[hq]at hd;cases hd
  | some q =>
   rw[hq]at hd
   obtain rfl:=Option.some.inj hd
   have e1:lcL (qs.take (i+1))=B9 (lcL (qs.take i)) q.den:=by
    unfold lcL
    rw[Ln,hq,KR];rfl
   have hqs:=hz q (Kd hq)
   have hc:=qf (qs.take i)
   have hd:q.den<2 ^ 5000:=B5 q hqs
   have hb:lcL (qs.take i)<2 ^ 400000:=by
    have:=vM (qs.take i) 1 1 (fun x hx=>hz x (Kx hx)) (by decide)
    refine JN this (Kw (by decide) ?_)
    have:(qs.take i).length≤60:=by rw[JX];omega
    omega
   rw[e1]
   generalize lcL (qs.take i)=c at *
   have g0:0<Ll c q.den:=LN _ q.den_pos
   have g1:Ll c q.den<2 ^ 5000:=Kz (Nat.le_of_dvd q.den_pos (NO _ _)) hd
   have ef:(c:Int).fdiv (Ll c q.den:Nat)=((c / Ll c q.den:Nat):Int):=by rw[cF (by omega) (by omega)];rfl
   walk_at "sim"
   rw[ef]
   refine⟨⟨by omega,JN (X5 (by rw[JU];exact g1) (by decide)) (by decide)⟩,?_,some (d7 q),?_⟩
   ·exact vG 400000 5000 (by rw[JU];exact Kz (Lr _ _) hb) (by rw[JU];exact hd) (by decide)
   ·unfold B9
    rw[My]
 ·rintro e M' ⟨rfl,z,rfl⟩
  walk_at "sim"
  rw[JD,La]
  exact k
theorem vq(T:Txt K mg)(d:Df K mg "total" ig ["ratios"])(Hz:Fn P w K mg base "ratio" 40 ["top","bottom"] O8)(HN:Fn P w K mg base "tops_over" 1 ["ratios","bottom"] uF)(HD:Fn P w K mg base "common_bottom" 2 ["ratios"] Cp):Fn P w K mg base "total" 41 ["ratios"] ix:=by
 have sc:=ux
 walk_at "fn"
 obtain⟨qs,rfl,⟨hl,hz⟩,k⟩:=h
 refine⟨_,(d5 (jst 1 sc.nd (jc HD hr (a8 (a9 0) d3))) (d6 (d9 (jc Hz hr (a8 (v7 (Gu rfl) rfl T.b_sum DQ (a8 (jc HN hr (a8 (a9 0) (a8 (a9 1) d3))) d3)) (a8 (a9 1) d3)))))),?_⟩
 walk_at "sim"
 have hp:=qf qs
 exact⟨⟨hl,hz⟩,⟨hl,hz⟩,by omega,by rw[um qs (lcL qs) hp fun q hq=>zp hq];exact k⟩
theorem zh(T:Txt K mg)(d:Df K mg "plus" mN ["one","other"])(Hz:Fn P w K mg base "ratio" 40 ["top","bottom"] O8):Fn P w K mg base "plus" 41 ["one","other"] aN:=by
 have sc:=yr
 walk_at "fn"
 obtain⟨q,r,rfl,hz,k⟩:=h
 refine⟨_,(d6 (d9 (jc Hz hr (a8 (f6 R3 (f6 o8 (jx (a9 0) d4) (jx (a9 1) d4)) (f6 o8 (jx (a9 1) d4) (jx (a9 0) d4))) (a8 (f6 o8 (jx (a9 0) d4) (jx (a9 1) d4)) d3))))),?_⟩
 walk_at "sim"
 rw[RM.jG]at k
 exact⟨mND hz,mND (by omega),mDD hz,Le (RM.y9 q) (RM.y9 r),k⟩
theorem kT(T:Txt K mg)(d:Df K mg "opposite" W6 ["one"]):Fn P w K mg base "opposite" 1 ["one"] kr:=by
 have sc:=kB
 refine i4 d sc (fun ds M R Y h=>?_) (fun f cdv A outer s H E ds M R Y hr h=>?_)
 ·obtain⟨q,rfl,_⟩:=h;rfl
 ·obtain⟨q,rfl,k⟩:=h
  refine⟨_,(d6 (d9 (j5 (a8 (ba (jx (a9 0) d4)) (a8 (jx (a9 0) d4) d3))))),?_⟩
  refine⟨_,rfl,_,rfl,_,rfl,_,rfl,_,rfl,sl 2,?_⟩
  have e:d7 (-q) = .tup [.int (-q.num),.int (q.den:Int)]:=by unfold d7;rw[MI,MJ]
  rw[e]at k
  exact k
theorem vx(T:Txt K mg)(d:Df K mg "minus" ip ["one","other"])(HK:Fn P w K mg base "plus" 41 ["one","other"] aN)(Hy:Fn P w K mg base "opposite" 1 ["one"] kr):Fn P w K mg base "minus" 42 ["one","other"] Y9:=by
 have sc:=uA
 walk_at "fn"
 obtain⟨q,r,rfl,hz,k⟩:=h
 refine⟨_,(d6 (d9 (jc HK hr (a8 (a9 0) (a8 (jc Hy hr (a8 (a9 1) d3)) d3))))),?_⟩
 walk_at "sim"
 exact⟨by rw[RM.D9];exact hz,by rw[← MA];exact k⟩
theorem vz(T:Txt K mg)(d:Df K mg "cross" iu ["one","other"])(HM:Fn P w K mg base "minus" 42 ["one","other"] Y9)(Hx:Fn P w K mg base "times" 41 ["one","other"] B3):Fn P w K mg base "cross" 43 ["one","other"] cq:=by
 have sc:=uC
 walk_at "fn"
 obtain⟨y,u,z,w,rfl,⟨h1,h2,h3,h4⟩,k⟩:=h
 refine⟨_,(d5 (A7 (a9 0) (p8 (n:=2) rfl (e6 (jn 2 sc.nd) (e6 (jn 3 sc.nd) m9)))) (d5 (A7 (a9 1) (p8 (n:=2) rfl (e6 (jn 4 sc.nd) (e6 (jn 5 sc.nd) m9)))) (d6 (d9 (jc HM hr (a8 (jc Hx hr (a8 (a9 2) (a8 (a9 5) d3))) (a8 (jc Hx hr (a8 (a9 4) (a8 (a9 3) d3))) d3))))))),?_⟩
 walk_at "sim"
 have c1:=RM.F7 y w
 have c2:=RM.F7 z u
 exact⟨by omega,by omega,by omega,k⟩
theorem zk(T:Txt K mg)(d:Df K mg "area" iw ["rays"])(Hx:Fn P w K mg base "times" 41 ["one","other"] B3)(Im:Fn P w K mg base "total" 41 ["ratios"] ix)(Io:Fn P w K mg base "cross" 43 ["one","other"] cq):Fn P w K mg base "area" 44 ["rays"] uL:=by
 have sc:=pF
 walk_at "fn"
 obtain⟨cs,rfl,⟨hl,h2,hz⟩,k⟩:=h
 refine⟨_,(d5 (D5 (i:=1) [] ["one","other"] [] sc.nd rfl (Or.inl rfl) rfl (by decide +kernel) rfl (by decide +kernel) (by decide +kernel) rfl Y3 Y3 (cB rfl T.b_zip (a8 (a9 0) (a8 (G4 (t9 (a9 0) (t7 d4) t8) (t9 (a9 0) t8 (t7 d4))) d3))) (fun _ _ _ _ _ _=>(p8 (n:=2) rfl (e6 (jn 0 (show(["one","other"]:List Str).Nodup by decide +kernel)) (e6 (jn 1 (show(["one","other"]:List Str).Nodup by decide +kernel)) m9)))) (fun _ _ _ _ _ _=>v6) (fun _ _ _ _ _ _=>(jc Io hr (a8 (a9 0) (a8 (a9 1) d3))))) (d6 (d9 (jc Hx hr (a8 (jc Im hr (a8 (a9 1) d3)) (a8 (R5 rfl T.c_HALF) d3)))))),?_⟩
 walk_at "sim"
 rw[cG,cI]
 refine⟨?_,?_⟩
 ·have e:=congrArg LL (cG (cs:=cs))
  rw[JQ,JD,ak (by omega)]at e
  rw[e]
  exact JR (show cs.length≤1000 by omega) (by decide)
 refine A3 (xs:=cs.zip (cs.drop 1++cs.take 1)) (enc:=fun p=>D.tup [rD p.1,rD p.2]) (fun p=>d7 (p.1.1*p.2.2 - p.2.1*p.1.2)) ?_ (by simp only[h9,u0,and_self]) (fun p hp Q hQ=>?_) ?_
 ·rw[KO];omega
 ·have m1:=Lq hp
  have m2:p.2∈cs:=by
   rcases Kf.mp m1.2 with h|h
   ·exact Lj h
   ·exact Kx h
  have a:=hz _ m1.1
  have b:=hz _ m2
  walk_at "sim"
  exact⟨_,_,_,_,rfl,⟨a.1,a.2,b.1,b.2⟩,hQ⟩
 ·have er:(cs.zip (cs.drop 1++cs.take 1)).map (fun p=>d7 (p.1.1*p.2.2 - p.2.1*p.1.2))=(eM cs).map d7:=by unfold eM;rw[Lf];rfl
  rw[er,jl]
  walk_at "sim"
  have hc:=aE (cs:=cs) (by omega)
  have hs:=nF hz
  have ss:=mC _ hs
  have h3:=U0
  refine⟨⟨by omega,hs⟩,?_⟩
  walk_at "sim"
  rw[nG (by omega)]at ss ⊢
  exact⟨by omega,k⟩
theorem zj(T:Txt K mg)(d:Df K mg "less" mP ["one","other"]):Fn P w K mg base "less" 1 ["one","other"] du:=by
 have sc:=yu
 refine i4 d sc (fun ds M R Y h=>?_) (fun f cdv A outer s H E ds M R Y hr h=>?_)
 ·obtain⟨q,r,rfl,_⟩:=h;rfl
 ·obtain⟨q,r,rfl,hz,k⟩:=h
  refine⟨_,(d6 (d9 (jm lj (f6 o8 (jx (a9 0) d4) (jx (a9 1) d4)) (f6 o8 (jx (a9 1) d4) (jx (a9 0) d4))))),?_⟩
  refine⟨_,rfl,_,rfl,_,rfl,_,rfl,_,_,rfl,rfl,mND hz,_,rfl,_,rfl,_,rfl,_,rfl,_,_,rfl,rfl,mND (by omega),_,rfl,?_⟩
  rw[← RM.FF]at k
  exact k
theorem kX(T:Txt K mg)(d:Df K mg "is_lower" W9 ["one","other"])(HG:Fn P w K mg base "less" 1 ["one","other"] du):Fn P w K mg base "is_lower" 2 ["one","other"] mS:=by
 have sc:=kF
 walk_at "fn"
 obtain⟨a,b,rfl,⟨ha,hb⟩,k⟩:=h
 refine⟨_,(d5 (j0 (jtm (lh hu) (jx (a9 0) d4) (jx (a9 1) d4)) (d6 (d9 (jc HG hr (a8 (jx (a9 0) d4) (a8 (jx (a9 1) d4) d3))))) g9) (d6 (d9 (jc HG hr (a8 (jx (a9 0) d4) (a8 (jx (a9 1) d4) d3)))))),?_⟩
 walk_at "sim"
 unfold G0 at k
 obtain⟨a1,a2⟩:=ha
 obtain⟨b1,b2⟩:=hb
 refine⟨fun z=>⟨by omega,?_⟩,fun z=>⟨by omega,?_⟩⟩
 ·rw[if_neg z]at k;exact k
 ·rw[if_pos z]at k;exact k
theorem dY(T:Txt K mg)(d:Df K mg "from_lowest" L1 ["rays"])(Ip:Fn P w K mg base "is_lower" 2 ["one","other"] mS):Fn P w K mg base "from_lowest" 3 ["rays"] mU:=by
 have sc:=dD
 walk_at "fn"
 obtain⟨rs,rfl,⟨hne,hl,hz⟩,k⟩:=h
 refine⟨_,(d5 (jst 1 sc.nd d4) (d5 (u9 PassesOwn.never rfl (lC rfl T.b_enumerate (a8 (a9 0) d3)) (p8 (n:=2) rfl (e6 (jn 2 sc.nd) (e6 (jn 3 sc.nd) m9))) (d6 (j0 (E9 (jc Ip hr (a8 (a9 3) (a8 (jx (a9 0) (a9 1)) d3)))) (d6 (jst 1 sc.nd (a9 2))) g9))) (d6 (d9 (G4 (t9 (a9 0) (t7 (a9 1)) t8) (t9 (a9 0) t8 (t7 (a9 1)))))))),?_⟩
 walk_at "sim"
 refine U9.by (fun i e M'=>M'=M∧∃ z2 z3:Option D,e=[some (.vl (rs.map rD)),some (.int ((F1 rs i:Nat):Int)),z2,z3]) ⟨rfl,_,_,rfl⟩ (fun i e M' _ _=>by simp only[h9]) ?_ ?_
 ·rintro i dd e M' hd ⟨rfl,z2,z3,rfl⟩
  obtain⟨d,hd2,rfl⟩:=lJ hd
  rw[Ki]at hd2
  cases hq:rs[i]? with
  | none=>rw[hq]at hd2;cases hd2
  | some c =>
   rw[hq]at hd2
   obtain rfl:=Option.some.inj hd2
   have hi:=(JV.mp hq).1
   have hp:=dS hne i (by omega)
   have e1:rs[F1 rs i]? = some (rs.getD (F1 rs i) (0,0)):=by rw[Kg hp];simp[hp]
   have e2:rs.getD i (0,0)=c:=by simp[hq]
   have ex:atI (rs.map rD) ((F1 rs i:Nat):Int)=some (rD (rs.getD (F1 rs i) (0,0))):=p9 (by rw[Ki,e1];rfl)
   walk_at "sim"
   refine⟨_,ex,?_⟩
   walk_at "sim"
   have es:F1 rs (i+1)=if G0 c (rs.getD (F1 rs i) (0,0))=true then i else F1 rs i:=by
    show(if G0 (rs.getD i (0,0)) _=true then _ else _)=_
    rw[e2]
   rw[es]
   refine⟨⟨hz c (Kd hq),hz _ (Kd e1)⟩,fun z=>⟨some (.int (i:Int)),some (rD c),?_⟩,fun z=>⟨some (.int (i:Int)),some (rD c),?_⟩⟩
   ·rw[if_pos z]
   ·rw[if_neg (by rw[z];decide)]
 ·rintro e M' ⟨rfl,z2,z3,rfl⟩
  rw[G6,JD]
  walk_at "sim"
  rw[cH,bh]
  refine⟨?_,?_⟩
  ·have h1:((rs.map rD).drop (F1 rs rs.length)).length≤rs.length:=by rw[Kr,JD];omega
   have h2:((rs.map rD).take (F1 rs rs.length)).length≤rs.length:=by rw[JX,JD];omega
   exact JR (Nat.add_le_add h1 h2) (JR (by omega:rs.length+rs.length≤1000) (by decide))
  ·rw[← Ml,← MN,← Kp]
   exact k
theorem rB(T:Txt K mg)(d:Df K mg "facing" dI ["side"]):Fn P w K mg base "facing" 1 ["side"] yv:=by
 have sc:=qW
 walk_at "fn"
 obtain⟨a,rfl,k⟩:=h
 unfold sdD
 refine⟨_,(d5 (A7 (a9 0) (p8 (n:=5) rfl (e6 (jn 1 sc.nd) (e6 (jn 2 sc.nd) (e6 (jn 3 sc.nd) (e6 (jn 4 sc.nd) (e6 (jn 5 sc.nd) m9))))))) (d6 (d9 (j5 (a8 (ba (a9 1)) (a8 (ba (a9 2)) (a8 (a9 3) (a8 (a9 4) (a8 (ba (a9 5)) d3))))))))),?_⟩
 walk_at "sim"
 exact k
theorem yZ(T:Txt K mg)(d:Df K mg "veer" mL ["one","other"]):Fn P w K mg base "veer" 1 ["one","other"] gi:=by
 have sc:=yp
 walk_at "fn"
 obtain⟨a,b,rfl,⟨ha,hb⟩,k⟩:=h
 unfold sdD
 refine⟨_,(d6 (d9 (f6 L8 (f6 o8 (jx (a9 0) d4) (jx (a9 1) d4)) (f6 o8 (jx (a9 0) d4) (jx (a9 1) d4))))),?_⟩
 walk_at "sim"
 exact⟨D8 _ _ ha.p hb.q (by decide),D8 _ _ ha.q hb.p (by decide),k⟩
theorem rz(T:Txt K mg)(d:Df K mg "met_at" dH ["one","other"])(Hz:Fn P w K mg base "ratio" 40 ["top","bottom"] O8)(HE:Fn P w K mg base "veer" 1 ["one","other"] gi):Fn P w K mg base "met_at" 41 ["one","other"] Cn:=by
 have sc:=qV
 walk_at "fn"
 obtain⟨a,b,rfl,⟨ha,hb,hv⟩,k⟩:=h
 refine⟨_,(d5 (jst 2 sc.nd (jc HE hr (a8 (a9 0) (a8 (a9 1) d3)))) (d5 (jst 3 sc.nd (jc Hz hr (a8 (f6 L8 (f6 o8 (jx (a9 0) d4) (jx (a9 1) d4)) (f6 o8 (jx (a9 1) d4) (jx (a9 0) d4))) (a8 (a9 2) d3)))) (d5 (jst 4 sc.nd (jc Hz hr (a8 (f6 L8 (f6 o8 (jx (a9 0) d4) (jx (a9 1) d4)) (f6 o8 (jx (a9 1) d4) (jx (a9 0) d4))) (a8 (a9 2) d3)))) (d6 (d9 (j5 (a8 (a9 3) (a8 (a9 4) d3)))))))),?_⟩
 walk_at "sim"
 refine⟨⟨ha,hb⟩,D8 _ _ ha.r hb.q (by decide),D8 _ _ hb.r ha.q (by decide),hv,D8 _ _ ha.p hb.r (by decide),D8 _ _ hb.p ha.r (by decide),hv,?_⟩
 rw[← uM]at k
 exact k
theorem ze(T:Txt K mg)(d:Df K mg "turn" mM ["one","other","third"])(HE:Fn P w K mg base "veer" 1 ["one","other"] gi):Fn P w K mg base "turn" 2 ["one","other","third"] uE:=by
 have sc:=yq
 walk_at "fn"
 obtain⟨a,b,c,rfl,⟨ha,hb,hc⟩,k⟩:=h
 refine⟨_,(d6 (d9 (f6 R3 (f6 L8 (f6 o8 (jx (a9 0) d4) (jc HE hr (a8 (a9 1) (a8 (a9 2) d3)))) (f6 o8 (jx (a9 1) d4) (jc HE hr (a8 (a9 0) (a8 (a9 2) d3))))) (f6 o8 (jx (a9 2) d4) (jc HE hr (a8 (a9 0) (a8 (a9 1) d3))))))),?_⟩
 walk_at "sim"
 have v1:=ha.ve hb
 have v2:=ha.ve hc
 have v3:=hb.ve hc
 exact⟨⟨hb,hc⟩,D8 _ _ ha.r v3 (by decide),⟨ha,hc⟩,D8 _ _ hb.r v2 (by decide),⟨ha,hb⟩,D8 _ _ hc.r v1 (by decide),k⟩
theorem iV(T:Txt K mg)(d:Df K mg "next_side" P9 ["sides","here"])(HE:Fn P w K mg base "veer" 1 ["one","other"] gi)(IY:Fn P w K mg base "turn" 2 ["one","other","third"] uE):Fn P w K mg base "next_side" 3 ["sides","here"] Cm:=by
 have sc:=gY
 walk_at "fn"
 obtain⟨ss,g,rfl,⟨hg,hz⟩,k⟩:=h
 refine⟨_,(d5 (jst 2 sc.nd A5) (d5 (u9 PassesOwn.never rfl (t5 (a9 0)) (jn 3 sc.nd) (d6 (j0 (jtm rF (jc HE hr (a8 (a9 1) (a8 (a9 3) d3))) d4) (d5 (jst 4 sc.nd (vQ (jtm rE (a9 2) A5) (ba d4) (jc IY hr (a8 (a9 1) (a8 (a9 2) (a8 (a9 3) d3)))))) (d6 (j0 (ay (eF (jtm lj (a9 4) d4) (aZ (ay (nu (jtm pV (a9 4) d4) (ji (jtm rF (jc HE hr (a8 (a9 2) (a8 (a9 3) d3))) d4))))))) (d6 (jst 2 sc.nd (a9 3))) g9))) g9))) (d6 (d9 (a9 2))))),?_⟩
 walk_at "sim"
 refine U9.by (fun i e M'=>M'=M∧(∀ f,(ss.take i).foldl (O1 g) none=some f→SzS f)∧∃ z3 z4:Option D,e=[some (.vl (ss.map sdD)),some (sdD g),some (kQ ((ss.take i).foldl (O1 g) none)),z3,z4]) ⟨rfl,fun f z=>(by cases z),_,_,rfl⟩ (fun i e M' _ h=>by rw[h.1];simp only[h9]) ?_ ?_
 ·rintro i dd e M' hd ⟨rfl,hf,z3,z4,rfl⟩
  rw[Ki]at hd
  cases hq:ss[i]? with
  | none=>rw[hq]at hd;cases hd
  | some t =>
   rw[hq]at hd
   obtain rfl:=Option.some.inj hd
   have ht:=hz t (Kd hq)
   have e1:(ss.take (i+1)).foldl (O1 g) none=O1 g ((ss.take i).foldl (O1 g) none) t:=by
    rw[Ln,hq,KR];rfl
   rw[e1]
   generalize (ss.take i).foldl (O1 g) none=f at *
   walk_at "sim"
   refine⟨⟨hg,ht⟩,fun z=>?_,fun z=>?_⟩
   ·cases f with
    | none =>
     have en:O1 g none t=some t:=by unfold O1;rw[if_pos z];rfl
     rw[en,show kQ none=D.non from rfl,dh (b:=true) rfl]
     walk_at "sim"
     refine⟨fun f' hf'=>by cases hf';exact ht,_,_,rfl⟩
    | some f =>
     have hff:=hf f rfl
     rw[show kQ (some f)=sdD f from rfl,dh (b:=false) rfl]
     walk_at "sim"
     refine⟨⟨hg,hff,ht⟩,?_⟩
     have en:∀ b:Bool,zW g (some f) t=b→O1 g (some f) t=if b=true then some t else some f:=fun b hb=>by unfold O1;rw[if_pos z,hb]
     have done:∀ b:Bool,zW g (some f) t=b→(∀ f',O1 g (some f) t=some f'→SzS f')∧kQ (O1 g (some f) t)=if b=true then sdD t else sdD f:=fun b hb=>by
      rw[en b hb]
      cases b with
      | true=>exact⟨fun f' h=>by cases h;exact ht,rfl⟩
      | false=>exact⟨fun f' h=>by cases h;exact hff,rfl⟩
     refine⟨fun z1=>?_,fun z1=>⟨fun z2=>⟨⟨hff,ht⟩,fun z3=>?_,fun z3=>?_⟩,fun z2=>?_⟩⟩
     ·obtain⟨q1,q2⟩:=done true (by show(decide _ || _)=true;rw[decide_eq_true z1];rfl)
      exact⟨q1,some (sdD t),some (.int (tnZ g f t)),by rw[q2];rfl⟩
     ·obtain⟨q1,q2⟩:=done true (by show(decide _ || (decide _ && decide _))=true;rw[decide_eq_true z2,decide_eq_true z3,Bool.or_eq_true];exact .inr rfl)
      exact⟨q1,some (sdD t),some (.int (tnZ g f t)),by rw[q2];rfl⟩
     ·obtain⟨q1,q2⟩:=done false (by show(decide _ || (decide _ && decide _))=false;rw[decide_eq_false z1,decide_eq_false z3,Bool.and_false];rfl)
      exact⟨q1,some (sdD t),some (.int (tnZ g f t)),by rw[q2];rfl⟩
     ·obtain⟨q1,q2⟩:=done false (by show(decide _ || (decide _ && decide _))=false;rw[decide_eq_false z1,decide_eq_false z2];rfl)
      exact⟨q1,some (sdD t),some (.int (tnZ g f t)),by rw[q2];rfl⟩
   ·have en:O1 g f t=f:=by unfold O1;rw[if_neg z]
    rw[en]
    exact⟨hf,_,_,rfl⟩
 ·rintro e M' ⟨rfl,hf,z3,z4,rfl⟩
  walk_at "sim"
  rw[JD,La]
  exact k
theorem iW(T:Txt K mg)(d:Df K mg "juts_more" Q0 ["one","other"]):Fn P w K mg base "juts_more" 1 ["one","other"] uI:=by
 have sc:=gZ
 walk_at "fn"
 obtain⟨a,b,rfl,⟨ha,hb⟩,k⟩:=h
 refine⟨_,(d5 (jst 2 sc.nd (f6 L8 (f6 o8 (jx (a9 0) d4) (jx (a9 1) d4)) (f6 o8 (jx (a9 1) d4) (jx (a9 0) d4)))) (d5 (j0 (jtm pV (a9 2) d4) (d6 (jst 2 sc.nd (f6 L8 (f6 o8 (jx (a9 0) d4) (jx (a9 1) d4)) (f6 o8 (jx (a9 1) d4) (jx (a9 0) d4))))) g9) (d6 (d9 (jm rF (a9 2) d4))))),?_⟩
 walk_at "sim"
 refine⟨D8 _ _ ha.p hb.r (by decide),D8 _ _ hb.p ha.r (by decide),fun z=>⟨D8 _ _ ha.q hb.r (by decide),D8 _ _ hb.q ha.r (by decide),?_⟩,fun z=>?_⟩
 ·unfold D4 at k
  rw[if_pos z]at k
  exact k
 ·unfold D4 at k
  rw[if_neg z]at k
  exact k
theorem iU(T:Txt K mg)(d:Df K mg "outermost" P8 ["sides"])(Ib:Fn P w K mg base "juts_more" 1 ["one","other"] uI):Fn P w K mg base "outermost" 2 ["sides"] uG:=by
 have sc:=gX
 walk_at "fn"
 obtain⟨ss,rfl,⟨s,r,e⟩,hz,k⟩:=h
 have e0:ss.headD (0,0,0,0,0)=s:=by rw[e];rfl
 rw[e0]at k
 refine⟨_,(d5 (jst 1 sc.nd (jx (a9 0) d4)) (d5 (u9 PassesOwn.never rfl (t5 (a9 0)) (jn 2 sc.nd) (d6 (j0 (E9 (jc Ib hr (a8 (a9 2) (a8 (a9 1) d3)))) (d6 (jst 1 sc.nd (a9 2))) g9))) (d6 (d9 (a9 1))))),?_⟩
 walk_at "sim"
 have ei:atI (ss.map sdD) 0=some (sdD s):=by rw[e];exact p9 (n:=0) rfl
 refine⟨_,ei,?_⟩
 have hs:SzS s:=hz s (by rw[e];exact JH)
 refine U9.by (fun i e M'=>M'=M∧∃ z:Option D,e=[some (.vl (ss.map sdD)),some (sdD (A0 (ss.take i) s)),z]) ⟨rfl,_,rfl⟩ (fun i e M' _ h=>by rw[h.1];simp only[h9]) ?_ ?_
 ·rintro i dd e M' hd ⟨rfl,z,rfl⟩
  rw[Ki]at hd
  cases hq:ss[i]? with
  | none=>rw[hq]at hd;cases hd
  | some t =>
   rw[hq]at hd
   obtain rfl:=Option.some.inj hd
   have ht:=hz t (Kd hq)
   have ho:SzS (A0 (ss.take i) s):=by
    rcases ar (ss.take i) s with h|h
    ·rw[h];exact hs
    ·exact hz _ (Kx h)
   have e1:A0 (ss.take (i+1)) s=if D4 t (A0 (ss.take i) s)=true then t else A0 (ss.take i) s:=by
    unfold A0
    rw[Ln,hq,KR];rfl
   rw[e1]
   walk_at "sim"
   refine⟨⟨ht,ho⟩,fun z=>⟨some (sdD t),?_⟩,fun z=>⟨some (sdD t),?_⟩⟩
   ·rw[if_pos z]
   ·rw[if_neg (by rw[z];decide)]
 ·rintro e M' ⟨rfl,z,rfl⟩
  walk_at "sim"
  rw[JD,La]
  exact k
theorem iQ(T:Txt K mg)(d:Df K mg "tops_over" K0 ["ratios","bottom"]):Fn P w K mg base "tops_over" 1 ["ratios","bottom"] mQ:=by
 have sc:=Z1
 walk_at "fn"
 obtain⟨l,c,rfl,⟨hl,rfl⟩,k⟩:=h
 refine⟨_,(d6 (d9 (J5 [1] ["one"] ["bottom"] rfl (by decide +kernel) rfl (by decide +kernel) (by decide +kernel) rfl (fq ⟨rfl,rfl⟩) (fq (Or.inl rfl)) (t5 (a9 0)) (fun _ _ _ _ _ _=>(jn 0 (show(["one","bottom"]:List Str).Nodup by decide +kernel))) (fun _ _ _ _ _ _=>v6) (fun _ _ _ _ _ _=>(f6 o8 (jx (a9 0) d4) (f6 aV (a9 1) (jx (a9 0) d4))))))),?_⟩
 walk_at "sim"
 refine jJ (ds:=[l.1,l.2.1,l.2.2].map d7) (by show p7 M (.tup _) _;rw[u0];rfl) ?_
 refine A3 (xs:=[l.1,l.2.1,l.2.2]) (enc:=d7) (fun q=>.int (bM q (cbL l))) (by show 3≤1000;decide) (by show p7 M (.tup _) _;rw[u0];rfl) (fun q hq Q hQ=>?_) k
 have hqs:sz q≤1300:=by
  simp only[JJ,Ks,or_false]at hq
  rcases hq with rfl|rfl|rfl
  ·exact hl.p
  ·exact hl.q
  ·exact hl.r
 have d0:=q.den_pos
 have hd:q.den<2 ^ 1300:=B5 q hqs
 have ef:((cbL l:Nat):Int).fdiv (q.den:Int)=((cbL l / q.den:Nat):Int):=by rw[cF (by omega) (by omega)];rfl
 walk_at "sim"
 rw[ef]
 refine⟨⟨by omega,JN (X5 (by rw[JU];exact hd) (by decide)) (by decide)⟩,D8 1300 3901 (G3 q hqs) (by rw[JU];exact Kz (Lr _ _) hl.cb) (by decide),hQ⟩
theorem aU(T:Txt K mg)(d:Df K mg "common_bottom" C4 ["ratios"])(HC:Fn P w K mg base "divisor" 1 ["one","other"] L5):Fn P w K mg base "common_bottom" 2 ["ratios"] Cq:=by
 have sc:=L6
 walk_at "fn"
 obtain⟨l,rfl,hl,k⟩:=h
 refine⟨_,(d5 (jst 1 sc.nd d4) (d5 (u9 PassesOwn.never rfl (t5 (a9 0)) (jn 2 sc.nd) (d6 (jst 1 sc.nd (f6 o8 (f6 aV (a9 1) (jc HC hr (a8 (a9 1) (a8 (jx (a9 2) d4) d3)))) (jx (a9 2) d4))))) (d6 (d9 (a9 1))))),?_⟩
 walk_at "sim"
 refine jJ (ds:=[l.1,l.2.1,l.2.2].map d7) (by show p7 M (.tup _) _;rw[u0];rfl) ?_
 refine U9.by (fun i e M'=>M'=M∧∃ z:Option D,e=[some (g5 l),some (.int ((([l.1,l.2.1,l.2.2].take i).foldl (fun c q=>B9 c q.den) 1:Nat):Int)),z]) ⟨rfl,_,rfl⟩ (fun i e M' _ h=>by rw[h.1];show p7 M (.tup _) _;rw[u0];rfl) ?_ ?_
 ·rintro i dd e M' hd ⟨rfl,z,rfl⟩
  rw[Ki]at hd
  cases hq:[l.1,l.2.1,l.2.2][i]? with
  | none=>rw[hq]at hd;cases hd
  | some q =>
   rw[hq]at hd
   obtain rfl:=Option.some.inj hd
   have e1:([l.1,l.2.1,l.2.2].take (i+1)).foldl (fun c q=>B9 c q.den) 1=B9 (([l.1,l.2.1,l.2.2].take i).foldl (fun c q=>B9 c q.den) 1) q.den:=by
    rw[Ln,hq,KR];rfl
   have hi:=(JV.mp hq).1
   have hqs:sz q≤1300:=by
    have:=Kd hq
    simp only[JJ,Ks,or_false]at this
    rcases this with rfl|rfl|rfl
    ·exact hl.p
    ·exact hl.q
    ·exact hl.r
   have hc:0<([l.1,l.2.1,l.2.2].take i).foldl (fun c q=>B9 c q.den) 1:=by
    have:∀(xs:List Rat) (c:Nat),0<c→0<xs.foldl (fun c q=>B9 c q.den) c:=fun xs=>by
     induction xs with
     | nil=>exact fun c h=>h
     | cons x xs ih=>exact fun c h=>ih _ (by show 0<B9 c x.den;rw[K5];exact Nu h x.den_pos)
    exact this _ _ (by decide)
   have hd:q.den<2 ^ 1300:=B5 q hqs
   rw[e1]
   have hb:([l.1,l.2.1,l.2.2].take i).foldl (fun c q=>B9 c q.den) 1<2 ^ 4000:=by
    have:=jB ([l.1,l.2.1,l.2.2].take i) 1 1 (fun x hx=>hl.all x (Kx hx)) (by decide)
    refine JN this (Kw (by decide) ?_)
    have:([l.1,l.2.1,l.2.2].take i).length≤3:=by rw[JX];exact Mg _ _
    omega
   generalize ([l.1,l.2.1,l.2.2].take i).foldl (fun c q=>B9 c q.den) 1=c at *
   have g0:0<Ll c q.den:=LN _ q.den_pos
   have g1:Ll c q.den<2 ^ 1300:=Kz (Nat.le_of_dvd q.den_pos (NO _ _)) hd
   have ef:(c:Int).fdiv (Ll c q.den:Nat)=((c / Ll c q.den:Nat):Int):=by rw[cF (by omega) (by omega)];rfl
   walk_at "sim"
   rw[ef]
   refine⟨⟨by omega,JN (X5 (by rw[JU];exact g1) (by decide)) (by decide)⟩,?_,some (d7 q),?_⟩
   ·exact D8 4000 1300 (by rw[JU];exact Kz (Lr _ _) hb) (by rw[JU];exact hd) (by decide)
   ·unfold B9
    rw[My]
 ·rintro e M' ⟨rfl,z,rfl⟩
  walk_at "sim"
  exact k
theorem kS(T:Txt K mg)(d:Df K mg "sides_of" W5 ["lines"])(HV:Fn P w K mg base "facing" 1 ["side"] yv)(Ic:Fn P w K mg base "tops_over" 1 ["ratios","bottom"] mQ)(HL:Fn P w K mg base "common_bottom" 2 ["ratios"] Cq):Fn P w K mg base "sides_of" 3 ["lines"] iy:=by
 have sc:=kA
 walk_at "fn"
 obtain⟨x0,ls,rfl,hx0,hok,k⟩:=h
 rcases hx0 with rfl|rfl
 all_goals
  refine⟨_,(d5 (jst 1 sc.nd (eG d3)) (d5 (u9 PassesOwn.never rfl (lC rfl T.b_enumerate (a8 (a9 0) d3)) (p8 (n:=2) rfl (e6 (jn 2 sc.nd) (e6 (jn 3 sc.nd) m9))) (d5 (jst 4 sc.nd (jc HL hr (a8 (a9 3) d3))) (d5 (A7 (jc Ic hr (a8 (a9 3) (a8 (a9 4) d3))) (vO (n:=3) rfl (e6 (jn 5 sc.nd) (e6 (jn 6 sc.nd) (e6 (jn 7 sc.nd) m9))))) (d5 (jst 8 sc.nd (j5 (a8 (a9 5) (a8 (a9 6) (a8 (a9 7) (a8 (a9 2) (a8 (a9 4) d3))))))) (d5 (R4 (lD PySem.F.slot_list_append PySem.F.type_list_append M9 (a9 1) (a8 (a9 8) d3))) (d6 (R4 (lD PySem.F.slot_list_append PySem.F.type_list_append M9 (a9 1) (a8 (jc HV hr (a8 (a9 8) d3)) d3))))))))) (d6 (d9 (bb (nt (a9 1))))))),?_⟩
  walk_at "sim"
  intro p hp
  refine U9.by (fun i e M'=>M'=B8 M p (.lst ((N3 0 (ls.take i)).map sdD))∧∃ z0 z2 z3 z4 z5 z6 z7 z8:Option D,e=[z0,some (.ref p),z2,z3,z4,z5,z6,z7,z8]) ⟨rfl,_,_,_,_,_,_,_,_,rfl⟩ (fun i e M' _ _=>by simp only[h9,u0]) ?_ ?_
  ·rintro i dd e M' hd ⟨rfl,z0,z2,z3,z4,z5,z6,z7,z8,rfl⟩
   obtain⟨d,hd2,rfl⟩:=lJ hd
   obtain⟨l,hl,rfl⟩:=gr hd2
   have hm:=hok.2 l (Kd hl)
   have h12:=hok.1
   have hi:=(JV.mp hl).1
   walk_at "sim"
   refine⟨hm,hm,?_⟩
   have es:D.tup [.int (f7 l 0).1,.int (f7 l 0).2.1,.int (f7 l 0).2.2.1,.int (i:Int),.int ((cbL l:Nat):Int)]=sdD (f7 l i):=rfl
   have hln:((N3 0 (ls.take i)).map sdD).length≤24:=by
    rw[JD,bU,JX];omega
   rw[es]
   refine eU g7 (eX g7 (by omega) ?_)
   rw[P4]
   refine eU g7 ?_
   walk_at "sim"
   refine eX g7 (by rw[JQ];show _+1<1000;omega) ⟨?_,_,_,_,_,_,_,_,_,rfl⟩
   rw[P4,ku ls 0 i l hl,Mf,Kp,Ls]
   rfl
  ·rintro e M' ⟨rfl,z0,z2,z3,z4,z5,z6,z7,z8,rfl⟩
   walk_at "sim"
   rw[mq g7,aD hp]
   walk_at "sim"
   rw[G6,JD,La]
   exact⟨_,fun _ _ h=>h,k⟩
theorem kY(T:Txt K mg)(d:Df K mg "half_rim" X0 ["lines"])(HE:Fn P w K mg base "veer" 1 ["one","other"] gi)(HQ:Fn P w K mg base "next_side" 3 ["sides","here"] Cm)(Ie:Fn P w K mg base "outermost" 2 ["sides"] uG)(Iq:Fn P w K mg base "sides_of" 3 ["lines"] iy):Fn P w K mg base "half_rim" 4 ["lines"] pH:=by
 have sc:=kG
 walk_at "fn"
 obtain⟨x0,ls,rfl,hx0,hok,k⟩:=h
 have hlo:∀ l∈ls,LineOk l:=fun l hl=>(hok.2 l hl).toLineOk
 rcases hx0 with rfl|rfl
 all_goals
  refine⟨_,(d5 (j0 (jtm pV (v7 gD rfl T.b_len bo (a8 (a9 0) d3)) d4) (d6 (d9 (bb (D6 d3)))) g9) (d5 (jst 1 sc.nd (jc Iq hr (a8 (a9 0) d3))) (d5 (jst 2 sc.nd (eG (a8 (jc Ie hr (a8 (a9 1) d3)) d3))) (d5 (jst 3 sc.nd (jc HQ hr (a8 (a9 1) (a8 (jx (a9 2) d4) d3)))) (d5 (aY PassesOwn.never (ay (nu (jtm pU (a9 3) A5) (ji (jtm rF (jc HE hr (a8 (jx (a9 2) d4) (a8 (a9 3) d3))) d4)))) (d5 (R4 (lD PySem.F.slot_list_append PySem.F.type_list_append M9 (a9 2) (a8 (a9 3) d3))) (d6 (jst 3 sc.nd (jc HQ hr (a8 (a9 1) (a8 (a9 3) d3))))))) (d6 (d9 (bb (nt (a9 2)))))))))),?_⟩
  walk_at "sim"
  refine⟨fun h0=>?_,fun h0=>?_⟩
  ·have e:ls=[]:=by
    cases ls with
    | nil=>rfl
    | cons a b=>rw[JD,JP]at h0;omega
   subst e
   exact jM (fun _ _ h=>h) k
  ·have hp:∀ s∈e7 ls,0<s.2.2.1:=gR hlo (i:=0)
   have hz:∀ s∈e7 ls,SzS s:=aK hok
   have hln:=bU ls 0
   have h12:=hok.1
   obtain⟨s1,r,es⟩:∃ s r,e7 ls=s :: r:=by
    cases ls with
    | nil=>exact absurd rfl h0
    | cons a b=>exact⟨_,_,rfl⟩
   have hln:(e7 ls).length≤24:=by show(N3 0 ls).length≤24;omega
   refine⟨hok,⟨s1,r,es⟩,hz,fun p hpn=>?_⟩
   have eh:(e7 ls).headD (0,0,0,0,0)=s1:=by rw[es];rfl
   rw[eh]
   have ek:O9 (e7 ls)=A0 (e7 ls) s1 :: E2 (A0 (e7 ls) s1) (e7 ls) (e7 ls).length (B4 (A0 (e7 ls) s1) (e7 ls)):=by rw[es];rfl
   have m0:A0 (e7 ls) s1∈e7 ls:=by
    rcases ar (e7 ls) s1 with h|h
    ·rw[h,es];exact JH
    ·exact h
   rw[ek]at k
   generalize A0 (e7 ls) s1=h0 at *
   generalize e7 ls=ss at *
   refine⟨_,K6 g7 rfl,?_⟩
   walk_at "sim"
   refine⟨⟨hz _ m0,hz⟩,?_⟩
   refine qM (fun m e M'=>∃(pre:List Sd) (o:Option Sd) (z0:Option D),e=[z0,some (.vl (ss.map sdD)),some (.ref p),some (kQ o)]∧M'=B8 M p (.lst ((h0 :: pre).map sdD))∧pre++E2 h0 ss m o=E2 h0 ss ss.length (B4 h0 ss)∧pre.length+m≤24∧(∀ f,o=some f→f∈ss)∧∀ f,o=some f→0<veZ h0 f→rW h0 ss f<m) ss.length ⟨[],B4 h0 ss,_,rfl,rfl,rfl,by simpa using hln,fun f hf=>(I0 hp hf).1,fun f hf hv=>JN (aG hp hf (.inl rfl) hv) (wJ h0 ss h0)⟩ ?_
   rintro m e M' ⟨pre,o,z0,rfl,rfl,hr,hlm,ho,hc⟩
   have fin:E2 h0 ss m o=[]→Ea (D.ref p) (B8 M p (.lst ((h0 :: pre).map sdD))) (fun x M1=>Ec x M1 R):=fun hn=>by
    rw[hn,LB]at hr
    rw[mq g7,aD hpn,hr]
    exact jM (fun _ _ h=>h) k
   cases o with
   | none =>
    rw[show kQ none=D.non from rfl]
    walk_at "sim"
    rw[dh (b:=true) rfl]
    walk_at "sim"
    exact fin (by cases m<;>rfl)
   | some f =>
    have hf:=ho f rfl
    rw[show kQ (some f)=sdD f from rfl]
    walk_at "sim"
    rw[dh (b:=false) rfl]
    walk_at "sim"
    refine⟨_,K6 g7 (p9 (n:=0) rfl),?_⟩
    walk_at "sim"
    refine⟨⟨hz _ m0,hz _ hf⟩,fun hv=>?_,fun hv=>?_⟩
    ·have hcm:=hc f rfl hv
     obtain⟨m,rfl⟩:∃ m',m=m'+1:=⟨m - 1,by omega⟩
     have er:E2 h0 ss (m+1) (some f)=f :: E2 h0 ss m (B4 f ss):=if_pos hv
     rw[er]at hr
     refine eU g7 (eX g7 (by rw[JP,JD];omega) ⟨⟨hz _ hf,hz⟩,m,Nat.lt_succ_self _,pre++[f],B4 f ss,_,rfl,?_,by rw[Ls];exact hr,by rw[JQ];show pre.length+1+m≤24;omega,fun g hg=>(I0 hp hg).1,fun g hg hg2=>?_⟩)
     ·rw[P4]
      congr 2
      rw[Kp];rfl
     ·have:=aG hp hg (.inr hv) hg2
      omega
    ·refine fin ?_
     cases m with
     | zero=>rfl
     | succ m=>exact if_neg hv
theorem mZ(T:Txt K mg)(d:Df K mg "corners" aQ ["lines"])(HR:Fn P w K mg base "from_lowest" 3 ["rays"] mU)(Hy:Fn P w K mg base "opposite" 1 ["one"] kr)(HV:Fn P w K mg base "facing" 1 ["side"] yv)(Iy:Fn P w K mg base "met_at" 41 ["one","other"] Cn)(Ir:Fn P w K mg base "half_rim" 4 ["lines"] pH):Fn P w K mg base "corners" 42 ["lines"] kI:=by
 have sc:=mJ
 walk_at "fn"
 obtain⟨x0,ls,rfl,hx0,hok,k⟩:=h
 have hlo:∀ l∈ls,LineOk l:=fun l hl=>(hok.2 l hl).toLineOk
 have hlen:=lG hlo
 rcases hx0 with rfl|rfl
 all_goals
  refine⟨_,(d5 (jst 1 sc.nd (jc Ir hr (a8 (a9 0) d3))) (d5 (j0 (jtm lj (v7 gD rfl T.b_len bo (a8 (a9 1) d3)) d4) (d6 (d9 A5)) g9) (d5 (D5 (i:=2) [] ["one","other"] [] sc.nd rfl (Or.inl rfl) rfl (by decide +kernel) rfl (by decide +kernel) (by decide +kernel) rfl Y3 Y3 (cB rfl T.b_zip (a8 (a9 1) (a8 (G4 (t9 (a9 1) (t7 d4) t8) (D6 (a8 (jc HV hr (a8 (jx (a9 1) d4) d3)) d3))) d3))) (fun _ _ _ _ _ _=>(p8 (n:=2) rfl (e6 (jn 0 (show(["one","other"]:List Str).Nodup by decide +kernel)) (e6 (jn 1 (show(["one","other"]:List Str).Nodup by decide +kernel)) m9)))) (fun _ _ _ _ _ _=>v6) (fun _ _ _ _ _ _=>(jc Iy hr (a8 (a9 0) (a8 (a9 1) d3))))) (d6 (d9 (jc HR hr (a8 (G4 (a9 2) (J5 [] ["y","u"] [] rfl (by decide +kernel) rfl (by decide +kernel) (by decide +kernel) rfl Y3 Y3 (t5 (a9 2)) (fun _ _ _ _ _ _=>(p8 (n:=2) rfl (e6 (jn 0 (show(["y","u"]:List Str).Nodup by decide +kernel)) (e6 (jn 1 (show(["y","u"]:List Str).Nodup by decide +kernel)) m9)))) (fun _ _ _ _ _ _=>v6) (fun _ _ _ _ _ _=>(j5 (a8 (jc Hy hr (a8 (a9 0) d3)) (a8 (jc Hy hr (a8 (a9 1) d3)) d3)))))) d3))))))),?_⟩
  walk_at "sim"
  refine⟨hok,fun hlt=>?_,fun hge=>?_⟩
  ·have e:v9 ls=none:=by
    unfold v9
    cases e:O9 (e7 ls)with
    | nil=>rfl
    | cons a r =>
     cases r with
     | nil=>rfl
     | cons b r=>rw[e,JD,JP,JP]at hlt;omega
   rw[e]at k
   exact k
  ·obtain⟨h0,x,l,e⟩:∃ h0 x l,O9 (e7 ls)=h0 :: x :: l:=by
    cases e:O9 (e7 ls)with
    | nil=>rw[e]at hge;exact absurd (by decide) hge
    | cons a r =>
     cases r with
     | nil=>rw[e]at hge;exact absurd (by show(1:Int)<2;decide) hge
     | cons b r=>exact⟨a,b,r,rfl⟩
   have hne:ls≠[]:=fun z=>by rw[z]at e;cases e
   obtain⟨g0,g,eg,m0,hg⟩:=M8 hlo hne
   rw[e]at eg
   injection eg with q1 q2
   subst q1;subst q2
   have hall:∀ ab∈(h0 :: x :: l).zip (x :: l++[j7 h0]),SzS ab.1∧SzS ab.2∧veZ ab.1 ab.2≠0:=fun ab hab=>by
    rcases hg with⟨z,_⟩|⟨_,_,hg⟩
    ·cases z
    ·obtain⟨a1,a2,a3⟩:=hg ab hab
     exact⟨aK hok _ a1,aK hok _ a2,by omega⟩
   have ec:v9 ls=some (aS (A6 h0 (x :: l)++(A6 h0 (x :: l)).map ngZ)):=by unfold v9;rw[e]
   rw[ec]at k
   have rl:=kM h0 (x :: l)
   have h12:=hok.1
   have hrs:∀ z∈A6 h0 (x :: l),Ad z:=fun z hz=>by
    obtain⟨ab,hab,rfl⟩:=JK.mp hz
    obtain⟨a1,a2,a3⟩:=hall ab hab
    have:=AX ⟨a1.p,a1.q,a1.r⟩ ⟨a2.p,a2.q,a2.r⟩ a3
    exact⟨by have:=this.1;omega,by have:=this.2;omega⟩
   rw[e]at hlen ⊢
   rw[JP,JP]at hlen
   rw[Ky]
   walk_at "sim"
   rw[DM,← Ky,show[sdD (j7 h0)]=[j7 h0].map sdD from rfl,← Kp,show sdD h0 :: (x :: l).map sdD=(h0 :: x :: l).map sdD from rfl,sj]
   refine⟨by rw[JD];exact JR (by rw[JP];omega:(x :: l).length+1≤1000) (by decide),?_⟩
   refine A3 (xs:=(h0 :: x :: l).zip (x :: l++[j7 h0])) (enc:=fun ab=>D.tup [sdD ab.1,sdD ab.2]) (fun ab=>rD (ry (tri ab.1) (tri ab.2))) ?_ (by simp only[h9,and_self]) (fun ab hab Q hQ=>?_) ?_
   ·rw[KO,JP,JP];omega
   ·walk_at "sim"
    exact⟨hall ab hab,hQ⟩
   ·have er:((h0 :: x :: l).zip (x :: l++[j7 h0])).map (fun ab=>rD (ry (tri ab.1) (tri ab.2)))=(A6 h0 (x :: l)).map rD:=by unfold A6;rw[Lf];rfl
    rw[er]
    walk_at "sim"
    refine A3 (xs:=A6 h0 (x :: l)) (enc:=rD) (fun z=>rD (ngZ z)) ?_ (by simp only[h9]) (fun z hz Q hQ=>?_) ?_
    ·rw[rl,JP];omega
    ·rw[show rD z=D.tup [d7 z.1,d7 z.2]from rfl]
     walk_at "sim"
     exact hQ
    ·have er2:(A6 h0 (x :: l)).map (fun z=>rD (ngZ z))=((A6 h0 (x :: l)).map ngZ).map rD:=by rw[Lf];rfl
     rw[er2]
     walk_at "sim"
     rw[← Kp]
     refine⟨?_,?_⟩
     ·rw[JD,JD,JD,rl]
      exact JR (by rw[JP];omega:(x :: l).length+1+((x :: l).length+1)≤1000) (by decide)
     ·walk_at "sim"
      refine⟨⟨?_,?_,fun z hz=>?_⟩,k⟩
      ·intro z
       have:=congrArg LL z
       rw[JQ,rl]at this
       simp at this
      ·rw[JQ,JD,rl,JP];omega
      ·rcases Kf.mp hz with hz|hz
       ·exact hrs z hz
       ·obtain⟨y,hy,rfl⟩:=JK.mp hz
        obtain⟨y1,y2⟩:=hrs y hy
        exact⟨by show sz (-y.1)≤_;rw[RM.D9];exact y1,by show sz (-y.2)≤_;rw[RM.D9];exact y2⟩
theorem dX(T:Txt K mg)(d:Df K mg "led_by_part" L0 ["part","ray"])(HM:Fn P w K mg base "minus" 42 ["one","other"] Y9)(Hx:Fn P w K mg base "times" 41 ["one","other"] B3)(HK:Fn P w K mg base "plus" 41 ["one","other"] aN):Fn P w K mg base "led_by_part" 43 ["part","ray"] uH:=by
 have sc:=dB
 walk_at "fn"
 obtain⟨x,y,u,rfl,hz,k⟩:=h
 refine⟨_,(d5 (A7 (a9 0) (p8 (n:=2) rfl (e6 (jn 2 sc.nd) (e6 (jn 3 sc.nd) m9)))) (d5 (A7 (a9 1) (p8 (n:=2) rfl (e6 (jn 4 sc.nd) (e6 (jn 5 sc.nd) m9)))) (d5 (j0 (jtm ey (a9 2) C9) (d6 (d9 (j5 (a8 (jc HK hr (a8 (a9 4) (a8 (jc Hx hr (a8 (a9 3) (a8 (a9 5) d3))) d3))) (a8 (a9 5) d3))))) g9) (d5 (j0 (jtm ey (a9 2) C9) (d6 (d9 (j5 (a8 (a9 4) (a8 (jc HM hr (a8 (a9 5) (a8 (jc Hx hr (a8 (a9 3) (a8 (a9 4) d3))) d3))) d3))))) g9) (d6 (d9 (a9 1))))))),?_⟩
 walk_at "sim"
 unfold E5 at k
 refine⟨fun h1=>?_,fun h1=>⟨fun h2=>?_,fun h2=>?_⟩⟩
 ·rw[if_pos h1]at k;exact⟨by omega,by walk_at "size",k⟩
 ·rw[if_neg h1,if_pos h2]at k;exact⟨by omega,by walk_at "size",k⟩
 ·rw[if_neg h1,if_neg h2]at k;exact k
theorem kU(T:Txt K mg)(d:Df K mg "lines_of" W7 ["bench"])(HI:Fn P w K mg base "led_by_part" 43 ["part","ray"] uH):Fn P w K mg base "lines_of" 44 ["bench"] L7:=by
 have sc:=kC
 walk_at "fn"
 obtain⟨x0,bs,rfl,hx0,⟨hl,hok⟩,k⟩:=h
 rcases hx0 with rfl|rfl
 all_goals
  refine⟨_,(d5 (jst 1 sc.nd (eG d3)) (d5 (jst 2 sc.nd (R5 rfl T.c_LEVEL_RAY)) (d5 (jst 3 sc.nd (R5 rfl T.c_AXIS_RAY)) (d5 (u9 PassesOwn.never rfl (t5 (a9 0)) (jn 4 sc.nd) (gw (j0 (jtm ey (jx (a9 4) d4) C9) (d6 (R4 (lD PySem.F.slot_list_append PySem.F.type_list_append M9 (a9 1) (a8 (j5 (a8 (jx (a9 2) d4) (a8 (jx (a9 3) d4) (a8 (jx (a9 4) d4) d3)))) d3)))) g9) (d5 (jst 2 sc.nd (jc HI hr (a8 (a9 4) (a8 (a9 2) d3)))) (d6 (jst 3 sc.nd (jc HI hr (a8 (a9 4) (a8 (a9 3) d3)))))))) (d6 (d9 (bb (nt (a9 1))))))))),?_⟩
  walk_at "sim"
  intro p hp
  refine U9.by (fun i e M'=>(∃ y0 z:Option D,e=[y0,some (.ref p),some (aT (o9 (bs.take i) (1,0)).1 (o9 (bs.take i) (1,0)).2),some (aT (o9 (bs.take i) (0,1)).1 (o9 (bs.take i) (0,1)).2),z])∧M'=B8 M p (.lst ((A9 bs i).map g5))) ⟨⟨_,_,rfl⟩,rfl⟩ (fun i e M' _ _=>by simp only[h9,u0]) ?_ ?_
  ·rintro i dd e M' hd ⟨⟨y0,z,rfl⟩,rfl⟩
   obtain⟨pt,hpt,rfl⟩:=rf hd
   have hm:=Kd hpt
   have t1:=(Y7 Gr hok i).t2
   have t2:=(Y7 Gs hok i).t2
   have a1:=t1.y
   have a2:=t1.u
   have b1:=t2.y
   have b2:=t2.u
   have q2:=(hok pt hm).sz
   have o1:=kO hpt (1,0)
   have o2:=kO hpt (0,1)
   have hll:=aw bs i
   have hi:=(JV.mp hpt).1
   walk_at "sim"
   refine xa (fun e' M'=>e'=[y0,some (.ref p),some (aT (o9 (bs.take i) (1,0)).1 (o9 (bs.take i) (1,0)).2),some (aT (o9 (bs.take i) (0,1)).1 (o9 (bs.take i) (0,1)).2),some (f9 pt)]∧M'=B8 M p (.lst ((A9 bs (i+1)).map g5))) ?_ ?_
   ·walk_at "sim"
    refine⟨fun h1=>eU g7 (eX g7 (by rw[JD];omega) ?_),fun h1=>?_⟩
    ·rw[P4,rH hpt h1,Kp];rfl
    ·rw[vK hpt h1]
   ·rintro e' M' ⟨rfl,rfl⟩
    walk_at "sim"
    refine⟨by omega,by omega,⟨y0,some (f9 pt),?_⟩⟩
    rw[o1,o2]
  ·rintro e M' ⟨⟨y0,z,rfl⟩,rfl⟩
   walk_at "sim"
   rw[mq g7,aD hp]
   walk_at "sim"
   rw[JD]
   exact⟨_,fun _ _ h=>h,k⟩
theorem fg(T:Txt K mg)(d:Df K mg "_law_ratio" N5 ["top","bottom"])(hsee:wY P base):Fn P w K mg base "_law_ratio" 40 ["top","bottom"] O8:=by
 have sc:=fb
 walk_at "fn"
 obtain⟨a,b,rfl,hb,k⟩:=h
 refine⟨_,(gw (j0 (jtm lj (a9 1) d4) (d6 (cC (i:=0) (j:=1) rfl sc.nd rfl rfl (by decide) rfl rfl (a8 (f6 L8 d4 (a9 0)) (a8 (f6 L8 d4 (a9 1)) d3)))) g9) (d5 (cC (i:=2) (j:=3) rfl sc.nd rfl rfl (by decide) rfl rfl (a8 (v7 bK rfl T.b_abs S2 (a8 (a9 0) d3)) (a8 (a9 1) d3))) (d5 (aY PassesOwn.never (jtm rF (a9 2) d4) (d6 (cC (i:=2) (j:=3) rfl sc.nd rfl rfl (by decide) rfl rfl (a8 (f6 bG (a9 3) (a9 2)) (a8 (a9 2) d3))))) (d6 (d9 (j5 (a8 (f6 (cz (ldv hsee hr sc)) (a9 0) (a9 3)) (a8 (f6 (cz (ldv hsee hr sc)) (a9 1) (a9 3)) d3)))))))),?_⟩
 walk_at "sim"
 refine xa (fun e' M'=>M'=M∧∃(t u:Int) (x1 x2:Option D),e'=[some (.int t),some (.int u),x1,x2]∧0<u∧Lh t u=Lh a b) ?_ ?_
 ·walk_at "sim"
  refine⟨fun h1=>⟨_,_,_,_,rfl,by omega,by rw[Int.zero_sub,Int.zero_sub,Rat.neg_divInt_neg]⟩,fun h1=>⟨_,_,_,_,rfl,by omega,rfl⟩⟩
 ·rintro e' M' ⟨rfl,t,u,x1,x2,rfl,hu0,hq⟩
  walk_at "sim"
  refine qM (fun m e M2=>M2=M'∧∃ v:Nat,e=[some (.int t),some (.int u),some (.int (m:Int)),some (.int (v:Int))]∧Ll m v=Ll t.natAbs u.natAbs) t.natAbs ⟨rfl,u.natAbs,by rw[show((u.natAbs:Nat):Int)=u by omega],rfl⟩ ?_
  rintro m e M2 ⟨rfl,v,rfl,hg⟩
  walk_at "sim"
  refine⟨fun h0=>⟨by omega,v % m,Lu _ (by omega),m,by rw[Int.natCast_emod],by rw[← hg,MB m v,RM.lH v m (by omega),MB]⟩,fun h0=>?_⟩
  have hm:m=0:=by omega
  subst hm
  rw[Nat.gcd_zero_left]at hg
  subst hg
  have hn:=vX (a:=t) (b:=u) (by omega)
  rw[← hq]at k
  exact⟨hn,hn,jf (by omega) (by rw[if_neg (by omega)]) k⟩
theorem nh(T:Txt K mg)(d:Df K mg "_law_by" aR ["one","other"])(Hv:Fn P w K mg base "_law_ratio" 40 ["top","bottom"] O8):Fn P w K mg base "_law_by" 41 ["one","other"] B3:=by
 have sc:=mK
 walk_at "fn"
 obtain⟨q,r,rfl,hz,k⟩:=h
 refine⟨_,(d6 (d9 (jc Hv hr (a8 (f6 o8 (jx (a9 0) d4) (jx (a9 1) d4)) (a8 (f6 o8 (jx (a9 0) d4) (jx (a9 1) d4)) d3))))),?_⟩
 walk_at "sim"
 rw[← RM.ni]
 exact⟨bNN hz,bDD hz,Le (RM.y9 q) (RM.y9 r),k⟩
theorem eo(T:Txt K mg)(d:Df K mg "_law_halved" L4 ["part"])(HA:Fn P w K mg base "_law_by" 41 ["one","other"] B3):Fn P w K mg base "_law_halved" 42 ["part"] iG:=by
 have sc:=dF
 walk_at "fn"
 obtain⟨x,rfl,hx,k⟩:=h
 refine⟨_,(d5 (j0 (jtm Fx (jx (a9 0) d4) C9) (d6 (d9 (a9 0))) g9) (d6 (d9 (j5 (a8 (jx (a9 0) d4) (a8 (jc HA hr (a8 (jx (a9 0) d4) (a8 (j5 (a8 d4 (a8 d4 d3))) d3))) d3)))))),?_⟩
 walk_at "sim"
 unfold J8 at k
 refine⟨fun h=>by rw[if_neg h]at k;exact k,fun h=>?_⟩
 rw[if_pos h]at k
 rw[jl]
 walk_at "sim"
 have h1:=hx.s
 have h2:=U0
 exact⟨by omega,k⟩
theorem kZ(T:Txt K mg)(d:Df K mg "_law_add" X1 ["one","other"])(Hv:Fn P w K mg base "_law_ratio" 40 ["top","bottom"] O8):Fn P w K mg base "_law_add" 41 ["one","other"] mR:=by
 have sc:=kH
 walk_at "fn"
 obtain⟨q,r,rfl,hz,k⟩:=h
 refine⟨_,(d6 (d9 (jc Hv hr (a8 (f6 R3 (f6 o8 (jx (a9 0) d4) (jx (a9 1) d4)) (f6 o8 (jx (a9 1) d4) (jx (a9 0) d4))) (a8 (f6 o8 (jx (a9 0) d4) (jx (a9 1) d4)) d3))))),?_⟩
 walk_at "sim"
 rw[← RM.jG]
 exact⟨bND hz,bND (by omega),bDD hz,Le (RM.y9 q) (RM.y9 r),k⟩
theorem iX(T:Txt K mg)(d:Df K mg "_law_take" Q1 ["one","other"])(Hv:Fn P w K mg base "_law_ratio" 40 ["top","bottom"] O8):Fn P w K mg base "_law_take" 41 ["one","other"] iD:=by
 have sc:=hJ
 walk_at "fn"
 obtain⟨q,r,rfl,hz,k⟩:=h
 refine⟨_,(d6 (d9 (jc Hv hr (a8 (f6 L8 (f6 o8 (jx (a9 0) d4) (jx (a9 1) d4)) (f6 o8 (jx (a9 1) d4) (jx (a9 0) d4))) (a8 (f6 o8 (jx (a9 0) d4) (jx (a9 1) d4)) d3))))),?_⟩
 walk_at "sim"
 rw[ym]
 exact⟨bND hz,bND (by omega),bDD hz,Le (RM.y9 q) (RM.y9 r),k⟩
theorem jd(T:Txt K mg)(d:Df K mg "_law_even" Q6 ["rows"])(HX:Fn P w K mg base "_law_add" 41 ["one","other"] mR)(HA:Fn P w K mg base "_law_by" 41 ["one","other"] B3)(HJ:Fn P w K mg base "_law_take" 41 ["one","other"] iD):Fn P w K mg base "_law_even" 42 ["rows"] uK:=by
 have sc:=ic
 walk_at "fn"
 obtain⟨rs,rfl,⟨hl,hz⟩,k⟩:=h
 refine⟨_,(d5 (jst 1 sc.nd (j5 (a8 d4 (a8 d4 d3)))) (d5 (u9 PassesOwn.never rfl (cB rfl T.b_zip (a8 (a9 0) (a8 (t9 (a9 0) (t7 d4) t8) d3))) (p8 (n:=2) rfl (e6 (jn 2 sc.nd) (e6 (jn 3 sc.nd) m9))) (d5 (jst 4 sc.nd (jc HX hr (a8 (jc HJ hr (a8 (jx (a9 2) d4) (a8 (jx (a9 2) d4) d3))) (a8 (jc HJ hr (a8 (jx (a9 3) d4) (a8 (jx (a9 3) d4) d3))) d3)))) (d6 (jst 1 sc.nd (jc HX hr (a8 (a9 1) (a8 (jc HA hr (a8 (jc HA hr (a8 (a9 4) (a8 (j5 (a8 d4 (a8 d4 d3))) d3))) (a8 (jc HJ hr (a8 (jx (a9 3) d4) (a8 (jx (a9 2) d4) d3))) d3))) d3))))))) (d6 (d9 (a9 1))))),?_⟩
 walk_at "sim"
 rw[wD,nT]
 refine U9.by (fun i e M'=>M'=M∧∃ z2 z3 z4:Option D,e=[some (.vl (rs.map g5)),some (d7 (evP ((rs.zip (rs.drop 1)).take i))),z2,z3,z4]∧sz (evP ((rs.zip (rs.drop 1)).take i))≤14010*i+1) ⟨rfl,_,_,_,rfl,by show sz 0≤_;rw[RM.bT];omega⟩ (fun i e M' _ h=>by rw[h.1];exact⟨by rw[h9],by rw[h9]⟩) ?_ ?_
 ·rintro i dd e M' hd ⟨rfl,z2,z3,z4,rfl,hs⟩
  rw[Ki]at hd
  cases hq:(rs.zip (rs.drop 1))[i]? with
  | none=>rw[hq]at hd;cases hd
  | some p =>
   rw[hq]at hd
   obtain rfl:=Option.some.inj hd
   have hi:=(JV.mp hq).1
   rw[KO]at hi
   have m1:=Lq (Kd hq)
   obtain⟨a1,a2,a3,a4,a5,a6⟩:=DE (hz _ m1.1) (hz _ (Lj m1.2))
   have b1:=hz _ m1.1
   have b2:=hz _ (Lj m1.2)
   have e1:evP ((rs.zip (rs.drop 1)).take (i+1))=evP ((rs.zip (rs.drop 1)).take i)+evA p:=by
    rw[Ln,hq]
    show(_++[p]).foldl _ 0=_
    rw[KR];rfl
   rw[e1]
   generalize evP ((rs.zip (rs.drop 1)).take i)=c at *
   have h3:=U0
   have hc:=RM.W1 c (evA p)
   obtain⟨⟨x1,x2,x3⟩,⟨y1,y2,y3⟩⟩:=p
   walk_at "sim"
   rw[jl]
   walk_at "sim"
   dsimp only at a1 a2 a3 a4 a5 b1 b2
   unfold evA at a6 hc ⊢
   dsimp only at a6 hc ⊢
   refine⟨by omega,by omega,by omega,by omega,by omega,by omega,by omega,_,_,_,rfl,by omega⟩
 ·rintro e M' ⟨rfl,z2,z3,z4,rfl,hs⟩
  walk_at "sim"
  rw[JD,La,Bi]
  exact k
theorem nc(T:Txt K mg)(d:Df K mg "area" iw ["rays"])(Hx:Fn P w K mg base "times" 41 ["one","other"] B3)(Im:Fn P w K mg base "total" 41 ["ratios"] ix)(Io:Fn P w K mg base "cross" 43 ["one","other"] cq):Fn P w K mg base "area" 44 ["rays"] mV:=by
 have sc:=pF
 walk_at "fn"
 obtain⟨cs,rfl,⟨hl,h2,hz⟩,k⟩:=h
 refine⟨_,(d5 (D5 (i:=1) [] ["one","other"] [] sc.nd rfl (Or.inl rfl) rfl (by decide +kernel) rfl (by decide +kernel) (by decide +kernel) rfl Y3 Y3 (cB rfl T.b_zip (a8 (a9 0) (a8 (f6 De (t9 (a9 0) (t7 d4) t8) (t9 (a9 0) t8 (t7 d4))) d3))) (fun _ _ _ _ _ _=>(p8 (n:=2) rfl (e6 (jn 0 (show(["one","other"]:List Str).Nodup by decide +kernel)) (e6 (jn 1 (show(["one","other"]:List Str).Nodup by decide +kernel)) m9)))) (fun _ _ _ _ _ _=>v6) (fun _ _ _ _ _ _=>(jc Io hr (a8 (a9 0) (a8 (a9 1) d3))))) (d6 (d9 (jc Hx hr (a8 (jc Im hr (a8 (a9 1) d3)) (a8 (R5 rfl T.c_HALF) d3)))))),?_⟩
 walk_at "sim"
 have n1:∀{n:Nat},2≤n→¬ (HT.sIx n 0 (some 1)=0∧HT.sIx n n none=n):=fun{n} h ⟨z,_⟩=>by
  rw[show(some (1:Int))=some ((1:Nat):Int)from rfl,HT.iF]at z;omega
 have n2:∀{n:Nat},2≤n→¬ (HT.sIx n 0 none=0∧HT.sIx n n (some 1)=n):=fun{n} h ⟨_,z⟩=>by
  rw[show(some (1:Int))=some ((1:Nat):Int)from rfl,HT.iF]at z;omega
 refine⟨n1 (by rw[JD];exact h2),n2 (by rw[JD];exact h2),?_⟩
 have l1:J6 (cs.map rD) (some 1) none≠[]:=fun z=>by
  have:=congrArg LL z
  rw[show(some (1:Int))=some ((1:Nat):Int)from rfl,U5,Kr,JD]at this
  have:cs.length - 1=0:=this
  omega
 have l2:J6 (cs.map rD) none (some 1)≠[]:=fun z=>by
  have:=congrArg LL z
  rw[show(some (1:Int))=some ((1:Nat):Int)from rfl,bh,JX,JD]at this
  have:min 1 cs.length=0:=this
  omega
 have e:=congrArg LL (cG (cs:=cs))
 rw[JQ,JD,ak (by omega)]at e
 refine⟨_,_,rfl,rfl,l1,l2,by rw[e];exact JR (show cs.length≤1000 by omega) (by decide),?_⟩
 rw[cG]
 walk_at "sim"
 rw[cI]
 refine A3 (xs:=cs.zip (cs.drop 1++cs.take 1)) (enc:=fun p=>D.tup [rD p.1,rD p.2]) (fun p=>d7 (p.1.1*p.2.2 - p.2.1*p.1.2)) ?_ (by simp only[h9,u0,and_self]) (fun p hp Q hQ=>?_) ?_
 ·rw[KO];omega
 ·have m1:=Lq hp
  have m2:p.2∈cs:=by
   rcases Kf.mp m1.2 with h|h
   ·exact Lj h
   ·exact Kx h
  have a:=hz _ m1.1
  have b:=hz _ m2
  walk_at "sim"
  exact⟨_,_,_,_,rfl,⟨a.1,a.2,b.1,b.2⟩,hQ⟩
 ·have er:(cs.zip (cs.drop 1++cs.take 1)).map (fun p=>d7 (p.1.1*p.2.2 - p.2.1*p.1.2))=(eM cs).map d7:=by unfold eM;rw[Lf];rfl
  rw[er,jl]
  walk_at "sim"
  have hc:=aE (cs:=cs) (by omega)
  have hs:=nF hz
  have ss:=mC _ hs
  have h3:=U0
  refine⟨⟨by omega,hs⟩,?_⟩
  walk_at "sim"
  rw[nG (by omega)]at ss ⊢
  exact⟨by omega,k⟩
theorem dW(T:Txt K mg)(d:Df K mg "rising_once" K9 ["ratios"])(HG:Fn P w K mg base "less" 1 ["one","other"] du):Fn P w K mg base "rising_once" 2 ["ratios"] iA:=by
 have sc:=dA
 walk_at "fn"
 obtain⟨qs,rfl,⟨hl,hz⟩,k⟩:=h
 refine⟨_,(d5 (jst 1 sc.nd (D6 d3)) (d5 (u9 PassesOwn.never rfl (t5 (a9 0)) (jn 2 sc.nd) (d5 (D5 (i:=3) [2] ["other"] ["one"] sc.nd rfl (Or.inl rfl) rfl (by decide +kernel) rfl (by decide +kernel) (by decide +kernel) rfl (fq ⟨rfl,rfl⟩) (fq (Or.inl rfl)) (t5 (a9 1)) (fun _ _ _ _ _ _=>(jn 0 (show(["other","one"]:List Str).Nodup by decide +kernel))) (fun _ _ _ _ _ _=>(rM (E9 (jc HG hr (a8 (a9 0) (a8 (a9 1) d3)))))) (fun _ _ _ _ _ _=>(a9 0))) (d6 (j0 (jtm (vB hu) (a9 2) (a9 1)) (d6 (jst 1 sc.nd (G4 (G4 (a9 3) (D6 (a8 (a9 2) d3))) (t9 (a9 1) (t7 (v7 gD rfl T.b_len bo (a8 (a9 3) d3))) t8)))) g9)))) (d6 (d9 (a9 1))))),?_⟩
 walk_at "sim"
 refine U9.by (fun i e M'=>M'=M∧∃ z2 z3:Option D,e=[some (.vl (qs.map d7)),some (.vl ((C6 (qs.take i)).map d7)),z2,z3]) ⟨rfl,_,_,rfl⟩ (fun i e M' _ _=>by simp only[h9]) ?_ ?_
 ·rintro i dd e M' hd ⟨rfl,z2,z3,rfl⟩
  rw[Ki]at hd
  cases hq:qs[i]? with
  | none=>rw[hq]at hd;cases hd
  | some q =>
   rw[hq]at hd
   obtain rfl:=Option.some.inj hd
   have e1:C6 (qs.take (i+1))=bc (C6 (qs.take i)) q:=by
    unfold C6
    rw[Ln,hq,KR];rfl
   have hi:=(JV.mp hq).1
   obtain⟨rs,rm⟩:=cy (qs.take i)
   have hzr:∀ y∈C6 (qs.take i),sz y≤2402:=fun y hy=>hz y (Kx ((rm y).mp hy))
   have hlr:(C6 (qs.take i)).length≤i:=by
    have:=dR (qs.take i)
    rw[JX]at this
    omega
   have hqz:=hz q (Kd hq)
   rw[e1]
   unfold bc
   generalize C6 (qs.take i)=xs at *
   walk_at "sim"
   refine jz (xs:=xs) (enc:=d7) (fun y=>decide (y<q)) d7 (by omega) (by simp only[h9]) (fun y hy Q N h1 h2=>?_) ?_
   ·have:=hzr y hy
    walk_at "sim"
    exact⟨by omega,fun z=>h1 (decide_eq_true z),fun z=>h2 (decide_eq_false z)⟩
   ·walk_at "sim"
    have fl:=LC (fun y=>decide (y<q)) xs
    have s1:((xs.filter fun y=>decide (y<q)).map d7).length+1≤sizeLine:=by
     rw[JD];exact JR (by omega:_+1≤1000) (by decide)
    refine⟨lX xs,fun hn=>⟨s1,?_,some (d7 q),some (.vl ((xs.filter fun y=>decide (y<q)).map d7)),?_⟩,fun hin=>⟨some (d7 q),some (.vl ((xs.filter fun y=>decide (y<q)).map d7)),?_⟩⟩
    ·rw[cH,JQ,Kr,JD,JD]
     exact JR (by show _+1+_≤1000;omega) (by decide)
    ·rw[if_neg (fun z=>hn (uQ.mpr z)),cH,JD,← Ml,Kp,Kp]
     rfl
    ·rw[if_pos (uQ.mp hin)]
 ·rintro e M' ⟨rfl,z2,z3,rfl⟩
  walk_at "sim"
  rw[JD,La]
  exact k
theorem kR(T:Txt K mg)(d:Df K mg "unsigned" W4 ["one"]):Fn P w K mg base "unsigned" 1 ["one"] pC:=by
 have sc:=kz
 walk_at "fn"
 obtain⟨q,rfl,k⟩:=h
 refine⟨_,(d6 (d9 (j5 (a8 (v7 bK rfl T.b_abs S2 (a8 (jx (a9 0) d4) d3)) (a8 (jx (a9 0) d4) d3))))),?_⟩
 walk_at "sim"
 exact k
theorem zi(T:Txt K mg)(d:Df K mg "over" mO ["one","other"])(Hz:Fn P w K mg base "ratio" 40 ["top","bottom"] O8):Fn P w K mg base "over" 41 ["one","other"] mE:=by
 have sc:=yt
 walk_at "fn"
 obtain⟨q,r,rfl,h0,hz,k⟩:=h
 refine⟨_,(d6 (d9 (jc Hz hr (a8 (f6 o8 (jx (a9 0) d4) (jx (a9 1) d4)) (a8 (f6 o8 (jx (a9 0) d4) (jx (a9 1) d4)) d3))))),?_⟩
 walk_at "sim"
 rw[RM.wq]at k
 exact⟨mND hz,mDN hz,Le (RM.y9 q) (Dg h0),k⟩
theorem iR(T:Txt K mg)(d:Df K mg "slopes_by" P6 ["line","h"])(HK:Fn P w K mg base "plus" 41 ["one","other"] aN)(HM:Fn P w K mg base "minus" 42 ["one","other"] Y9)(HH:Fn P w K mg base "unsigned" 1 ["one"] pC)(IG:Fn P w K mg base "over" 41 ["one","other"] mE)(Hy:Fn P w K mg base "opposite" 1 ["one"] kr)(Hx:Fn P w K mg base "times" 41 ["one","other"] B3):Fn P w K mg base "slopes_by" 43 ["line","h"] X2:=by
 have sc:=gT
 walk_at "fn"
 obtain⟨l,g,rfl,⟨⟨h1,h2,h3⟩,hn,hh⟩,k⟩:=h
 refine⟨_,(d5 (A7 (a9 0) (p8 (n:=3) rfl (e6 (jn 2 sc.nd) (e6 (jn 3 sc.nd) (e6 (jn 4 sc.nd) m9))))) (d5 (jst 5 sc.nd (jc Hy hr (a8 (jc IG hr (a8 (jc Hx hr (a8 (a9 2) (a8 (a9 1) d3))) (a8 (a9 3) d3))) d3))) (d5 (jst 6 sc.nd (jc HH hr (a8 (jc IG hr (a8 (a9 4) (a8 (a9 3) d3))) d3))) (d6 (d9 (j5 (a8 (jc HM hr (a8 (a9 5) (a8 (a9 6) d3))) (a8 (jc HK hr (a8 (a9 5) (a8 (a9 6) d3))) d3)))))))),?_⟩
 walk_at "sim"
 have m1:=RM.F7 l.1 g
 have m2:=RM.aL (l.1*g) l.2.1 hn
 have m3:=RM.D9 (l.1*g / l.2.1)
 have m4:=RM.aL l.2.2 l.2.1 hn
 have m5:=J2 (l.2.2 / l.2.1)
 exact⟨by omega,hn,by omega,hn,by omega,by omega,by omega,k⟩
theorem rq(T:Txt K mg)(d:Df K mg "slopes" dG ["lines","h"])(HG:Fn P w K mg base "less" 1 ["one","other"] du)(HH:Fn P w K mg base "unsigned" 1 ["one"] pC)(Hx:Fn P w K mg base "times" 41 ["one","other"] B3)(Ig:Fn P w K mg base "slopes_by" 43 ["line","h"] X2):Fn P w K mg base "slopes" 44 ["lines","h"] dJ:=by
 have sc:=qU
 walk_at "fn"
 obtain⟨ls,g,rfl,⟨hl,hz,hg⟩,k⟩:=h
 refine⟨_,(d5 (jst 2 sc.nd A5) (d5 (jst 3 sc.nd A5) (d5 (u9 PassesOwn.never rfl (t5 (a9 0)) (jn 4 sc.nd) (d5 (A7 (a9 4) (p8 (n:=3) rfl (e6 (jn 5 sc.nd) (e6 (jn 6 sc.nd) (e6 (jn 7 sc.nd) m9))))) (d6 (j0 (jtm (Bc hu) (a9 6) (R5 rfl T.c_NOUGHT)) (d6 (j0 (E9 (jc HG hr (a8 (a9 7) (a8 (jc HH hr (a8 (jc Hx hr (a8 (a9 5) (a8 (a9 1) d3))) d3)) d3)))) (d6 (d9 A5)) g9)) (d5 (A7 (jc Ig hr (a8 (a9 4) (a8 (a9 1) d3))) (p8 (n:=2) rfl (e6 (jn 8 sc.nd) (e6 (jn 9 sc.nd) m9)))) (d5 (j0 (ay (eF (jtm rE (a9 2) A5) (aZ (E9 (jc HG hr (a8 (a9 2) (a8 (a9 8) d3))))))) (d6 (jst 2 sc.nd (a9 8))) g9) (d6 (j0 (ay (eF (jtm rE (a9 3) A5) (aZ (E9 (jc HG hr (a8 (a9 9) (a8 (a9 3) d3))))))) (d6 (jst 3 sc.nd (a9 9))) g9)))))))) (d5 (j0 (ay (nu (jtm pU (a9 2) A5) (ji (E9 (jc HG hr (a8 (a9 3) (a8 (a9 2) d3))))))) (d6 (d9 A5)) g9) (d6 (d9 (j5 (a8 (a9 2) (a8 (a9 3) d3))))))))),?_⟩
 walk_at "sim"
 refine U9.by (fun i e M'=>M'=M∧∃(st:Option (Rat × Rat)) (z4 z5 z6 z7 z8 z9:Option D),e=[some (D.vl (Nh g5 ls)),some (d7 g),some (rj (st.map (·.1))),some (rj (st.map (·.2))),z4,z5,z6,z7,z8,z9]∧A8 g (ls.drop i) st=A8 g ls none∧∀ a b,st=some (a,b)→sz a≤4100∧sz b≤4100) ⟨rfl,none,_,_,_,_,_,_,rfl,rfl,fun a b h=>nomatch h⟩ (fun i e M' _ _=>by simp only[h9]) ?_ ?_
 ·rintro i dd e M' hd ⟨rfl,st,z4,z5,z6,z7,z8,z9,rfl,hc,hs⟩
  obtain⟨l,hli,rfl⟩:=gr hd
  have hm:=Kd hli
  have hle:=hz l hm
  obtain⟨q1,q2,q3⟩:=hz l hm
  have hi:=(JV.mp hli).1
  have hdrop:ls.drop i=l :: ls.drop (i+1):=by
   rw[MF hi,(JV.mp hli).2]
  rw[hdrop]at hc
  rw[O6]at hc
  have m0:=RM.F7 l.1 g
  have m1:=J2 (l.1*g)
  walk_at "sim"
  refine⟨fun hq0=>?_,fun hq0=>?_⟩
  ·rw[if_pos hq0]at hc
   refine⟨by omega,by omega,fun h=>?_,fun h=>?_⟩
   ·rw[if_pos h]at hc
    rw[← hc]at k
    exact k
   ·rw[if_neg h]at hc
    exact⟨st,_,_,_,_,_,_,rfl,hc,hs⟩
  ·rw[if_neg hq0]at hc
   refine⟨⟨hle,hq0,hg⟩,?_⟩
   have m2:=RM.aL (l.1*g) l.2.1 hq0
   have m3:=RM.D9 (l.1*g / l.2.1)
   have m4:=RM.aL l.2.2 l.2.1 hq0
   have m5:=J2 (l.2.2 / l.2.1)
   have m6:sz (F9 l g - B1 l)≤4100:=by
    have:=RM.W0 (F9 l g) (B1 l)
    unfold F9 B1 at *
    omega
   have m7:sz (F9 l g+B1 l)≤4100:=by
    have:=RM.W1 (F9 l g) (B1 l)
    unfold F9 B1 at *
    omega
   generalize F9 l g - B1 l=lo at *
   generalize F9 l g+B1 l=up at *
   rcases st with _|⟨a,b⟩
   ·simp only[Om,rj,FK]
    walk_at "sim"
    exact⟨some (lo,up),_,_,_,_,_,_,rfl,hc,fun a b e=>by cases e;exact⟨m6,m7⟩⟩
   ·obtain⟨ha,hb⟩:=hs a b rfl
    replace hc:A8 g (ls.drop (i+1)) (some (if a<lo then lo else a,if up<b then up else b))=A8 g ls none:=hc
    simp only[Oo,rj,FJ]
    walk_at "sim"
    refine⟨by omega,fun h1=>?_,fun h1=>?_⟩
    ·rw[if_pos h1]at hc
     refine⟨by omega,fun h2=>?_,fun h2=>?_⟩
     ·rw[if_pos h2]at hc
      exact⟨some (lo,up),_,_,_,_,_,_,rfl,hc,fun a b e=>by cases e;exact⟨m6,m7⟩⟩
     ·rw[if_neg h2]at hc
      exact⟨some (lo,b),_,_,_,_,_,_,rfl,hc,fun a b e=>by cases e;exact⟨m6,hb⟩⟩
    ·rw[if_neg h1]at hc
     refine⟨by omega,fun h2=>?_,fun h2=>?_⟩
     ·rw[if_pos h2]at hc
      exact⟨some (a,up),_,_,_,_,_,_,rfl,hc,fun a b e=>by cases e;exact⟨ha,m7⟩⟩
     ·rw[if_neg h2]at hc
      exact⟨some (a,b),_,_,_,_,_,_,rfl,hc,fun a b e=>by cases e;exact⟨ha,hb⟩⟩
 ·rw[JD]
  rintro e M' ⟨rfl,st,z4,z5,z6,z7,z8,z9,rfl,hc,hs⟩
  rw[List.drop_length,rV]at hc
  rw[← hc]at k
  rcases st with _|⟨a,b⟩
  ·simp only[Om,rj]
   walk_at "sim"
   simp only[FK]
   walk_at "sim"
   exact k
  ·obtain⟨ha,hb⟩:=hs a b rfl
   simp only[Oo,rj]
   walk_at "sim"
   simp only[FJ]
   walk_at "sim"
   replace k:R (if b<a then D.non else D.tup [d7 a,d7 b]) M':=k
   refine⟨by omega,fun h=>?_,fun h=>?_⟩
   ·rw[if_pos h]at k;exact k
   ·rw[if_neg h]at k;exact k
theorem iS(T:Txt K mg)(d:Df K mg "seen_from" P7 ["bench","x"])(HB:Fn P w K mg base "lines_of" 44 ["bench"] L7)(HK:Fn P w K mg base "plus" 41 ["one","other"] aN)(Hx:Fn P w K mg base "times" 41 ["one","other"] B3):Fn P w K mg base "seen_from" 45 ["bench","x"] pG:=by
 have sc:=gW
 walk_at "fn"
 obtain⟨x0,bs,x,rfl,hx0,⟨hl,hok,hx⟩,k⟩:=h
 have hll:=aw bs bs.length
 have hz:=qb hl hok bs.length
 rcases hx0 with rfl|rfl
 all_goals
  refine⟨_,(d6 (d9 (J5 [1] ["p","q","r"] ["x"] rfl (by decide +kernel) rfl (by decide +kernel) (by decide +kernel) rfl (fq ⟨rfl,rfl⟩) (fq (Or.inl rfl)) (t5 (jc HB hr (a8 (a9 0) d3))) (fun _ _ _ _ _ _=>(p8 (n:=3) rfl (e6 (jn 0 (show(["p","q","r","x"]:List Str).Nodup by decide +kernel)) (e6 (jn 1 (show(["p","q","r","x"]:List Str).Nodup by decide +kernel)) (e6 (jn 2 (show(["p","q","r","x"]:List Str).Nodup by decide +kernel)) m9))))) (fun _ _ _ _ _ _=>v6) (fun _ _ _ _ _ _=>(j5 (a8 (a9 0) (a8 (jc HK hr (a8 (jc Hx hr (a8 (a9 0) (a8 (a9 3) d3))) (a8 (a9 1) d3))) (a8 (a9 2) d3)))))))),?_⟩
  walk_at "sim"
  refine⟨⟨hl,hok⟩,A3 (fun l=>g5 (l.1,l.1*x+l.2.1,l.2.2)) (by omega) (by simp only[h9]) (fun l hl Q hQ=>?_) k⟩
  obtain⟨z1,z2,z3⟩:=hz l hl
  have m:=RM.F7 l.1 x
  walk_at "sim"
  exact⟨by omega,by omega,hQ⟩
theorem vy(T:Txt K mg)(d:Df K mg "field" ir ["bench","x"])(HS:Fn P w K mg base "rising_once" 2 ["ratios"] iA)(Iz:Fn P w K mg base "slopes" 44 ["lines","h"] dJ)(HF:Fn P w K mg base "corners" 42 ["lines"] kI)(Ih:Fn P w K mg base "seen_from" 45 ["bench","x"] pG):Fn P w K mg base "field" 46 ["bench","x"] dO:=by
 have sc:=uB
 walk_at "fn"
 obtain⟨x0,bs,x,rfl,hx0,⟨hl,hok,hx⟩,k⟩:=h
 have hso:=Z0 hl hok hx
 have hls:=pD hl hok hx
 have es:(A9 bs bs.length).map (fun l=>g5 (l.1,l.1*x+l.2.1,l.2.2))=(p6 bs x).map g5:=by unfold p6;rw[Lf];rfl
 rcases hx0 with rfl|rfl
 all_goals
  refine⟨_,(d5 (jst 2 sc.nd (jc Ih hr (a8 (a9 0) (a8 (a9 1) d3)))) (d5 (jst 3 sc.nd (jc HF hr (a8 (a9 2) d3))) (d5 (j0 (jtm rE (a9 3) A5) (d6 (d9 (bb A5))) g9) (d5 (jst 4 sc.nd (eG d3)) (d5 (u9 PassesOwn.never rfl (t5 (jc HS hr (a8 (J5 [] ["ray"] [] rfl (by decide +kernel) rfl (by decide +kernel) (by decide +kernel) rfl Y3 Y3 (t5 (a9 3)) (fun _ _ _ _ _ _=>(jn 0 (show(["ray"]:List Str).Nodup by decide +kernel))) (fun _ _ _ _ _ _=>v6) (fun _ _ _ _ _ _=>(jx (a9 0) d4))) d3))) (jn 5 sc.nd) (d5 (A7 (jc Iz hr (a8 (a9 2) (a8 (a9 5) d3))) (p8 (n:=2) rfl (e6 (jn 6 sc.nd) (e6 (jn 7 sc.nd) m9)))) (d6 (R4 (lD PySem.F.slot_list_append PySem.F.type_list_append M9 (a9 4) (a8 (j5 (a8 (a9 5) (a8 (a9 6) (a8 (a9 7) d3)))) d3)))))) (d6 (d9 (bb (a9 4))))))))),?_⟩
  walk_at "sim"
  rw[es]
  refine⟨⟨hl,hok,hx⟩,?_⟩
  walk_at "sim"
  refine⟨hls,?_⟩
  generalize p6 bs x=ls at *
  have hlo:∀ l∈ls,LineOk l:=fun l h=>(hso l h).1.toLineOk
  unfold jq at k
  cases ec:v9 ls with
  | none =>
   rw[ec]at k
   show gIs false .non .non _ _
   rw[dh (b:=true) rfl]
   walk_at "sim"
   exact jM (fun _ _ h=>h) k
  | some cs =>
   rw[ec]at k
   show gIs false (.vl (cs.map rD)) .non _ _
   rw[dh (b:=false) rfl]
   walk_at "sim"
   obtain⟨hcl,hcz⟩:=wF hlo (fun l h=>(hso l h).2.2) ec
   have fo:=lI hlo ec
   have h12:=hls.1
   intro p hp
   refine jJ (ds:=cs.map rD) (by show p7 _ (.vl _) _;rw[h9]) ?_
   refine A3 (xs:=cs) (enc:=rD) (fun z=>d7 z.1) (by omega) (by show p7 _ (.vl _) _;rw[h9]) (fun z hz Q hQ=>?_) ?_
   ·walk_at "sim"
    exact hQ
   ·have em:cs.map (fun z=>d7 z.1)=(cs.map (·.1)).map d7:=by rw[Lf];rfl
    rw[em]
    walk_at "sim"
    refine⟨⟨by rw[JD];omega,fun q hq=>?_⟩,?_⟩
    ·obtain⟨z,hz,rfl⟩:=JK.mp hq
     have:=(hcz z hz).1
     show sz z.1≤2402
     omega
    ·walk_at "sim"
     unfold Q9 at k
     have hhz:∀ h∈C6 (cs.map (·.1)),sz h≤1177:=fun h hh=>by
      obtain⟨z,hz,rfl⟩:=(fo.mem h).mp hh
      exact(hcz z hz).1
     have hhl:(C6 (cs.map (·.1))).length≤100:=by
      have:=dR (cs.map (·.1))
      rw[JD]at this
      omega
     have hcone:=fo.cone
     obtain⟨hs,ehs⟩:∃ hs,hs=C6 (cs.map (·.1)):=⟨_,rfl⟩
     have k:∀ p,M p=none→R (.ref p) (B8 M p (.lst ((hs.map fun h=>(h,S0 ls h)).map g5))):=by rw[ehs];exact k
     rw[← ehs]at hhz hhl hcone ⊢
     refine U9.by (fun i e M'=>M'=B8 M p (.lst (((hs.take i).map fun h=>(h,S0 ls h)).map g5))∧∃ z0 z3 z5 z6 z7:Option D,e=[z0,some (d7 x),some (.vl (ls.map g5)),z3,some (.ref p),z5,z6,z7]) ⟨rfl,_,_,_,_,_,rfl⟩ (fun i e M' _ _=>by simp only[h9]) ?_ ?_
     ·rintro i dd e M' hd ⟨rfl,z0,z3,z5,z6,z7,rfl⟩
      rw[Ki]at hd
      cases hq:hs[i]? with
      | none=>rw[hq]at hd;cases hd
      | some g =>
       rw[hq]at hd
       obtain rfl:=Option.some.inj hd
       have hgm:=Kd hq
       obtain⟨lo,hi,ca⟩:=hcone g hgm
       have hgz:=hhz g hgm
       have hi1:=(JV.mp hq).1
       walk_at "sim"
       refine⟨⟨h12,fun l hl=>(hso l hl).2.1,by omega⟩,?_⟩
       rw[ca.d]
       walk_at "sim"
       refine eU g7 (eX g7 (by rw[JD,JD,JX];omega) ⟨?_,_,_,_,_,_,rfl⟩)
       rw[P4,Ln,hq,Kp,Kp]
       have ep:S0 ls g=(lo,hi):=R9 ca
       show B8 M p (.lst (_++[g5 (g,lo,hi)]))=B8 M p (.lst (_++[g5 (g,S0 ls g)]))
       rw[ep]
     ·rintro e M' ⟨rfl,z0,z3,z5,z6,z7,rfl⟩
      walk_at "sim"
      rw[JD,La]
      exact jM (fun _ _ h=>h) (k p hp)
theorem jb(T:Txt K mg)(d:Df K mg "_law_good" Q5 ["bench","handed","planes","more"])(HY:Fn P w K mg base "_law_under" 1 ["one","other"] mT)(IA:Fn P w K mg base "area" 44 ["rays"] uL)(HF:Fn P w K mg base "corners" 42 ["lines"] kI)(HB:Fn P w K mg base "lines_of" 44 ["bench"] L7)(HA:Fn P w K mg base "_law_by" 41 ["one","other"] B3)(HU:Fn P w K mg base "_law_halved" 42 ["part"] iG)(Ii:Fn P w K mg base "_law_even" 42 ["rows"] uK)(Iu:Fn P w K mg base "area" 44 ["rays"] mV)(IH:Fn P w K mg base "field" 46 ["bench","x"] dO):Fn P w K mg base "_law_good" 47 ["bench","handed","planes","more"] iH:=by
 have sc:=ib
 walk_at "fn"
 obtain⟨bs,more,hd,x1,x2,rfl,hG,k⟩:=h
 refine⟨_,(d5 (jst 4 sc.nd (jc HF hr (a8 (jc HB hr (a8 (a9 1) d3)) d3))) (d5 (D5 (i:=5) [1] ["x"] ["handed"] sc.nd rfl (Or.inl rfl) rfl (by decide +kernel) rfl (by decide +kernel) (by decide +kernel) rfl (fq ⟨rfl,rfl⟩) (fq (Or.inl rfl)) (t5 (a9 2)) (fun _ _ _ _ _ _=>(jn 0 (show(["x","handed"]:List Str).Nodup by decide +kernel))) (fun _ _ _ _ _ _=>v6) (fun _ _ _ _ _ _=>(zx (jc IH hr (a8 (a9 1) (a8 (a9 0) d3)))))) (d5 (j0 (ay (eF (jtm rE (a9 4) A5) (aZ (jtm (Fz hu) A5 (a9 5))))) (d6 (d9 (qj (jm rE (a9 4) A5) (qh (jm (Bc hu) (a9 5) (D6 (a8 A5 (a8 A5 d3)))))))) g9) (d5 (jst 6 sc.nd (jc Iu hr (a8 (qo wN rfl T.b_tuple me (a8 (a9 4) d3)) d3))) (d5 (j0 (ay (eF (jtm (lh hu) (jc IA hr (a8 (a9 4) d3)) (a9 6)) (aZ (jtm (lh hu) (lE rfl T.b_list qK (a8 (a9 1) d3)) (a9 0))))) (d6 (d9 lF)) g9) (d5 (u9 PassesOwn.never rfl (t5 (a9 5)) (jn 7 sc.nd) (d6 (j0 (jtm (lh hu) (jc Ii hr (a8 (a9 7) d3)) (a9 6)) (d6 (d9 lF)) g9))) (d5 (jst 8 sc.nd (jc IA hr (a8 (jc HF hr (a8 (jc HB hr (a8 (J5 [] ["part"] [] rfl (by decide +kernel) rfl (by decide +kernel) (by decide +kernel) rfl Y3 Y3 (t5 (a9 0)) (fun _ _ _ _ _ _=>(jn 0 (show(["part"]:List Str).Nodup by decide +kernel))) (fun _ _ _ _ _ _=>v6) (fun _ _ _ _ _ _=>(jc HU hr (a8 (a9 0) d3)))) d3)) d3)) d3))) (d5 (j0 (jtm (lh hu) (jc HA hr (a8 (a9 8) (a8 (j5 (a8 d4 (a8 d4 d3))) d3))) (a9 6)) (d6 (d9 lF)) g9) (d6 (d9 (qi (jc HY hr (a8 (a9 6) (a8 (jc IA hr (a8 (jc HF hr (a8 (jc HB hr (a8 (a9 3) d3)) d3)) d3)) d3)))))))))))))),?_⟩
 walk_at "sim"
 have hl12:bs.length≤12:=JR hG.len (by decide)
 have hok:∀ x∈bs,t6 x:=fun x hx=>(hG.ok x hx).ok
 have B:=nk hl12 hok
 have lin:∀(M:Mem) (R':DK),R' (.vl ((A9 bs bs.length).map g5)) M→L7 [hd] M R' Y0:=fun M R' h=>by
  rcases hG.hd with e|e
  ·rw[e,V6];exact⟨⟨hl12,hok⟩,h⟩
  ·rw[e,N1];exact⟨⟨hl12,hok⟩,h⟩
 have fld:∀(x:Rat) (M:Mem) (Q:DK),sz x≤40→Q (K2 (p6 bs x)) M→dO [hd,d7 x] M (fun x M1=>qN x M1 Q) Y0:=fun x M Q hx h=>by
  have go:jq (p6 bs x) M (fun x M1=>qN x M1 Q):=by
   unfold jq
   unfold K2 at h
   cases e:v9 (p6 bs x)with
   | none=>rw[e]at h;exact .inr h
   | some cs=>rw[e]at h;exact fun p hp=>.inl ⟨p,_,rfl,g7,by rw[aD hp];exact h⟩
  rcases hG.hd with e|e
  ·rw[e,cM];exact⟨⟨hl12,hok,by omega⟩,go⟩
  ·rw[e,V7];exact⟨⟨hl12,hok,by omega⟩,go⟩
 have lst:∀(M:Mem) (Q:DK),Q (.vl (bs.map f9)) M→eI [hd] M Q:=fun M Q h=>by
  rcases hG.hd with e|e
  ·rw[e,aJ];exact h
  ·rw[e,dg];exact h
 refine lin M _ ?_
 walk_at "sim"
 refine⟨B.lsk,?_⟩
 refine A3 (xs:=[x1,x2]) (enc:=d7) (fun x=>K2 (p6 bs x)) (by show 2≤1000;decide) (by simp only[h9]) (fun x hx Q hQ=>?_) ?_
 ·walk_at "sim"
  refine fld x M Q ?_ hQ
  rcases JJ.mp hx with rfl|hx
  ·exact hG.x1
  ·rw[Kl.mp hx];exact hG.x2
 have s1:=kv B.ok x1
 have s2:=kv B.ok x2
 have e1:(A9 bs bs.length).map (fun l=>(l.1,l.1*x1+l.2.1,l.2.2))=p6 bs x1:=rfl
 have e2:(A9 bs bs.length).map (fun l=>(l.1,l.1*x2+l.2.1,l.2.2))=p6 bs x2:=rfl
 rw[e1]at s1
 rw[e2]at s2
 show gIs _ _ _ _ _
 have em:[x1,x2].map (fun x=>K2 (p6 bs x))=[K2 (p6 bs x1),K2 (p6 bs x2)]:=rfl
 rw[em]
 rcases ec:v9 (A9 bs bs.length)with _|cs
 ·have r1:K2 (p6 bs x1) = .non:=by
   rcases s1 with⟨_,h⟩|⟨_,_,h,_⟩
   ·unfold K2;rw[h]
   ·rw[ec]at h;cases h
  have r2:K2 (p6 bs x2) = .non:=by
   rcases s2 with⟨_,h⟩|⟨_,_,h,_⟩
   ·unfold K2;rw[h]
   ·rw[ec]at h;cases h
  rw[r1,r2]
  show gIs false .non .non _ _
  rw[dh (b:=true) rfl]
  walk_at "sim"
  show gIs false .non .non _ _
  rw[dh (b:=true) rfl]
  walk_at "sim"
  exact k
 ·obtain⟨d1,f1,a1⟩:∃ ds,v9 (p6 bs x1)=some ds∧a2 ds=a2 cs:=by
   rcases s1 with⟨h,_⟩|⟨c',ds,h,h2,h3⟩
   ·rw[ec]at h;cases h
   ·rw[ec]at h;cases h;exact⟨ds,h2,h3⟩
  obtain⟨d2,f2,a2'⟩:∃ ds,v9 (p6 bs x2)=some ds∧a2 ds=a2 cs:=by
   rcases s2 with⟨h,_⟩|⟨c',ds,h,h2,h3⟩
   ·rw[ec]at h;cases h
   ·rw[ec]at h;cases h;exact⟨ds,h2,h3⟩
  have r1:K2 (p6 bs x1) = .vl ((Q9 (p6 bs x1) d1).map g5):=by unfold K2;rw[f1]
  have r2:K2 (p6 bs x2) = .vl ((Q9 (p6 bs x2) d2).map g5):=by unfold K2;rw[f2]
  have hx1:=hG.x1
  have hx2:=hG.x2
  have g1:=gk hl12 hok (by omega) f1 a1
  have g2:=gk hl12 hok (by omega) f2 a2'
  rw[r1,r2]
  have clr:∀ rs:List T3,clL 58 (rs.map g5)=true:=fun rs=>nJ fun d hd=>by
   obtain⟨y,_,rfl⟩:=JK.mp hd
   rfl
  have hcb:clL 59 (Nh f9 bs)=true:=nJ fun x hx=>by
   obtain⟨y,hy,rfl⟩:=JK.mp hx
   exact yS (hok y hy)
  show gIs false (.vl (cs.map rD)) .non _ _
  rw[dh (b:=false) rfl]
  walk_at "sim"
  obtain⟨q1,q2,q3⟩:=B.bd cs ec
  have q3':∀ z∈cs,sz z.1≤1200∧sz z.2≤1200:=fun z hz=>⟨JR (q3 z hz).1 (by decide),JR (q3 z hz).2 (by decide)⟩
  have Q3:cs.length≤60∧2≤cs.length∧∀ z∈cs,sz z.1≤1200∧sz z.2≤1200:=⟨by omega,q2,q3'⟩
  have oc:yV (some cs) = .vl (cs.map rD):=rfl
  refine⟨by rw[clr,clr];rfl,fun z=>absurd z (by simp),fun _=>?_⟩
  rw[oc]
  walk_at "sim"
  refine⟨Q3,Q3,lst _ _ ?_⟩
  walk_at "sim"
  refine⟨hcb,hcb,?_⟩
  refine U9.by (fun i e M'=>M'=M∧∃ z7:Option D,e=[some (D.vl (Nh f9 bs)),some hd,some (D.vl [d7 x1,d7 x2]),some (D.vl (Nh f9 more)),some (D.vl (Nh rD cs)),some (D.vl [D.vl (Nh g5 (Q9 (p6 bs x1) d1)),D.vl (Nh g5 (Q9 (p6 bs x2) d2))]),some (d7 (a2 cs*(1 / 2))),z7,none]) ⟨rfl,_,rfl⟩ (fun i e M' _ h=>by simp only[h9]) ?_ ?_
  ·rintro i dd e M' hdd ⟨rfl,z7,rfl⟩
   have hm:=Kd hdd
   have hr:∃ rs:List T3,dd = .vl (rs.map g5)∧rs.length≤60∧(∀ r∈rs,sz r.1≤1200∧sz r.2.1≤2900∧sz r.2.2≤2900)∧evT rs=a2 cs*(1 / 2):=by
    rcases JJ.mp hm with rfl|hm
    ·exact⟨_,rfl,g1⟩
    ·rw[Kl.mp hm];exact⟨_,rfl,g2⟩
   obtain⟨rs,rfl,h1,h2,h3⟩:=hr
   walk_at "sim"
   exact⟨⟨h1,h2⟩,fun z=>absurd h3 z,fun _=>⟨_,rfl⟩⟩
  ·rintro e M' ⟨rfl,z7,rfl⟩
   walk_at "sim"
   have hokH:∀ x∈bs.map J8,t6 x:=fun x hx=>by
    obtain⟨y,hy,rfl⟩:=JK.mp hx
    exact Dz (hG.ok y hy)
   have hlH:(bs.map J8).length≤12:=by rw[JD];exact hl12
   have BH:=nk hlH hokH
   have eH:A9 (bs.map J8) (bs.map J8).length=(A9 bs bs.length).map fun l=>(l.1,l.2.1,l.2.2*(1 / 2)):=by rw[JD];exact zG hok bs.length
   obtain⟨hs,fh,ah⟩:=vU B.ok ec
   rw[← eH]at fh
   obtain⟨w1,w2,w3⟩:=BH.bd hs fh
   have W3:hs.length≤60∧2≤hs.length∧∀ z∈hs,sz z.1≤1200∧sz z.2≤1200:=⟨by omega,w2,fun z hz=>⟨JR (w3 z hz).1 (by decide),JR (w3 z hz).2 (by decide)⟩⟩
   refine A3 (xs:=bs) (enc:=f9) (fun x=>f9 (J8 x)) (by omega) (by simp only[h9]) (fun x hx Q hQ=>?_) ?_
   ·walk_at "sim"
    exact⟨hG.ok x hx,hQ⟩
   have eb:bs.map (fun x=>f9 (J8 x))=(bs.map J8).map f9:=by rw[Lf];rfl
   rw[eb]
   walk_at "sim"
   refine⟨⟨hlH,hokH⟩,BH.lsk,?_⟩
   rw[fh]
   have oh:yV (some hs) = .vl (hs.map rD):=rfl
   rw[oh]
   walk_at "sim"
   have zs:=wU W3
   have zc:=wU Q3
   have z4:sz 4≤3:=by decide
   refine⟨W3,by omega,fun z=>absurd (by grind) z,fun _=>?_⟩
   obtain⟨kk,st,hk,hst,hs40,rfl⟩:=hG.more
   have hmok:∀ x∈bs.take kk++[st]++bs.drop kk,t6 x:=fun x hx=>by
    rcases Kf.mp hx with hx|hx
    ·rcases Kf.mp hx with hx|hx
     ·exact hok x (Kx hx)
     ·rw[Kl.mp hx];exact hs40.ok
    ·exact hok x (Lj hx)
   have hml:(bs.take kk++[st]++bs.drop kk).length≤12:=by
    have:=hG.len
    rw[JQ,JQ,JX,Kr,KQ];omega
   have BM:=nk hml hmok
   have sub:∀ l∈A9 bs bs.length,l∈A9 (bs.take kk++[st]++bs.drop kk) (bs.take kk++[st]++bs.drop kk).length:=fun l h=>vH hst hk h
   generalize bs.take kk++[st]++bs.drop kk=more at *
   obtain⟨ms,fm⟩:=wH BM.ok sub (R8 B.ok ec).2
   obtain⟨m1,m2,m3⟩:=BM.bd ms fm
   have M3:ms.length≤60∧2≤ms.length∧∀ z∈ms,sz z.1≤1200∧sz z.2≤1200:=⟨by omega,m2,fun z hz=>⟨JR (m3 z hz).1 (by decide),JR (m3 z hz).2 (by decide)⟩⟩
   have zm:=wU M3
   have le:a2 ms≤a2 cs:=DO B.ok BM.ok (fun y u h=>(F3 _ _ _).mpr fun l hl=>(F3 _ _ _).mp h l (sub l hl)) ec fm
   refine⟨⟨hml,hmok⟩,BM.lsk,?_⟩
   rw[fm]
   have om:yV (some ms) = .vl (ms.map rD):=rfl
   rw[om]
   walk_at "sim"
   refine⟨M3,by omega,?_⟩
   have:¬ a2 cs*(1 / 2)<a2 ms*(1 / 2):=by grind
   rw[decide_eq_false this]
   exact k
theorem ja(T:Txt K mg)(d:Df K mg "_law_next" Q4 ["pool","base"]):Fn P w K mg base "_law_next" 1 ["pool","base"] W2:=by
 have sc:=ia
 refine i4 d sc (fun ds M R Y h=>?_) (fun f cdv A outer s H E ds M R Y hr h=>?_)
 ·obtain⟨p,b,rfl,_⟩:=h;rfl
 ·obtain⟨p,b,rfl,⟨x,y,z,hM⟩,hb,hl,k⟩:=h
  refine⟨_,(d5 (j0 (jtm rF (jx (a9 0) d4) d4) (d5 (jst 2 sc.nd (f6 bG (jx (a9 0) d4) (a9 1))) (d5 (A7 (f6 aV (jx (a9 0) d4) (a9 1)) (qg (a9 0) d4)) (d6 (d9 (a9 2))))) g9) (d5 (A7 (f6 R3 (jx (a9 0) d4) d4) (qg (a9 0) d4)) (d5 (jst 3 sc.nd (f6 bG (f6 R3 (jx (a9 0) d4) (f6 o8 d4 (jx (a9 0) d4))) d4)) (d5 (jst 4 sc.nd (f6 bG (f6 o8 (f6 R3 (a9 3) d4) (f6 R3 (a9 3) d4)) d4)) (d6 (d9 (f6 bG (f6 aV (f6 bG (f6 o8 (a9 4) (a9 4)) d4) d4) (a9 1)))))))),?_⟩
  refine⟨_,rfl,_,K6 hM rfl,_,rfl,_,rfl,?_⟩
  refine Hg (fun h0=>?_) (fun h0=>?_)
  ·refine⟨_,rfl,_,K6 hM rfl,_,rfl,_,_,rfl,rfl,hb,?_⟩
   refine⟨_,rfl,_,K6 hM rfl,_,rfl,_,_,rfl,rfl,⟨by omega,hl⟩,_,rfl,_,_,_,_,rfl,rfl,hM,rfl,?_⟩
   exact⟨_,rfl,k _ _ (Mu _ (by omega)) (LQ _ hb) (C2.upd _ _ _)⟩
  ·refine⟨_,rfl,_,K6 hM rfl,_,rfl,_,rfl,_,_,_,_,rfl,rfl,hM,rfl,?_⟩
   refine⟨_,rfl,_,K6 g7 rfl,_,rfl,_,K6 g7 rfl,_,_,rfl,rfl,Di (by decide) (by decide),_,rfl,_,_,rfl,rfl,(by show(0:Int)<1000000007;decide),?_⟩
   refine⟨_,rfl,_,rfl,_,rfl,_,rfl,_,_,rfl,rfl,Hb (by decide) (by decide) (by decide) (by decide),_,_,rfl,rfl,(by show(0:Int)<998244353;decide),?_⟩
   refine⟨_,rfl,_,rfl,_,_,rfl,rfl,FD (by decide) (by decide),_,_,rfl,rfl,(by show(0:Int)<2147483647;decide),_,_,rfl,rfl,Hn,_,rfl,_,_,rfl,rfl,hb,?_⟩
   exact k _ _ (Mu _ (by omega)) (LQ _ hb) (C2.upd _ _ _)
theorem dZ(T:Txt K mg)(d:Df K mg "_law_number" L3 ["pool"])(Hv:Fn P w K mg base "_law_ratio" 40 ["top","bottom"] O8)(Hu:Fn P w K mg base "_law_next" 1 ["pool","base"] W2):Fn P w K mg base "_law_number" 41 ["pool"] dN:=by
 have sc:=dE
 walk_at "fn"
 obtain⟨p,rfl,hp,k⟩:=h
 refine⟨_,(d5 (jst 1 sc.nd (jc Hu hr (a8 (a9 0) (a8 d4 d3)))) (d5 (j0 (jtm lj (a9 1) d4) (d6 (d9 (j5 (a8 (f6 L8 (jc Hu hr (a8 (a9 0) (a8 d4 d3))) d4) (a8 d4 d3))))) g9) (d5 (j0 (jtm lj (a9 1) d4) (d6 (d9 (jc Hv hr (a8 (f6 L8 (jc Hu hr (a8 (a9 0) (a8 d4 d3))) d4) (a8 (f6 R3 d4 (jc Hu hr (a8 (a9 0) (a8 d4 d3)))) d3))))) g9) (d5 (jst 2 sc.nd (f6 L8 (jc Hu hr (a8 (a9 0) (a8 (f6 lb d4 d4) d3))) (jc Hu hr (a8 (a9 0) (a8 (f6 lb d4 d4) d3))))) (d6 (d9 (jc Hv hr (a8 (a9 2) (a8 (f6 R3 d4 (jc Hu hr (a8 (a9 0) (a8 (f6 lb d4 d4) d3)))) d3))))))))),?_⟩
 walk_at "sim"
 have e12:(10:Int) ^ Int.toNat 12=1000000000000:=by decide
 have e9:(10:Int) ^ Int.toNat 9=1000000000:=by decide
 have cp9:xi 10 9:=⟨by decide,by decide,by decide⟩
 have lg:∀{b:Int},b.natAbs<2 ^ 41→b.natAbs.log2<9000:=fun{b} hb=>X5 (JN hb (Kw (by decide) (by decide))) (by decide)
 rw[e12,e9]
 refine⟨hp,by decide,fun r M1 r0 r1 s1=>⟨fun h1=>⟨s1.pool,by decide,fun t M2 t0 t1 s2=>?_⟩,fun h1=>⟨fun h2=>⟨s1.pool,by decide,fun t M2 t0 t1 s2=>⟨s2.pool,by decide,fun v M3 v0 v1 s3=>⟨by omega,k _ _ (eC (by decide) (by omega) (by omega) (by omega)) (s1.trans (s2.trans s3))⟩⟩⟩,fun h2=>⟨Gq,s1.pool,by decide,lg (by decide),fun t M2 t0 t1 s2=>⟨Gq,s2.pool,by decide,lg (by decide),fun v M3 v0 v1 s3=>⟨cp9,s3.pool,by decide,lg (by decide),fun c M4 c0 c1 s4=>⟨by omega,k _ _ (eC (by decide) (by omega) (by omega) (by omega)) (s1.trans (s2.trans (s3.trans s4)))⟩⟩⟩⟩⟩⟩⟩
 have e:=k ((t - 3:Int):Rat) M2 (Cg (by decide) (by omega)) (s1.trans s2)
 rw[uR]at e
 exact e
theorem bO(T:Txt K mg)(d:Df K mg "_law_part" K1 ["pool","words"])(Hw:Fn P w K mg base "_law_number" 41 ["pool"] dN)(Hu:Fn P w K mg base "_law_next" 1 ["pool","base"] W2):Fn P w K mg base "_law_part" 42 ["pool","words"] dM:=by
 have sc:=Z2
 walk_at "fn"
 obtain⟨p,rfl,hp,k⟩:=h
 refine⟨_,(d5 (jst 2 sc.nd (jx (a9 1) (jc Hu hr (a8 (a9 0) (a8 (v7 gD rfl T.b_len bo (a8 (a9 1) d3)) d3))))) (d5 (A7 (jc Hw hr (a8 (a9 0) d3)) (p8 (n:=2) rfl (e6 (jn 3 sc.nd) (e6 (jn 4 sc.nd) m9)))) (d5 (j0 (jtm ey (a9 2) C9) (d6 (d9 (j5 (a8 (a9 2) (a8 (j5 (a8 (v7 bK rfl T.b_abs S2 (a8 (a9 3) d3)) (a8 (a9 4) d3))) d3))))) g9) (d5 (j0 (jtm ey (a9 2) C9) (d6 (d9 (j5 (a8 (a9 2) (a8 (j5 (a8 (v7 (wO rfl) rfl T.b_max nN (a8 d4 (a8 (v7 bK rfl T.b_abs S2 (a8 (a9 3) d3)) d3))) (a8 (a9 4) d3))) d3))))) g9) (d6 (d9 (j5 (a8 (a9 2) (a8 (j5 (a8 (a9 3) (a8 (a9 4) d3))) d3))))))))),?_⟩
 walk_at "sim"
 refine⟨hp,by decide,by decide,fun r M1 r0 r1 s1=>jo r0 (by show r<1;exact r1) fun d hd=>?_⟩
 obtain rfl:d = .str "stop" := by simpa only [JJ,Ks,or_false]using hd
 refine⟨s1.pool,fun q M2 hq s2=>?_⟩
 have st:=s1.trans s2
 walk_at "sim"
 refine⟨fun z=>absurd z (by decide),fun _=>?_⟩
 by_cases h0:q=0
 ·subst h0
  exact k ("stop",1) M2 ⟨⟨⟨.inr (.inr ⟨rfl,by decide⟩),by show sz 1≤41;rw[RM.dm];decide⟩,by show sz 1≤40;rw[RM.dm];decide⟩,rfl⟩ st
 ·have hn:q.num≠0:=fun z=>h0 (Ms.mp z)
  rw[show max 1 (q.num.natAbs:Int)=(q.num.natAbs:Int)by omega,uT]
  exact k ("stop",u7 q) M2 ⟨⟨⟨.inr (.inr ⟨rfl,jI h0⟩),by show sz (u7 q)≤41;rw[J2];omega⟩,by show sz (u7 q)≤40;rw[J2];exact hq⟩,rfl⟩ st
theorem iZ(T:Txt K mg)(d:Df K mg "_law_part" K1 ["pool","words"])(Hw:Fn P w K mg base "_law_number" 41 ["pool"] dN)(Hu:Fn P w K mg base "_law_next" 1 ["pool","base"] W2):Fn P w K mg base "_law_part" 42 ["pool","words"] iB:=by
 have sc:=Z2
 walk_at "fn"
 obtain⟨p,rfl,hp,k⟩:=h
 refine⟨_,(d5 (jst 2 sc.nd (jx (a9 1) (jc Hu hr (a8 (a9 0) (a8 (v7 gD rfl T.b_len bo (a8 (a9 1) d3)) d3))))) (d5 (A7 (jc Hw hr (a8 (a9 0) d3)) (p8 (n:=2) rfl (e6 (jn 3 sc.nd) (e6 (jn 4 sc.nd) m9)))) (d5 (j0 (jtm ey (a9 2) C9) (d6 (d9 (j5 (a8 (a9 2) (a8 (j5 (a8 (v7 bK rfl T.b_abs S2 (a8 (a9 3) d3)) (a8 (a9 4) d3))) d3))))) g9) (d5 (j0 (jtm ey (a9 2) C9) (d6 (d9 (j5 (a8 (a9 2) (a8 (j5 (a8 (v7 (wO rfl) rfl T.b_max nN (a8 d4 (a8 (v7 bK rfl T.b_abs S2 (a8 (a9 3) d3)) d3))) (a8 (a9 4) d3))) d3))))) g9) (d6 (d9 (j5 (a8 (a9 2) (a8 (j5 (a8 (a9 3) (a8 (a9 4) d3))) d3))))))))),?_⟩
 walk_at "sim"
 refine⟨hp,by decide,by decide,fun r M1 r0 r1 s1=>jo r0 (by show r<6;exact r1) fun d hd=>?_⟩
 have hd':d = .str "gap" ∨ d = .str "glass" ∨ d = .str "stop" := by
  simp only[JJ,Ks,or_false]at hd
  rcases hd with h|h|h|h|h|h
  ·exact .inl h
  ·exact .inr (.inl h)
  ·exact .inr (.inr h)
  ·exact .inl h
  ·exact .inr (.inl h)
  ·exact .inr (.inr h)
 refine⟨s1.pool,fun q M2 hq s2=>?_⟩
 have st:=s1.trans s2
 rcases hd' with rfl|rfl|rfl
 ·walk_at "sim"
  exact k ("gap",u7 q) M2 ⟨⟨.inl ⟨rfl,Aa q⟩,by show sz (u7 q)≤41;rw[J2];omega⟩,by show sz (u7 q)≤40;rw[J2];exact hq⟩ st
 ·walk_at "sim"
  exact⟨fun z=>absurd z (by decide),fun _=>⟨fun z=>absurd z (by decide),fun _=>k ("glass",q) M2 ⟨⟨.inr (.inl rfl),by show sz q≤41;omega⟩,hq⟩ st⟩⟩
 ·walk_at "sim"
  refine⟨fun z=>absurd z (by decide),fun _=>?_⟩
  by_cases h0:q=0
  ·subst h0
   exact k ("stop",1) M2 ⟨⟨.inr (.inr ⟨rfl,by decide⟩),by show sz 1≤41;rw[RM.dm];decide⟩,by show sz 1≤40;rw[RM.dm];decide⟩ st
  ·have hn:q.num≠0:=fun z=>h0 (Ms.mp z)
   rw[show max 1 (q.num.natAbs:Int)=(q.num.natAbs:Int)by omega,uT]
   exact k ("stop",u7 q) M2 ⟨⟨.inr (.inr ⟨rfl,jI h0⟩),by show sz (u7 q)≤41;rw[J2];omega⟩,by show sz (u7 q)≤40;rw[J2];exact hq⟩ st
theorem fi(T:Txt K mg)(d:Df K mg "_law_bench" N6 ["pool","count","words"])(Hu:Fn P w K mg base "_law_next" 1 ["pool","base"] W2)(Ij:Fn P w K mg base "_law_part" 42 ["pool","words"] iB):Fn P w K mg base "_law_bench" 43 ["pool","count","words"] dP:=by
 have sc:=fc
 walk_at "fn"
 obtain⟨p,n,rfl,hp,hn,k⟩:=h
 have lg:∀{b:Int},b.natAbs<2 ^ 41→b.natAbs.log2<9000:=fun{b} hb=>X5 (JN hb (Kw (by decide) (by decide))) (by decide)
 refine⟨_,(d6 (d9 (J5 [0,2] ["k"] ["pool","words"] rfl (by decide +kernel) rfl (by decide +kernel) (by decide +kernel) rfl (Gv ⟨rfl,rfl⟩ ⟨rfl,rfl⟩) (Gv (Or.inl rfl) (Or.inl rfl)) (zu rfl T.b_range (a8 (jc Hu hr (a8 (a9 0) (a8 (f6 R3 (a9 1) d4) d3))) d3)) (fun _ _ _ _ _ _=>(jn 0 (show(["k","pool","words"]:List Str).Nodup by decide +kernel))) (fun _ _ _ _ _ _=>v6) (fun _ _ _ _ _ _=>(jc Ij hr (a8 (a9 1) (a8 (a9 2) d3))))))),?_⟩
 walk_at "sim"
 refine⟨hp,by omega,lg (by omega),fun r M1 r0 r1 s1=>⟨by omega,?_⟩⟩
 refine nI f9 S4 (C2 p) r.toNat (E8 _ _) (by omega) (fun _ _=>trivial) (C2.refl s1.pool) (fun d hd M2 s2 Q hQ=>?_) (fun bs M2 hl hok s2=>k bs M2 (by omega) hok (s1.trans s2))
 walk_at "sim"
 exact⟨s2.pool,fun x M' hx s3=>hQ x M' hx (s2.trans s3)⟩
theorem iY(T:Txt K mg)(d:Df K mg "_law_pool" Q2 ["cell"]):Fn P w K mg base "_law_pool" 1 ["cell"] mD:=by
 have sc:=hZ
 refine i4 d sc (fun ds M R Y h=>?_) (fun f cdv A outer s H E ds M R Y hr h=>?_)
 ·obtain⟨c,rfl,_⟩:=h;rfl
 ·obtain⟨c,rfl,k⟩:=h
  refine⟨_,(d6 (d9 (eG (a8 (v7 (wO rfl) rfl T.b_max nN (a8 d4 (a8 (f6 L8 (a9 0) (f6 lb d4 d4)) d3))) (a8 (f6 bG (a9 0) (f6 lb d4 d4)) (a8 d4 d3)))))),?_⟩
  refine⟨_,rfl,_,_,rfl,rfl,Gp,_,rfl,_,_,rfl,_,rfl,_,_,rfl,rfl,Gp,_,_,rfl,rfl,(by show(0:Int)<10 ^ 18;decide),sl 3,fun p hp=>?_⟩
  exact k p _ hp (MK.new hp) ⟨_,_,_,g7⟩
theorem Dd{f:Addr}{fd:FuncData}(T:Txt K mg)(d:Af K "law" uD f fd)(Ik:Fn P w K mg base "_law_good" 47 ["bench","handed","planes","more"] iH)(Hw:Fn P w K mg base "_law_number" 41 ["pool"] dN)(Hu:Fn P w K mg base "_law_next" 1 ["pool","base"] W2)(HP:Fn P w K mg base "_law_part" 42 ["pool","words"] dM)(HZ:Fn P w K mg base "_law_bench" 43 ["pool","count","words"] dP)(Il:Fn P w K mg base "_law_pool" 1 ["cell"] mD):P1 P w K mg base CX0 48 f fd ["script"] (km K pB):=by
 have sc:=Ck
 refine Bg d sc (fun ds M R Y h=>by obtain⟨n,rfl,_⟩:=h;rfl) (fun cdv A outer s H E ds M R Y hr h=>?_)
 obtain⟨ns,rfl,hlen,k⟩:=h
 have hu:=hr.units
 refine⟨_,(d5 (u9 PassesOwn.never rfl (t5 (G4 (D6 (a8 d4 d3)) (t9 (a9 0) t8 (t7 d4)))) (jn 1 sc.nd) (d5 (jst 2 sc.nd (jc Il hr (a8 (a9 1) d3))) (d5 (jst 3 sc.nd (jc HZ hr (a8 (a9 2) (a8 d4 (a8 (D6 (a8 C9 (a8 C9 (a8 C9 (a8 C9 (a8 C9 (a8 C9 d3))))))) d3))))) (d5 (jst 4 sc.nd (jc Hu hr (a8 (a9 2) (a8 (f6 R3 (v7 gD rfl T.b_len bo (a8 (a9 3) d3)) d4) d3)))) (d5 (jst 5 sc.nd (G4 (G4 (t9 (a9 3) t8 (t7 (a9 4))) (D6 (a8 (jc HP hr (a8 (a9 2) (a8 (D6 (a8 C9 d3)) d3))) d3))) (t9 (a9 3) (t7 (a9 4)) t8))) (d5 (jst 6 sc.nd (jx (D6 (a8 (lE rfl T.b_list qK (a8 (a9 3) d3)) (a8 (qo wN rfl T.b_tuple me (a8 (a9 3) d3)) d3))) (jc Hu hr (a8 (a9 2) (a8 d4 d3))))) (d6 (j0 (nq (E9 (jc Ik hr (a8 (a9 3) (a8 (a9 6) (a8 (D6 (a8 (jc Hw hr (a8 (a9 2) d3)) (a8 (jc Hw hr (a8 (a9 2) d3)) d3))) (a8 (a9 5) d3))))))) (d6 (d9 lF)) g9)))))))) (d6 (d9 lF))),?_⟩
 walk_at "sim"
 have hcl:(DL.J6 (ns.map D.int) none (some 8)).length≤8:=by
  have:=bh (ds:=ns.map D.int) (n:=8)
  rw[show DL.J6 (ns.map D.int) none (some 8)=(ns.map D.int).take 8 from this,JX];omega
 refine⟨JR (by omega:1+_≤100) (by decide),?_⟩
 refine U9.by (fun i e M'=>∃ x1 x2 x3 x4 x5 x6:Option D,e=[some (.vl (ns.map D.int)),x1,x2,x3,x4,x5,x6]) ⟨_,_,_,_,_,_,rfl⟩ (fun i e M' _ _=>by simp only[h9]) ?_ ?_
 ·rintro i dd e M' hd ⟨x1,x2,x3,x4,x5,x6,rfl⟩
  obtain⟨n,rfl⟩:∃ n:Int,dd = .int n:=by
   have hm:=Kd hd
   rcases JJ.mp hm with rfl|hm
   ·exact⟨0,rfl⟩
   ·rw[show DL.J6 (ns.map D.int) none (some 8)=(ns.map D.int).take 8 from bh (n:=8)]at hm
    obtain⟨n,_,e⟩:=JK.mp (Kx hm)
    exact⟨n,e.symm⟩
  walk_at "sim"
  refine fun p M1 hp mk hP=>⟨hP,fun bs M2 hbl hok s2=>⟨s2.pool,by omega,JN (X5 (show _<2 ^ 10 by rw[JD];omega) (by decide)) (by decide),fun r M3 r0 r1 s3=>⟨s3.pool,fun st M4 hst s4=>?_⟩⟩⟩
  obtain⟨at',rfl⟩:∃ a:Nat,r=(a:Int):=⟨r.toNat,by omega⟩
  rw[JD]at r1
  have c1:DL.J6 (bs.map f9) none (some (at':Int))=(bs.take at').map f9:=by rw[bh,MN]
  have c2:DL.J6 (bs.map f9) (some (at':Int)) none=(bs.drop at').map f9:=by rw[U5,Ml]
  rw[c1,c2]
  have em:(bs.take at').map f9++[f9 st]++(bs.drop at').map f9=(bs.take at'++[st]++bs.drop at').map f9:=by rw[Kp,Kp];rfl
  rw[em]
  refine⟨JR (show _≤100 by rw[JD,JX];omega) (by decide),JR (show _≤100 by rw[JQ,JD,JD,JX,Kr,KQ];omega) (by decide),s4.pool,by decide,fun r M5 q0 q1 s5=>jo q0 (by show r<2;exact q1) fun hand hh=>⟨s5.pool,fun x1 M6 hx1 s6=>⟨s6.pool,fun x2 M7 hx2 s7=>?_⟩⟩⟩
  have hG:xb bs (bs.take at'++[st]++bs.drop at') hand x1 x2:=⟨by simpa only [JJ,Ks,or_false]using hh,hbl,hok,hx1,hx2,at',st,by omega,hst.2,hst.1,rfl⟩
  walk_at "sim"
  exact⟨hG,_,_,_,_,_,_,rfl⟩
 ·rintro e M' ⟨x1,x2,x3,x4,x5,x6,rfl⟩
  walk_at "sim"
  exact k _
end
end K33
namespace K33
open PySem PySem.Spec L2 DL GM
theorem DU{P:Program}{w:World}{K:JB}{mg:Str→Option Value}{fa:Addr}(T:Txt K mg)(hfa:mg "law" = some (.ref fa))(htr:P.given.tree=none)(II:Df K mg "_law_under" N4 ["one","other"])(Jh:Df K mg "divisor" aP ["one","other"])(IZ:Df K mg "is_whole" W8 ["thing"])(Jo:Df K mg "ratio" ik ["top","bottom"])(Jp:Df K mg "times" ij ["one","other"])(Iv:Df K mg "tops_over" K0 ["ratios","bottom"])(Ia:Df K mg "common_bottom" C4 ["ratios"])(Jq:Df K mg "total" ig ["ratios"])(Ju:Df K mg "plus" mN ["one","other"])(Ja:Df K mg "opposite" W6 ["one"])(Jr:Df K mg "minus" ip ["one","other"])(Js:Df K mg "cross" iu ["one","other"])(Jk:Df K mg "area" iw ["rays"])(Jv:Df K mg "less" mP ["one","other"])(Jb:Df K mg "is_lower" W9 ["one","other"])(IB:Df K mg "from_lowest" L1 ["rays"])(Jl:Df K mg "facing" dI ["side"])(Jw:Df K mg "veer" mL ["one","other"])(Jm:Df K mg "met_at" dH ["one","other"])(Jx:Df K mg "turn" mM ["one","other","third"])(IL:Df K mg "next_side" P9 ["sides","here"])(IM:Df K mg "juts_more" Q0 ["one","other"])(IP:Df K mg "outermost" P8 ["sides"])(Jc:Df K mg "sides_of" W5 ["lines"])(Jd:Df K mg "half_rim" X0 ["lines"])(Ji:Df K mg "corners" aQ ["lines"])(IC:Df K mg "led_by_part" L0 ["part","ray"])(Je:Df K mg "lines_of" W7 ["bench"])(IJ:Df K mg "_law_ratio" N5 ["top","bottom"])(Jj:Df K mg "_law_by" aR ["one","other"])(ID:Df K mg "_law_halved" L4 ["part"])(Jf:Df K mg "_law_add" X1 ["one","other"])(IQ:Df K mg "_law_take" Q1 ["one","other"])(IS:Df K mg "_law_even" Q6 ["rows"])(IE:Df K mg "rising_once" K9 ["ratios"])(Jg:Df K mg "unsigned" W4 ["one"])(Jy:Df K mg "over" mO ["one","other"])(IT:Df K mg "slopes_by" P6 ["line","h"])(Jn:Df K mg "slopes" dG ["lines","h"])(IU:Df K mg "seen_from" P7 ["bench","x"])(Jt:Df K mg "field" ir ["bench","x"])(IV:Df K mg "_law_good" Q5 ["bench","handed","planes","more"])(IW:Df K mg "_law_next" Q4 ["pool","base"])(IF:Df K mg "_law_number" L3 ["pool"])(Iw:Df K mg "_law_part" K1 ["pool","words"])(IK:Df K mg "_law_bench" N6 ["pool","count","words"])(IX:Df K mg "_law_pool" Q2 ["cell"])(Jz:DfL K mg "law" uD ["script"]) :
  ∃ fd:FuncData,(∀(s:Shared) (u:Value),BindsTo s fd ⟨[u],[]⟩ [("script",u)])∧∀ base:Heap,base.NoSeer→P1 P w K mg base CX0 48 fa fd ["script"] (km K pB):=by
 obtain⟨f,fd,F,hm,hb⟩:=Jz.ex
 have e:f=fa:=by rw[hm]at hfa;injection hfa with z;injection z
 subst e
 refine⟨fd,fun s u=>.of_eq (hb [u] rfl),fun base hns=>?_⟩
 have hsee:wY P base:=⟨hns,htr⟩
 have HY:=ff (P:=P) (w:=w) (base:=base) T II
 have HC:=mY (P:=P) (w:=w) (base:=base) T Jh
 have HW:=kW (P:=P) (w:=w) (base:=base) T IZ
 have Hz:=vw (P:=P) (w:=w) (base:=base) T Jo hsee HC HW
 have Hx:=vt (P:=P) (w:=w) (base:=base) T Jp Hz
 have HN:=bN (P:=P) (w:=w) (base:=base) T Iv
 have HD:=U8 (P:=P) (w:=w) (base:=base) T Ia HC
 have Im:=vq (P:=P) (w:=w) (base:=base) T Jq Hz HN HD
 have HK:=zh (P:=P) (w:=w) (base:=base) T Ju Hz
 have Hy:=kT (P:=P) (w:=w) (base:=base) T Ja
 have HM:=vx (P:=P) (w:=w) (base:=base) T Jr HK Hy
 have Io:=vz (P:=P) (w:=w) (base:=base) T Js HM Hx
 have IA:=zk (P:=P) (w:=w) (base:=base) T Jk Hx Im Io
 have HG:=zj (P:=P) (w:=w) (base:=base) T Jv
 have Ip:=kX (P:=P) (w:=w) (base:=base) T Jb HG
 have HR:=dY (P:=P) (w:=w) (base:=base) T IB Ip
 have HV:=rB (P:=P) (w:=w) (base:=base) T Jl
 have HE:=yZ (P:=P) (w:=w) (base:=base) T Jw
 have Iy:=rz (P:=P) (w:=w) (base:=base) T Jm Hz HE
 have IY:=ze (P:=P) (w:=w) (base:=base) T Jx HE
 have HQ:=iV (P:=P) (w:=w) (base:=base) T IL HE IY
 have Ib:=iW (P:=P) (w:=w) (base:=base) T IM
 have Ie:=iU (P:=P) (w:=w) (base:=base) T IP Ib
 have Ic:=iQ (P:=P) (w:=w) (base:=base) T Iv
 have HL:=aU (P:=P) (w:=w) (base:=base) T Ia HC
 have Iq:=kS (P:=P) (w:=w) (base:=base) T Jc HV Ic HL
 have Ir:=kY (P:=P) (w:=w) (base:=base) T Jd HE HQ Ie Iq
 have HF:=mZ (P:=P) (w:=w) (base:=base) T Ji HR Hy HV Iy Ir
 have HI:=dX (P:=P) (w:=w) (base:=base) T IC HM Hx HK
 have HB:=kU (P:=P) (w:=w) (base:=base) T Je HI
 have Hv:=fg (P:=P) (w:=w) (base:=base) T IJ hsee
 have HA:=nh (P:=P) (w:=w) (base:=base) T Jj Hv
 have HU:=eo (P:=P) (w:=w) (base:=base) T ID HA
 have HX:=kZ (P:=P) (w:=w) (base:=base) T Jf Hv
 have HJ:=iX (P:=P) (w:=w) (base:=base) T IQ Hv
 have Ii:=jd (P:=P) (w:=w) (base:=base) T IS HX HA HJ
 have Iu:=nc (P:=P) (w:=w) (base:=base) T Jk Hx Im Io
 have HS:=dW (P:=P) (w:=w) (base:=base) T IE HG
 have HH:=kR (P:=P) (w:=w) (base:=base) T Jg
 have IG:=zi (P:=P) (w:=w) (base:=base) T Jy Hz
 have Ig:=iR (P:=P) (w:=w) (base:=base) T IT HK HM HH IG Hy Hx
 have Iz:=rq (P:=P) (w:=w) (base:=base) T Jn HG HH Hx Ig
 have Ih:=iS (P:=P) (w:=w) (base:=base) T IU HB HK Hx
 have IH:=vy (P:=P) (w:=w) (base:=base) T Jt HS Iz HF Ih
 have Ik:=jb (P:=P) (w:=w) (base:=base) T IV HY IA HF HB HA HU Ii Iu IH
 have Hu:=ja (P:=P) (w:=w) (base:=base) T IW
 have Hw:=dZ (P:=P) (w:=w) (base:=base) T IF Hv Hu
 have HP:=bO (P:=P) (w:=w) (base:=base) T Iw Hw Hu
 have Ij:=iZ (P:=P) (w:=w) (base:=base) T Iw Hw Hu
 have HZ:=fi (P:=P) (w:=w) (base:=base) T IK Hu Ij
 have Il:=iY (P:=P) (w:=w) (base:=base) T IX
 exact Dd T F Ik Hw Hu HP HZ Il
theorem mr{l:PySem.W.OpenLaw}{q:Program}{loose:List Str}{XP:(Str→Option Value)→Heap→Prop}{YP:World→Heap→Prop}{d:DefRec}{K:Params→JB}(hq:PyProof.Rows.importsNone q=true)(hn:l.most=some 63)(hdf:d.params.defaults=[])
  (hY:∀(w:World) (h:Heap),YP w h→(K w.params).In h)
  (F:∀(w:World) (mg:Str→Option Value) (fa:Addr) (h:Heap),(K w.params).In h→h.Ns mainGlobals mg→mg d.name=some (.ref fa) →
   ∃ fd:FuncData,(∀(s:Shared) (u:Value),BindsTo s fd ⟨[u],[]⟩ [("script",u)])∧∀ base:Heap,base.NoSeer→P1 l.prog w (K w.params) mg base CX0 48 fa fd ["script"] (km (K w.params) pB)) :
  PySem.W.WalkO q loose XP YP l.row.toRowW d [] (fun f vs=>PySem.call f vs) :=
 L2.ud (n:=63) (k:=48) (x := "script") (CX:=CX0) (sp:=fun K=>km K pB) hq hn (by decide) hdf ⟨rfl,by decide,by decide⟩ hY (fun w mg fa h a b c=>let ⟨fd,h1,h2⟩:=F w mg fa h a b c;⟨fd,h1,fun base _ _ hd=>h2 base hd⟩)
  (fun K H a ns hl hO hS=>Dr hO hS ⟨ns,rfl,hl,fun _=>rfl⟩) fun _ _ _ _ z=>z
end K33
namespace PySem.W.Fast
theorem te10864895595891266249:True:=trivial
theorem tw2436872888572844466:True:=⟨⟩
theorem tw16503551902683689494:True:=⟨⟩
theorem tw287696873865589438:True:=⟨⟩
theorem tw14474913255636622564:True:=⟨⟩
theorem tw11261037153011382904:True:=⟨⟩
theorem tw4974835518643605502:True:=⟨⟩
theorem tw3919156438897264420:True:=⟨⟩
theorem tw2210852766990531385:True:=⟨⟩
theorem tw10830396668409475355:True:=⟨⟩
theorem tw11774389674999781436:True:=⟨⟩
theorem tw15815149338872666332:True:=⟨⟩
theorem tw6416320952099964966:True:=⟨⟩
theorem tw16590984430089989218:True:=⟨⟩
theorem tw4523293631625832428:True:=⟨⟩
theorem tw11917215060342510616:True:=⟨⟩
theorem tw16414863617005219551:True:=⟨⟩
theorem tw17162321039230707456:True:=⟨⟩
theorem tw8650594109545200118:True:=⟨⟩
theorem tw7270183740566580770:True:=⟨⟩
theorem tw7426899699237121211:True:=⟨⟩
theorem tw10612327192576149543:True:=⟨⟩
theorem tw8645970134212502969:True:=⟨⟩
theorem tw11462144559651733332:True:=⟨⟩
theorem tw9383649498284361725:True:=⟨⟩
theorem tw13649652034468949433:True:=⟨⟩
theorem tw16972670982909320386:True:=⟨⟩
theorem tw11312694618933562301:True:=⟨⟩
theorem tw12600448680364900991:True:=⟨⟩
theorem tw17085513071122261183:True:=⟨⟩
theorem tw12287653207499470049:True:=⟨⟩
theorem tw886966327211936907:True:=⟨⟩
theorem tw9958412690123293378:True:=⟨⟩
theorem tw11657200508369426910:True:=⟨⟩
theorem tw660705002090240351:True:=⟨⟩
theorem tw8368290270291706346:True:=⟨⟩
theorem tw15302116466895823331:True:=⟨⟩
theorem tw592326253645825946:True:=⟨⟩
theorem tw3907750102659596165:True:=⟨⟩
theorem tw7957896711834307474:True:=⟨⟩
theorem tw9643710219997664719:True:=⟨⟩
theorem tw1671752604490663563:True:=⟨⟩
theorem tw10789877327105384213:True:=⟨⟩
theorem tw16244578629290585376:True:=⟨⟩
theorem tw17610567045185306317:True:=⟨⟩
theorem tw10809405035340007541:True:=⟨⟩
theorem tw2905155914773321268:True:=⟨⟩
theorem tw2557350412598310921:True:=⟨⟩
theorem tw14025239137163159629:True:=⟨⟩
theorem tw13373106514845246358:True:=⟨⟩
theorem tw16640915963189893407:True:=⟨⟩
theorem tw6184533721884519687:True:=⟨⟩
theorem tw4200282318403341387:True:=⟨⟩
theorem tw10073083820965366529:True:=⟨⟩
theorem tw2562110265776656824:True:=⟨⟩
theorem tw3985148608832173881:True:=⟨⟩
theorem tw6678632018333363040:True:=⟨⟩
theorem tw7128131986352765946:True:=⟨⟩
theorem tw10186583288333609131:True:=⟨⟩
theorem tw16626618748092404433:True:=⟨⟩
theorem tw3557029123543992310:True:=⟨⟩
theorem tw15940748327347167646:True:=⟨⟩
theorem tw15846621557448845646:True:=⟨⟩
theorem tw176794485070738243:True:=⟨⟩
theorem tw455143808881780842:True:=⟨⟩
theorem tw15383858199759393365:True:=⟨⟩
theorem tw5755082324398245513:True:=⟨⟩
theorem tw5770145614188420996:True:=⟨⟩
theorem tw1318878994453596288:True:=⟨⟩
theorem tw8327503004593692611:True:=⟨⟩
theorem tw597654700384218824:True:=⟨⟩
theorem tw2049787143626394645:True:=⟨⟩
theorem tw9677635132241858562:True:=⟨⟩
theorem tw14649946630972495685:True:=⟨⟩
theorem tw1119877967986703008:True:=⟨⟩
theorem tw5640000735629345827:True:=⟨⟩
theorem tw6304538468465883412:True:=⟨⟩
theorem tw5646129694390888369:True:=⟨⟩
theorem tw2704457880237015688:True:=⟨⟩
theorem tw7792475674227693962:True:=⟨⟩
theorem tw103049505878826271:True:=⟨⟩
theorem tw18334765057101726764:True:=⟨⟩
theorem tw7945253176801225653:True:=⟨⟩
theorem tw14805706336203351062:True:=⟨⟩
theorem tw8188745944760764643:True:=⟨⟩
theorem tw18289721439989619238:True:=⟨⟩
theorem tw14744066290061171182:True:=⟨⟩
theorem tw1939084256249848660:True:=⟨⟩
theorem tw5297742287906980512:True:=⟨⟩
theorem tw8947286614732456147:True:=⟨⟩
theorem tw17916305866589301983:True:=⟨⟩
theorem tw15953502418495521662:True:=⟨⟩
theorem tw7454194095232421067:True:=⟨⟩
theorem tw17911839656092039456:True:=⟨⟩
theorem tw7728438950743201798:True:=⟨⟩
theorem tw15789926607891920544:True:=⟨⟩
theorem tw3012160451911369654:True:=⟨⟩
theorem tw5666050992310534137:True:=⟨⟩
theorem tw9931252437933361685:True:=⟨⟩
theorem tw17685785068494209228:True:=⟨⟩
theorem tw17238904331151922215:True:=⟨⟩
theorem tw6533114499741293085:True:=⟨⟩
theorem tw7824976381705322574:True:=⟨⟩
end PySem.W.Fast
open PySem PySem.W PyProof.Rows
set_option maxRecDepth 100000 in
set_option maxHeartbeats 0 in
theorem PySem.Challenge.cw_roundglass_k33_whole_one_area_holds : PySem.Challenge.rw_roundglass_k33_whole_one_area.Holds := by
 w_on;o_law;k_head;(case hw=>w_witness2)
 k_fill
 refine K33.mr (l:=PySem.Challenge.rw_roundglass_k33_whole_one_area) (by decide +kernel) rfl rfl (fun w h Y=>PySem.W.kIn_of Y) ?F
 case F =>
  intro w mg fa h KX G hmg
  refine' K33.DU ⟨PySem.W.mg_none_of KX G ?z_abs,PySem.W.mg_none_of KX G ?z_bool,PySem.W.mg_none_of KX G ?z_enumerate,PySem.W.mg_none_of KX G ?z_int,PySem.W.mg_none_of KX G ?z_isinstance,PySem.W.mg_none_of KX G ?z_len,PySem.W.mg_none_of KX G ?z_list,PySem.W.mg_none_of KX G ?z_max,PySem.W.mg_none_of KX G ?z_range,PySem.W.mg_none_of KX G ?z_sum,PySem.W.mg_none_of KX G ?z_tuple,PySem.W.mg_none_of KX G ?z_zip,DL.Fc _,DL.vW KX G ?c0_AXIS_RAY ?c1_AXIS_RAY ?c2_AXIS_RAY ?c3_AXIS_RAY,DL.qu KX G ?c0_HALF ?c1_HALF,DL.vW KX G ?c0_LEVEL_RAY ?c1_LEVEL_RAY ?c2_LEVEL_RAY ?c3_LEVEL_RAY,DL.qu KX G ?c0_NOUGHT ?c1_NOUGHT⟩ hmg rfl (DL.i9 KX G ?n0 ?l0 ?c0 ?k0 ?b0) (DL.i9 KX G ?n1 ?l1 ?c1 ?k1 ?b1) (DL.i9 KX G ?n2 ?l2 ?c2 ?k2 ?b2) (DL.DG KX G ?n3 ?l3 ?c3 ?k3 ?b3) (DL.i9 KX G ?n4 ?l4 ?c4 ?k4 ?b4) (DL.i9 KX G ?n5 ?l5 ?c5 ?k5 ?b5) (DL.i9 KX G ?n6 ?l6 ?c6 ?k6 ?b6) (DL.i9 KX G ?n7 ?l7 ?c7 ?k7 ?b7) (DL.i9 KX G ?n8 ?l8 ?c8 ?k8 ?b8) (DL.i9 KX G ?n9 ?l9 ?c9 ?k9 ?b9) (DL.i9 KX G ?n10 ?l10 ?c10 ?k10 ?b10) (DL.i9 KX G ?n11 ?l11 ?c11 ?k11 ?b11) (DL.i9 KX G ?n12 ?l12 ?c12 ?k12 ?b12) (DL.i9 KX G ?n13 ?l13 ?c13 ?k13 ?b13) (DL.i9 KX G ?n14 ?l14 ?c14 ?k14 ?b14) (DL.i9 KX G ?n15 ?l15 ?c15 ?k15 ?b15) (DL.i9 KX G ?n16 ?l16 ?c16 ?k16 ?b16) (DL.i9 KX G ?n17 ?l17 ?c17 ?k17 ?b17) (DL.i9 KX G ?n18 ?l18 ?c18 ?k18 ?b18) (DL.i9 KX G ?n19 ?l19 ?c19 ?k19 ?b19) (DL.i9 KX G ?n20 ?l20 ?c20 ?k20 ?b20) (DL.i9 KX G ?n21 ?l21 ?c21 ?k21 ?b21) (DL.i9 KX G ?n22 ?l22 ?c22 ?k22 ?b22) (DL.i9 KX G ?n23 ?l23 ?c23 ?k23 ?b23) (DL.i9 KX G ?n24 ?l24 ?c24 ?k24 ?b24) (DL.i9 KX G ?n25 ?l25 ?c25 ?k25 ?b25) (DL.i9 KX G ?n26 ?l26 ?c26 ?k26 ?b26) (DL.i9 KX G ?n27 ?l27 ?c27 ?k27 ?b27) (DL.i9 KX G ?n28 ?l28 ?c28 ?k28 ?b28) (DL.i9 KX G ?n29 ?l29 ?c29 ?k29 ?b29) (DL.i9 KX G ?n30 ?l30 ?c30 ?k30 ?b30) (DL.i9 KX G ?n31 ?l31 ?c31 ?k31 ?b31) (DL.i9 KX G ?n32 ?l32 ?c32 ?k32 ?b32) (DL.i9 KX G ?n33 ?l33 ?c33 ?k33 ?b33) (DL.i9 KX G ?n34 ?l34 ?c34 ?k34 ?b34) (DL.i9 KX G ?n35 ?l35 ?c35 ?k35 ?b35) (DL.i9 KX G ?n36 ?l36 ?c36 ?k36 ?b36) (DL.i9 KX G ?n37 ?l37 ?c37 ?k37 ?b37) (DL.i9 KX G ?n38 ?l38 ?c38 ?k38 ?b38) (DL.i9 KX G ?n39 ?l39 ?c39 ?k39 ?b39) (DL.i9 KX G ?n40 ?l40 ?c40 ?k40 ?b40) (DL.i9 KX G ?n41 ?l41 ?c41 ?k41 ?b41) (DL.i9 KX G ?n42 ?l42 ?c42 ?k42 ?b42) (DL.i9 KX G ?n43 ?l43 ?c43 ?k43 ?b43) (DL.i9 KX G ?n44 ?l44 ?c44 ?k44 ?b44) (DL.i9 KX G ?n45 ?l45 ?c45 ?k45 ?b45) (DL.i9 KX G ?n46 ?l46 ?c46 ?k46 ?b46) (DL.DF KX G ?n47 ?l47 ?c47 ?k47 ?b47)
  (case n0=>k_is);(case l0=>k_is);(case c0=>k_is);(case k0=>k_is);(case b0=>(intro us hl;exact match us,hl with|[_,_],_=>rfl))
  (case n1=>k_is);(case l1=>k_is);(case c1=>k_is);(case k1=>k_is);(case b1=>(intro us hl;exact match us,hl with|[_,_],_=>rfl))
  (case n2=>k_is);(case l2=>k_is);(case c2=>k_is);(case k2=>k_is);(case b2=>(intro us hl;exact match us,hl with|[_],_=>rfl))
  (case n3=>k_is);(case l3=>k_is);(case c3=>k_is);(case k3=>k_is);(case b3=>(intro us hl S;exact match us,hl with|[_,_],_=>rfl))
  (case n4=>k_is);(case l4=>k_is);(case c4=>k_is);(case k4=>k_is);(case b4=>(intro us hl;exact match us,hl with|[_,_],_=>rfl))
  (case n5=>k_is);(case l5=>k_is);(case c5=>k_is);(case k5=>k_is);(case b5=>(intro us hl;exact match us,hl with|[_,_],_=>rfl))
  (case n6=>k_is);(case l6=>k_is);(case c6=>k_is);(case k6=>k_is);(case b6=>(intro us hl;exact match us,hl with|[_],_=>rfl))
  (case n7=>k_is);(case l7=>k_is);(case c7=>k_is);(case k7=>k_is);(case b7=>(intro us hl;exact match us,hl with|[_],_=>rfl))
  (case n8=>k_is);(case l8=>k_is);(case c8=>k_is);(case k8=>k_is);(case b8=>(intro us hl;exact match us,hl with|[_,_],_=>rfl))
  (case n9=>k_is);(case l9=>k_is);(case c9=>k_is);(case k9=>k_is);(case b9=>(intro us hl;exact match us,hl with|[_],_=>rfl))
  (case n10=>k_is);(case l10=>k_is);(case c10=>k_is);(case k10=>k_is);(case b10=>(intro us hl;exact match us,hl with|[_,_],_=>rfl))
  (case n11=>k_is);(case l11=>k_is);(case c11=>k_is);(case k11=>k_is);(case b11=>(intro us hl;exact match us,hl with|[_,_],_=>rfl))
  (case n12=>k_is);(case l12=>k_is);(case c12=>k_is);(case k12=>k_is);(case b12=>(intro us hl;exact match us,hl with|[_],_=>rfl))
  (case n13=>k_is);(case l13=>k_is);(case c13=>k_is);(case k13=>k_is);(case b13=>(intro us hl;exact match us,hl with|[_,_],_=>rfl))
  (case n14=>k_is);(case l14=>k_is);(case c14=>k_is);(case k14=>k_is);(case b14=>(intro us hl;exact match us,hl with|[_,_],_=>rfl))
  (case n15=>k_is);(case l15=>k_is);(case c15=>k_is);(case k15=>k_is);(case b15=>(intro us hl;exact match us,hl with|[_],_=>rfl))
  (case n16=>k_is);(case l16=>k_is);(case c16=>k_is);(case k16=>k_is);(case b16=>(intro us hl;exact match us,hl with|[_],_=>rfl))
  (case n17=>k_is);(case l17=>k_is);(case c17=>k_is);(case k17=>k_is);(case b17=>(intro us hl;exact match us,hl with|[_,_],_=>rfl))
  (case n18=>k_is);(case l18=>k_is);(case c18=>k_is);(case k18=>k_is);(case b18=>(intro us hl;exact match us,hl with|[_,_],_=>rfl))
  (case n19=>k_is);(case l19=>k_is);(case c19=>k_is);(case k19=>k_is);(case b19=>(intro us hl;exact match us,hl with|[_,_,_],_=>rfl))
  (case n20=>k_is);(case l20=>k_is);(case c20=>k_is);(case k20=>k_is);(case b20=>(intro us hl;exact match us,hl with|[_,_],_=>rfl))
  (case n21=>k_is);(case l21=>k_is);(case c21=>k_is);(case k21=>k_is);(case b21=>(intro us hl;exact match us,hl with|[_,_],_=>rfl))
  (case n22=>k_is);(case l22=>k_is);(case c22=>k_is);(case k22=>k_is);(case b22=>(intro us hl;exact match us,hl with|[_],_=>rfl))
  (case n23=>k_is);(case l23=>k_is);(case c23=>k_is);(case k23=>k_is);(case b23=>(intro us hl;exact match us,hl with|[_],_=>rfl))
  (case n24=>k_is);(case l24=>k_is);(case c24=>k_is);(case k24=>k_is);(case b24=>(intro us hl;exact match us,hl with|[_],_=>rfl))
  (case n25=>k_is);(case l25=>k_is);(case c25=>k_is);(case k25=>k_is);(case b25=>(intro us hl;exact match us,hl with|[_],_=>rfl))
  (case n26=>k_is);(case l26=>k_is);(case c26=>k_is);(case k26=>k_is);(case b26=>(intro us hl;exact match us,hl with|[_,_],_=>rfl))
  (case n27=>k_is);(case l27=>k_is);(case c27=>k_is);(case k27=>k_is);(case b27=>(intro us hl;exact match us,hl with|[_],_=>rfl))
  (case n28=>k_is);(case l28=>k_is);(case c28=>k_is);(case k28=>k_is);(case b28=>(intro us hl;exact match us,hl with|[_,_],_=>rfl))
  (case n29=>k_is);(case l29=>k_is);(case c29=>k_is);(case k29=>k_is);(case b29=>(intro us hl;exact match us,hl with|[_,_],_=>rfl))
  (case n30=>k_is);(case l30=>k_is);(case c30=>k_is);(case k30=>k_is);(case b30=>(intro us hl;exact match us,hl with|[_],_=>rfl))
  (case n31=>k_is);(case l31=>k_is);(case c31=>k_is);(case k31=>k_is);(case b31=>(intro us hl;exact match us,hl with|[_,_],_=>rfl))
  (case n32=>k_is);(case l32=>k_is);(case c32=>k_is);(case k32=>k_is);(case b32=>(intro us hl;exact match us,hl with|[_,_],_=>rfl))
  (case n33=>k_is);(case l33=>k_is);(case c33=>k_is);(case k33=>k_is);(case b33=>(intro us hl;exact match us,hl with|[_],_=>rfl))
  (case n34=>k_is);(case l34=>k_is);(case c34=>k_is);(case k34=>k_is);(case b34=>(intro us hl;exact match us,hl with|[_],_=>rfl))
  (case n35=>k_is);(case l35=>k_is);(case c35=>k_is);(case k35=>k_is);(case b35=>(intro us hl;exact match us,hl with|[_],_=>rfl))
  (case n36=>k_is);(case l36=>k_is);(case c36=>k_is);(case k36=>k_is);(case b36=>(intro us hl;exact match us,hl with|[_,_],_=>rfl))
  (case n37=>k_is);(case l37=>k_is);(case c37=>k_is);(case k37=>k_is);(case b37=>(intro us hl;exact match us,hl with|[_,_],_=>rfl))
  (case n38=>k_is);(case l38=>k_is);(case c38=>k_is);(case k38=>k_is);(case b38=>(intro us hl;exact match us,hl with|[_,_],_=>rfl))
  (case n39=>k_is);(case l39=>k_is);(case c39=>k_is);(case k39=>k_is);(case b39=>(intro us hl;exact match us,hl with|[_,_],_=>rfl))
  (case n40=>k_is);(case l40=>k_is);(case c40=>k_is);(case k40=>k_is);(case b40=>(intro us hl;exact match us,hl with|[_,_],_=>rfl))
  (case n41=>k_is);(case l41=>k_is);(case c41=>k_is);(case k41=>k_is);(case b41=>(intro us hl;exact match us,hl with|[_,_,_,_],_=>rfl))
  (case n42=>k_is);(case l42=>k_is);(case c42=>k_is);(case k42=>k_is);(case b42=>(intro us hl;exact match us,hl with|[_,_],_=>rfl))
  (case n43=>k_is);(case l43=>k_is);(case c43=>k_is);(case k43=>k_is);(case b43=>(intro us hl;exact match us,hl with|[_],_=>rfl))
  (case n44=>k_is);(case l44=>k_is);(case c44=>k_is);(case k44=>k_is);(case b44=>(intro us hl;exact match us,hl with|[_,_],_=>rfl))
  (case n45=>k_is);(case l45=>k_is);(case c45=>k_is);(case k45=>k_is);(case b45=>(intro us hl;exact match us,hl with|[_,_,_],_=>rfl))
  (case n46=>k_is);(case l46=>k_is);(case c46=>k_is);(case k46=>k_is);(case b46=>(intro us hl;exact match us,hl with|[_],_=>rfl))
  (case n47=>k_is);(case l47=>k_is);(case c47=>k_is);(case k47=>k_is);(case b47=>(intro us hl;exact match us,hl with|[_],_=>rfl))
  (case z_abs=>k_is);(case z_bool=>k_is);(case z_enumerate=>k_is);(case z_int=>k_is);(case z_isinstance=>k_is);(case z_len=>k_is);(case z_list=>k_is);(case z_max=>k_is);(case z_range=>k_is);(case z_sum=>k_is);(case z_tuple=>k_is);(case z_zip=>k_is);(case c0_AXIS_RAY=>k_is);(case c1_AXIS_RAY=>k_is);(case c2_AXIS_RAY=>k_is);(case c3_AXIS_RAY=>k_is);(case c0_HALF=>k_is);(case c1_HALF=>k_is);(case c0_LEVEL_RAY=>k_is);(case c1_LEVEL_RAY=>k_is);(case c2_LEVEL_RAY=>k_is);(case c3_LEVEL_RAY=>k_is);(case c0_NOUGHT=>k_is);(case c1_NOUGHT=>k_is)
end
