import PyProof.Rows.All
import KE.KSortTup
import KE.KSortAsk
import OpenK.KLine
import KE.KPar
import KE.IntBitsLaws
import PyProof.Fits
import KE.KIsAll
import KE.KItem
import KE.KxBytes
import Wide.FinOn
import PyProof.EqAt
import PyProof.EqKinds
import PyProof.TupleCall
import PyProof.ZipIter
import PyProof.EnumMake
import PyProof.EnumFor
import PyProof.Rows.EnumRows
import PyProof.CompMap
import PyProof.CompUse
import KE.KRevSl
import KE.KRevIter
import PyProof.ListRange
import PyProof.AutoRange
import PyProof.FactsAll.range_2
import PyProof.MaxThree
import KE.RegKTryMore
import PyProof.Rows.SumAny
import KE.KMinBuiltin
import PyProof.Rows.CallKwBuiltin
import PyProof.JoinWalk
import PyProof.StrBlockL
import PyProof.StrCalls2
import PyProof.CallStr
import PyProof.Rows.StrWeight2
import PyProof.FitsInt
import PyProof.FactsAll.range_1
import PyProof.SeqRoads2
import KE.RegKIsAll
import PyProof.ExcArgsOwn
import PyProof.NsDelKeeps
import PyProof.RulesAs
import KE.KIntText
import PyProof.Rows.StrNews2
import PyProof.StrBlockH
import PyProof.Rows.RuleDivmod
import KE.IntTextText
import OpenK.KTop
import Lean
import PySem.Challenge.RW_roundglass_k68_whole_area_stays_along_a
noncomputable section
open PySem.W renaming Frag→Pg
open PySem renaming wpAny_bind→Ph,wpAny_pure→PD
open List renaming length_map→Pj,mem_cons_of_mem→Pk,mem_map→Pm,mem_cons→Pn,mem_cons_self→Po,length_cons→Pp,getElem?_eq_some_iff→Pw,mem_of_getElem?→Px,length_append→PB,getD_eq_getElem?_getD→PC,getElem?_eq_getElem→PH,getElem?_map→PJ,mem_append→PL,mem_append_right→PN,map_append→PQ,size_toArray→PR,length_take→PX,mem_singleton→PY,not_mem_nil→Qb,map_cons→Qc,filter_cons_of_pos→Qg,length_drop→Qh,mem_of_mem_take→Qm,filter_cons_of_neg→Qo,take_length→Qp,all_eq_true→Qq,map_map→Qw,length_zip→Qx,take_add_one→Qy,map_inj_right→Qz,pairwise_cons→QA,foldl_append→QC,mem_append_left→QF,take_succ_eq_append_getElem→QG,getElem?_append_right→QH,take_of_length_le→QI,pairwise_map→QJ,range→QM,getElem?_replicate→QQ,map_nil→QS,length_range→QT,getElem_cons_succ→QU,length_filter_le→QX,getElem?_append_left→QY,mem_of_mem_drop→Ra,of_mem_zip→Rb,getElem_append_left→Rh,length_pos_iff→Rk,getElem_mem→Rm,getElem_zip→Rn,replicate→Ro,append_nil→Rp,mem_iff_getElem→Rr,pairwise_iff_getElem→Rt,getElem_append_right→Rw,lookup_cons→Rx,ext_getElem→Rz,map_congr_left→RB,mem_filterMap→RG,zip_cons_cons→RH,map_take→RQ,mem_range→RU,map→RV,length_replicate→RW,take_append_drop→Sa,eq_nil_of_length_eq_zero→Se,getElem?_append→Sf,pairwise_append→Sg,map_drop→Si,mem_filter→Sj,filterMap_cons→Sk,nodup_cons→Sm,length_nil→Sn,take_succ_cons→So,foldl_cons→Sv,drop_eq_getElem_cons→SD,getElem?_take_of_lt→SF,append_assoc→SH,length→SK,getElem?_set_self→SW,drop_of_length_le→Tb,drop_eq_nil_of_le→Tc,length_singleton→Tf,forIn_cons→Th,toArray→Ti,getElem?_set_ne→Ts,getElem?_mapIdx→Tt,getElem?_range→TH,getElem_of_mem→TJ,filter_append→TQ,reverse_cons→Ua,getElem_inj→Ul,zipIdx_cons→Uo,cons_append→Uq,getElem_map→Ur,length_set→Us,zipIdx_nil→Uu,nil_append→Ux,forIn_nil→UG,drop_zero→UH
open PySem.Heap renaming get?_push_of_some→Pl,lt_size→Pz,get?_push_size→PK,size_push→QK,get?_update_ne→Sr,size_update→SV,get?_update_other→SX,get?_update_self→Te,get?_push_ne→Uc
open Rat renaming mul_nonneg→Pq,intCast_mul→PF,intCast_natCast→Qa,le_refl→Qe,div_mul_cancel→Qk,mul_pos→Qt,divInt→Qu,natCast_mul→QE,intCast_sub→Rf,div_def→Rj,mul_comm→RD,mul_zero→RE,intCast_neg→RK,intCast_add→RN,divInt_eq_div→RR,neg_mul→Su,intCast_inj→Sw,num_divInt_den→Sy,add_zero→Sz,num_nonneg→SE,neg_num→SM,neg_neg→SO,intCast_le_intCast→Ta,divInt_mul_right→Tu,neg_den→Tx,one_mul→TF,sub_eq_add_neg→TL,mul_assoc→TR,mul_div_cancel→TX,zero_mul→Uk,num_eq_zero→Ut
open Int renaming natAbs_natCast→Pr,natCast_inj→PM,natAbs_mul→Qn,natAbs_neg→Qr,mul_ne_zero→Qv,toNat_natCast→Rq,mul_nonneg→Ru,emod_lt_of_pos→RJ,mul_eq_zero→RO,natCast_mul→RP,natAbs_sub_le→RT,mul_le_mul_of_nonneg_right→RY,emod_nonneg→Sq,sign_eq_neg_one_of_neg→Sx,natAbs_ediv_le_natAbs→SA,sign_eq_one_of_pos→SY,lt_or_le→Tn,zero_mul→To,neg_ediv_of_dvd→Tz,mul_neg→TB,mul_pos→TC,natAbs_eq_zero→TN,natAbs_add_le→Ub,le_of_lt→Ui,mul_zero→Uj,neg_neg→Uy,gcd→UJ
open Nat renaming lt_of_lt_of_le→Pt,le_trans→Pu,le_refl→Py,lt_of_le_of_lt→PV,ne_of_lt→Qi,pow_le_pow_right→Qj,zero_le→Qs,mod_eq_of_lt→QB,gcd→QD,div_le_self→QL,lt_or_eq_of_le→QN,mul_le_mul_right→QO,lt_irrefl→QP,ne_of_gt→QR,mul_lt_mul_of_lt_of_le→QV,mul_lt_mul''→QW,pow_add→QZ,gcd_pos_of_pos_right→Rc,mod_lt→Rg,le_of_lt→Ri,le_add_right→Ry,dvd_lcm_left→RA,zero_add→RF,mul_ne_zero→RL,dvd_lcm_right→RS,pow_succ→RX,mul_comm→RZ,min_le_right→Sb,div_le_of_le_mul→Sh,lcm_pos→Ss,max_le→SG,gcd_dvd_right→SJ,pow_pos→SN,dvd_trans→SQ,mul_div_cancel_left→SR,le_max_right→SU,le_max_left→Tg,lt_succ_iff→Tj,not_lt_zero→Tp,lt_trans→Tq,add_comm→Tr,log2_lt→Tv,pos_iff_ne_zero→Tw,eq_zero_or_pos→TK,pos_of_ne_zero→TU,mod_eq_sub_mod→TV,gcd_zero_right→TY,le_of_dvd→TZ,lt_trichotomy→Ud,add_mod_right→Ue,le_of_eq→Ug,gcd_comm→Uh,min_eq_right→Up,min_le_left→Uv,two_pow_pos→Uw,min_eq_left→Uz,le_add_left→UA,mod_add_mod→UB,one_mul→UC,lcm→UI
open Bool renaming false_ne_true→PZ,and_eq_true→Rl,false_eq_true→RI,eq_iff_iff→Sl,true_and→TM,false_and→UE
open Classical renaming propDecidable→Ql,byContradiction→Rv
open Option renaming map_some→Td,getD_none→Um,map_none→UD
set_option compiler.extract_closed false
set_option Elab.async false
set_option linter.all false
set_option maxRecDepth 100000
section
namespace L2
open PySem PySem.Spec PyProof.Rows
noncomputable abbrev Key:=Sum Int Str
noncomputable def Fq:Key→Value→Bool
 | .inl k,v=>Value.isInt k v
 | .inr x,v=>Value.isStrOf x v
noncomputable def Mi(w:World):Key→Int
 | .inl k=>hashInt k
 | .inr x=>hashStr w x
theorem A3:∀{k:Key} {v:Value},Fq k v=true→(∃ i t,k=Sum.inl i∧v=Value.int i t)∨(∃ x t,k=Sum.inr x∧v=Value.str x t)
 | .inl i,v,h=>by
  obtain⟨t,e⟩:=Value.isInt_shape (k:=i) (v:=v) h
  exact .inl ⟨i,t,rfl,e⟩
 | .inr x,v,h=>by
  obtain⟨t,e⟩:=Value.isStrOf_shape (x:=x) (v:=v) h
  exact .inr ⟨x,t,rfl,e⟩
theorem HP(a b:Int):decide ((Sum.inl a:Key)=Sum.inl b)=(a == b):=by
 by_cases e:a=b
 ·subst e;simp
 ·have h:¬ (Sum.inl a:Key)=Sum.inl b:=fun q=>e (Sum.inl.inj q)
  rw[decide_eq_false h]
  exact(beq_eq_false_iff_ne.mpr e).symm
theorem HL(a b:Str):decide ((Sum.inr a:Key)=Sum.inr b)=decide (a=b):=by
 by_cases e:a=b
 ·subst e;simp
 ·have h:¬ (Sum.inr a:Key)=Sum.inr b:=fun q=>e (Sum.inr.inj q)
  rw[decide_eq_false h,decide_eq_false e]
theorem HN(a:Int)(b:Str):decide ((Sum.inl a:Key)=Sum.inr b)=false:=decide_eq_false (fun q=>nomatch q)
theorem HM(a:Str)(b:Int):decide ((Sum.inr a:Key)=Sum.inl b)=false:=decide_eq_false (fun q=>nomatch q)
noncomputable def uk(prog:Program)(w:World):PySem.KeyKind prog w Key where
 is:=Fq
 hash:=Mi w
 inj:=fun v a b ha hb=>by
  rcases A3 ha with⟨i,t,rfl,rfl⟩|⟨x,t,rfl,rfl⟩
  ·rcases A3 hb with⟨j,u,rfl,e⟩|⟨y,u,rfl,e⟩
   ·injection e with e1 _;rw[e1]
   ·exact nomatch e
  ·rcases A3 hb with⟨j,u,rfl,e⟩|⟨y,u,rfl,e⟩
   ·exact nomatch e
   ·injection e with e1 _;rw[e1]
 byValue:=fun k v h=>by
  rcases A3 h with⟨i,t,rfl,rfl⟩|⟨x,t,rfl,rfl⟩<;>rfl
 pyHash:=fun hv h=>by
  rcases A3 hv with⟨i,t,rfl,rfl⟩|⟨x,t,rfl,rfl⟩
  ·exact wpAny_pyHash_int h
  ·exact wpAny_pyHash_str h
 eqBool:=fun hu hv h=>by
  rcases A3 hu with⟨i,t,rfl,rfl⟩|⟨x,t,rfl,rfl⟩
  ·rcases A3 hv with⟨j,u,rfl,rfl⟩|⟨y,u,rfl,rfl⟩
   ·rw[HP]at h;exact wpAny_eqBool_int h
   ·rw[HN]at h;exact SeqAt.EqAt.int_str i t y u _ _ _ _ h
  ·rcases A3 hv with⟨j,u,rfl,rfl⟩|⟨y,u,rfl,rfl⟩
   ·rw[HM]at h;exact SeqAt.EqAt.str_int x t j u _ _ _ _ h
   ·rw[HL]at h;exact wpAny_eqBool_str h
 «strs»:=fun k x t v h=>by
  rcases A3 h with⟨i,u,rfl,e⟩|⟨y,u,rfl,e⟩
  ·exact nomatch e
  ·injection e with e1 _
   subst e1
   cases v<;>rfl
inductive V where
 | non|bl (b:Bool)|int (i:Int)|str (x:Str)|byt (b:Array UInt8)|flt (b:UInt64)|ref (a:Addr)|ty (n:String)
 deriving DecidableEq
noncomputable def p7:V→Value→Prop
 | .non,u=>u=Value.none
 | .bl b,u=>u=Value.bool b
 | .int i,u=>∃ t,u=Value.int i t
 | .str x,u=>∃ t,u=Value.str x t
 | .byt b,u=>∃ t,u=Value.bytes b t
 | .flt b,u=>∃ t,u=Value.float b t
 | .ref a,u=>u=Value.ref a
 | .ty n,u=>u=Value.type n
noncomputable abbrev j0:List V→List Value→Prop:=Paired p7
theorem j0.length{xs:List V}{us:List Value}(r:j0 xs us):xs.length=us.length:=Paired.length r
theorem j0.get:∀{xs:List V} {us:List Value} {i:Nat} {x:V},j0 xs us→xs[i]? = some x→∃ u,us[i]? = some u∧p7 x u
 | _,_,_,_,.nil,e=>by simp at e
 | _,_,0,_,.cons r _,e=>by simp at e;subst e;exact⟨_,rfl,r⟩
 | _,_,i+1,x,.cons _ t,e=>by
  obtain⟨u,h1,h2⟩:=j0.get (i:=i) (x:=x) t (by simpa using e)
  exact⟨u,by simpa using h1,h2⟩
theorem j0.set{x:V}{u:Value}(r:p7 x u):∀{xs:List V} {us:List Value} (i:Nat),j0 xs us→j0 (xs.set i x) (us.set i u)
 | _,_,_,.nil=>.nil
 | _,_,0,.cons _ t=>.cons r t
 | _,_,i+1,.cons q t=>.cons q (j0.set r i t)
theorem j0.append:∀{xs ys:List V} {us ws:List Value},j0 xs us→j0 ys ws→j0 (xs++ys) (us++ws)
 | _,_,_,_,.nil,s=>s
 | _,_,_,_,.cons r t,s=>.cons r (j0.append t s)
theorem j0.take:∀{xs:List V} {us:List Value} (n:Nat),j0 xs us→j0 (xs.take n) (us.take n)
 | _,_,0,_=>.nil
 | _,_,_+1,.nil=>.nil
 | _,_,n+1,.cons r t=>.cons r (j0.take n t)
theorem j0.drop:∀{xs:List V} {us:List Value} (n:Nat),j0 xs us→j0 (xs.drop n) (us.drop n)
 | _,_,0,r=>r
 | _,_,_+1,.nil=>.nil
 | _,_,n+1,.cons _ t=>j0.drop n t
noncomputable def IE:Option V→Option Value→Prop
 | some v,some u=>p7 v u
 | none,none=>True
 | _,_=>False
noncomputable def KV{κ:Type}:List (κ × V)→List (κ × Value)→Prop:=Paired fun(p:κ × V) (q:κ × Value)=>p.1=q.1∧p7 p.2 q.2
noncomputable def kV:Key→V
 | .inl i=>.int i
 | .inr x=>.str x
inductive HO where
 | lst (xs:List V)
 | tup (xs:List V)
 | dK (kvs:List (Key × V))|dT (kvs:List (List Key × V))
 | set (S:Int→Bool) (n:Nat)
 | ins (C dx:Addr) (fs:List (Str × V))
 | own (x:Addr)
 | xd (fs:List (Str × V))
 | met (f x:Addr)
 | rng (lo hi:Int)
 | frz (o:Obj) (u:HO)
 | tbl (ps:Array Value)
 | ext (φ:Heap→Prop)
noncomputable abbrev Hp:=Addr→Option HO
noncomputable def upd(H:Hp)(a:Addr)(o:HO):Hp:=fun b=>if b=a then some o else H b
theorem j4{H:Hp}{a:Addr}{o:HO}:upd H a o a=some o:=by unfold upd;rw[if_pos rfl]
theorem g9{H:Hp}{a b:Addr}{o:HO}(h:b≠a):upd H a o b=H b:=by unfold upd;rw[if_neg h]
theorem aQ{H:Hp}{a:Addr}{o u:HO}:upd (upd H a o) a u=upd H a u:=by
 funext b;unfold upd;split<;>rfl
theorem E9{H:Hp}{a b:Addr}{o:HO}(h:H a=some o)(h':H b=none):a≠b:=by
 intro e;subst e;rw[h]at h';cases h'
section
variable (P:Program) (w:World)
noncomputable def C1(H:Hp)(h:Heap)(a:Addr):HO→Prop
 | .lst xs=>xs.length≤sizeLine∧∃(its:List Value) (n:Nat),j0 xs its∧h.get? a=some { cls:=.type "list",data:=.seq its.toArray n }
 | .tup xs=>xs.length≤sizeLine∧∃ its:List Value,j0 xs its∧IsTup h a its.toArray
 | .dK kvs=>kvs.length≤sizeLine∧(a == sysModules)=false∧∃ vs,KV kvs vs∧h.DictOf (uk P w) a vs
 | .dT kvs=>kvs.length≤sizeLine∧(a == sysModules)=false∧∃ xs:List (List Key × Addr × Value),
   Paired (fun(p:List Key × V) (q:List Key × Addr × Value)=>p.1=q.1∧H q.2.1=some (.tup (p.1.map kV))∧p7 p.2 q.2.2) kvs xs ∧
   ∃ o es ep,h.get? a=some o∧o.ExactDict∧o.data = .dict es ep∧es.toList=xs.map (entryOfKey (tupleKind (uk P w)))∧(xs.map (·.1)).Nodup
 | .set S n=>h.SetOf (intKind P w) a S n
 | .ins C dx fs=>H dx=some (.own a)∧fs.length≤1000∧dx≠a∧h.get? a=some (PySem.W.instObj C dx) ∧
   ∃ mA,h.Ns1 dx mA∧(∀ f,IE (fs.lookup f) (mA f))∧PySem.Within mA (fs.map (·.1))
 | .own _=>∃ o,h.get? a=some o
 | .xd fs=>∃ mA,h.Ns1 a mA∧∀ f,IE (fs.lookup f) (mA f)
 | .rng lo hi=>∃ t u v,h.get? a=some { cls:=.type "range",data:=.fields #[.int lo t,.int hi u,.int 1 v] }
 | .frz o u=>h.get? a=some o∧C1 H h a u
 | .tbl ps=>h.get? a=some { cls:=.none,data:=.fields ps }
 | .met f x=>h.get? a=some (PySem.W.methodObj (.ref f) (.ref x))
 | .ext φ=>φ h∧(∃ o,h.get? a=some o)∧∀ h1 h2:Heap,φ h1→(∀ o,h1.get? a=some o→h2.get? a=some o)→φ h2
def HOk(H:Hp)(h:Heap):Prop:=∀ a o,H a=some o→C1 P w H h a o
end
section
variable {P:Program} {w:World} {H H':Hp} {h h':Heap} {a:Addr} {o:HO}
theorem C1.lt(x:C1 P w H h a o):a<h.objs.size:=by
 cases o with
 | lst xs=>obtain⟨_,_,_,_,e⟩:=x;exact Pz e
 | tup xs=>obtain⟨_,_,_,p⟩:=x;exact p.lt
 | dK kvs=>obtain⟨_,_,_,_,o,_,_,e,_⟩:=x;exact Pz e
 | dT kvs=>obtain⟨_,_,_,_,o,_,_,e,_⟩:=x;exact Pz e
 | set S n=>obtain⟨o,_,_,_,e,_⟩:=x;exact Pz e
 | ins C dx fs=>obtain⟨_,_,_,e,_⟩:=x;exact Pz e
 | own y=>obtain⟨_,e⟩:=x;exact Pz e
 | xd fs=>obtain⟨_,⟨_,_,_,e,_⟩,_⟩:=x;exact Pz e
 | rng lo hi=>obtain⟨_,_,_,e⟩:=x;exact Pz e
 | frz ob u=>obtain⟨e,_⟩:=x;exact Pz e
 | tbl ps=>exact Pz (show h.get? a=some _ from x)
 | met f y=>exact Pz (show h.get? a=some _ from x)
 | ext φ=>obtain⟨_,⟨_,e⟩,_⟩:=x;exact Pz e
theorem Paired.mapP{α β:Type}{F G:α→β→Prop}:∀{l₁:List α} {l₂:List β},Paired F l₁ l₂→(∀ a b,F a b→G a b)→Paired G l₁ l₂
 | _,_,.nil,_=>.nil
 | _,_,.cons r t,f=>.cons (f _ _ r) (Paired.mapP t f)
theorem C1.stay(x:C1 P w H h a o)(k:∀ b u,(b=a∨H b=some (.own a))→h.get? b=some u→h'.get? b=some u)
  (ho:∀ b,H b=some (.own a)→H' b=some (.own a)) (ht:∀ b xs,H b=some (.tup xs)→H' b=some (.tup xs)):C1 P w H' h' a o:=by
 induction o with
 | lst xs=>obtain⟨z,its,n,r,e⟩:=x;exact⟨z,its,n,r,k _ _ (.inl rfl) e⟩
 | tup xs=>obtain⟨z,its,r,ob,e,c⟩:=x;exact⟨z,its,r,ob,k _ _ (.inl rfl) e,c⟩
 | dK kvs=>obtain⟨z,y,vs,r,ob,es,ep,e,c⟩:=x;exact⟨z,y,vs,r,ob,es,ep,k _ _ (.inl rfl) e,c⟩
 | dT kvs =>
  obtain⟨z,y,xs,r,ob,es,ep,e,c⟩:=x
  exact⟨z,y,xs,Paired.mapP r fun p q z=>⟨z.1,ht _ _ z.2.1,z.2.2⟩,ob,es,ep,k _ _ (.inl rfl) e,c⟩
 | set S n=>obtain⟨ob,es,ep,t,e,c⟩:=x;exact⟨ob,es,ep,t,k _ _ (.inl rfl) e,c⟩
 | ins C dx fs =>
  obtain⟨d,z,ne,e,mA,⟨od,es,ep,e2,c⟩,r⟩:=x
  exact⟨ho _ d,z,ne,k _ _ (.inl rfl) e,mA,⟨od,es,ep,k _ _ (.inr d) e2,c⟩,r⟩
 | own y=>obtain⟨ob,e⟩:=x;exact⟨ob,k _ _ (.inl rfl) e⟩
 | xd fs=>obtain⟨mA,⟨od,es,ep,e,c⟩,r⟩:=x;exact⟨mA,⟨od,es,ep,k _ _ (.inl rfl) e,c⟩,r⟩
 | rng lo hi=>obtain⟨t,u,v,e⟩:=x;exact⟨t,u,v,k _ _ (.inl rfl) e⟩
 | frz ob u ih=>obtain⟨e,q⟩:=x;exact⟨k _ _ (.inl rfl) e,ih q⟩
 | tbl ps =>
  have e:h.get? a=some { cls:=.none,data:=.fields ps }:=x
  show h'.get? a=some { cls:=.none,data:=.fields ps }
  exact k a _ (.inl rfl) e
 | met f y =>
  have e:h.get? a=some (PySem.W.methodObj (.ref f) (.ref y)):=x
  show h'.get? a=some (PySem.W.methodObj (.ref f) (.ref y))
  exact k a _ (.inl rfl) e
 | ext φ=>obtain⟨p,⟨o,e⟩,st⟩:=x;exact⟨st _ _ p fun o q=>k _ _ (.inl rfl) q,⟨o,k _ _ (.inl rfl) e⟩,st⟩
theorem HOk.lt(x:HOk P w H h)(e:H a=some o):a<h.objs.size:=(x a o e).lt
theorem HOk.fresh(x:HOk P w H h)(e:h.objs.size≤a):H a=none:=by
 cases q:H a with
 | none=>rfl
 | some u=>exact absurd (Pt (x.lt q) e) (QP _)
theorem HOk.kept(x:HOk P w H h)(k:∀ b u,h.get? b=some u→h'.get? b=some u):HOk P w H h':=fun a o e =>
 (x a o e).stay (fun b u _ q=>k b u q) (fun _ q=>q) fun _ _ q=>q
theorem HOk.laid(x:HOk P w H h)(k:∀ b u,h.get? b=some u→h'.get? b=some u)(hp:h.objs.size≤a)(new:C1 P w (upd H a o) h' a o):HOk P w (upd H a o) h':=fun b u e=>by
 have hn:=x.fresh hp
 by_cases hb:b=a
 ·subst hb;rw[j4]at e;cases e;exact new
 ·rw[g9 hb]at e
  exact(x b u e).stay (fun c v _ q=>k c v q) (fun c q=>by rw[g9 (E9 q hn)];exact q) fun c xs q=>by rw[g9 (E9 q hn)];exact q
end
def Rd(H:Hp)(a:Addr)(u:HO):Prop:=H a=some u ∨ ∃ o,H a=some (.frz o u)
theorem Rd.of{H:Hp}{a:Addr}{u:HO}(h:H a=some u):Rd H a u:=.inl h
theorem Rd.ok{P:Program}{w:World}{H:Hp}{h:Heap}{a:Addr}{u:HO}(r:Rd H a u)(x:HOk P w H h):C1 P w H h a u:=by
 rcases r with r|⟨o,r⟩
 ·exact x a u r
 ·obtain⟨_,q⟩:=x a _ r
  exact q
noncomputable def Mut:Option HO→Prop
 | some (.lst _)=>True
 | some (.dK _)=>True
 | some (.dT _)=>True
 | some (.set _ _)=>True
 | some (.ins _ _ _)=>True
 | some (.ext _)=>True
 | _=>False
section
variable {P:Program} {w:World} {H:Hp} {h h':Heap} {x e:Addr} {o':HO}
theorem HOk.write(ok:HOk P w H h)(mu:Mut (H x))(he:e=x∨H e=some (.own x))(k:∀ b u,b≠e→h.get? b=some u→h'.get? b=some u)(heo:∃ u,h'.get? e=some u)
  (new:C1 P w (upd H x o') h' x o'):HOk P w (upd H x o') h':=fun b u q=>by
 have nown:∀ c y,H c=some (.own y)→c≠x:=fun c y r z=>by subst z;rw[r]at mu;exact mu
 have ntup:∀ c xs,H c=some (.tup xs)→c≠x:=fun c xs r z=>by subst z;rw[r]at mu;exact mu
 by_cases hb:b=x
 ·subst hb;rw[j4]at q;cases q;exact new
 ·rw[g9 hb]at q
  by_cases hbe:b=e
  ·have q':H b=some (.own x):=by
    rcases he with z|z
    ·exact absurd (hbe.trans z) hb
    ·rw[hbe];exact z
   rw[q]at q';cases q'
   obtain⟨v,hv⟩:=heo
   exact⟨v,by rw[hbe];exact hv⟩
  ·refine(ok b u q).stay (fun c v hc r=>k c v ?_ r) (fun c r=>by rw[g9 (nown c b r)];exact r) fun c xs r=>by rw[g9 (ntup c xs r)];exact r
   rcases hc with rfl|hc
   ·exact hbe
   ·rintro rfl
    rcases he with z|z
    ·exact nown c b hc z
    ·rw[hc]at z;cases z;exact hb rfl
end
structure Un(fs ex:List Addr)(H H':Hp)(h h':Heap):Prop where
 keep:∀ b o,h.get? b=some o→H b=none→b∉fs→b∉ex→h'.get? b=some o
 slot:∀ b o,h.get? b=some o→H b=none→b∈fs→b∉ex→∃ sl,h'.get? b=some { o with slots:=sl }
 free:∀ b o,h.get? b=some o→H b=none→b∉ex→H' b=none
 there:∀ b o,h.get? b=some o→b∉ex→∃ o',h'.get? b=some o'
 tups:∀ b xs,H b=some (.tup xs)→H' b=some (.tup xs)
 frzs:∀ b o u,H b=some (.frz o u)→H' b=some (.frz o u)
 tbls:∀ b ps,H b=some (.tbl ps)→∃ more,H' b=some (.tbl (ps++more))
section
variable {fs fs' ex ex':List Addr} {H H1 H2:Hp} {h h1 h2 h':Heap} {a x e:Addr} {o:HO}
theorem Un.any(u:Un fs ex H H1 h h1){b:Addr}{ob:Obj}(q:h.get? b=some ob)(n:H b=none)(hx:b∉ex):∃ sl,h1.get? b=some { ob with slots:=sl }:=by
 by_cases hb:b∈fs
 ·exact u.slot b ob q n hb hx
 ·exact⟨ob.slots,u.keep b ob q n hb hx⟩
theorem Un.trans(a:Un fs ex H H1 h h1)(b:Un fs ex H1 H2 h1 h2):Un fs ex H H2 h h2 where
 keep:=fun c ob q n hc hx=>b.keep c ob (a.keep c ob q n hc hx) (a.free c ob q n hx) hc hx
 slot:=fun c ob q n hc hx=>by
  obtain⟨sl,e1⟩:=a.slot c ob q n hc hx
  obtain⟨sl',e2⟩:=b.slot c _ e1 (a.free c ob q n hx) hc hx
  exact⟨sl',e2⟩
 free:=fun c ob q n hx=>by
  obtain⟨o',e1⟩:=a.there c ob q hx
  exact b.free c o' e1 (a.free c ob q n hx) hx
 there:=fun c ob q hx=>by
  obtain⟨o',e1⟩:=a.there c ob q hx
  exact b.there c o' e1 hx
 tups:=fun c xs q=>b.tups c xs (a.tups c xs q)
 frzs:=fun c ob xs q=>b.frzs c ob xs (a.frzs c ob xs q)
 tbls:=fun c ps q=>by
  obtain⟨m1,e1⟩:=a.tbls c ps q
  obtain⟨m2,e2⟩:=b.tbls c _ e1
  exact⟨m1++m2,by rw[e2,Array.append_assoc]⟩
theorem Un.kept(k:∀ b u,h.get? b=some u→h'.get? b=some u):Un fs ex H H h h' :=
 ⟨fun b ob q _ _ _=>k b ob q,fun b ob q _ _ _=>⟨ob.slots,k b ob q⟩,fun _ _ _ n _=>n,fun b ob q _=>⟨ob,k b ob q⟩,fun _ _ q=>q,fun _ _ _ q=>q,fun _ ps q=>⟨#[],by rw[q];simp⟩⟩
theorem Un.refl:Un fs ex H H h h:=Un.kept fun _ _ q=>q
theorem Un.laid(k:∀ b u,h.get? b=some u→h'.get? b=some u)(hp:h.objs.size≤a)(hn:H a=none):Un fs ex H (upd H a o) h h' where
 keep:=fun b u q _ _ _=>k b u q
 slot:=fun b u q _ _ _=>⟨u.slots,k b u q⟩
 free:=fun b u q n _=>by rw[g9 (Qi (Pt (Pz q) hp))];exact n
 there:=fun b u q _=>⟨u,k b u q⟩
 tups:=fun b xs q=>by rw[g9 (E9 q hn)];exact q
 frzs:=fun b u xs q=>by rw[g9 (E9 q hn)];exact q
 tbls:=fun b ps q=>⟨#[],by rw[g9 (E9 q hn),q];simp⟩
theorem Un.write(mu:Mut (H x))(he:e=x∨H e=some (.own x))(k:∀ b u,b≠e→h.get? b=some u→h'.get? b=some u)(heo:∃ u,h'.get? e=some u):Un fs ex H (upd H x o) h h':=by
 have hx:∀ b,H b=none→b≠x:=fun b n z=>by subst z;rw[n]at mu;exact mu
 have hb:∀ b,H b=none→b≠e:=fun b n z=>by
  subst z
  rcases he with r|r
  ·exact hx b n r
  ·rw[n]at r;cases r
 have hm:∀ b u,H b=some u→¬ Mut (some u)→b≠x:=fun b u q nm z=>by subst z;rw[q]at mu;exact nm mu
 refine⟨fun b u q n _ _=>k b u (hb b n) q,fun b u q n _ _=>⟨u.slots,k b u (hb b n) q⟩,fun b u q n _=>by rw[g9 (hx b n)];exact n,fun b u q _=>?_,
  fun b xs q=>by rw[g9 (hm b _ q fun z=>z)];exact q,fun b u xs q=>by rw[g9 (hm b _ q fun z=>z)];exact q,fun b ps q=>⟨#[],by rw[g9 (hm b _ q fun z=>z),q];simp⟩⟩
 by_cases hbe:b=e
 ·subst hbe;exact heo
 ·exact⟨u,k b u hbe q⟩
theorem Un.mono(u:Un fs ex H H1 h h1)(hs:∀ b∈fs,b∈fs')(hx:∀ b∈ex,b∈ex'):Un fs' ex' H H1 h h1 :=
 ⟨fun b ob q n hb he=>u.keep b ob q n (fun z=>hb (hs b z)) fun z=>he (hx b z),fun _ _ q n _ he=>u.any q n fun z=>he (hx _ z),fun b ob q n he=>u.free b ob q n fun z=>he (hx b z),fun b ob q he=>u.there b ob q fun z=>he (hx b z),u.tups,u.frzs,u.tbls⟩
end
noncomputable def trk(h:Heap)(H:Hp):List Addr:=(QM h.objs.size).filter fun a=>(H a).isSome
noncomputable def lP(h:Heap)(H:Hp):Heap:=PySem.W.hideAll h (trk h H)
theorem vV(h:Heap)(H:Hp):(lP h H).objs.size=h.objs.size:=PySem.W.hideAll_size _ _
theorem zU{h:Heap}{H:Hp}{b:Addr}{o:Obj}(e:h.get? b=some o)(n:H b=none):(lP h H).get? b=some o :=
 PySem.W.hideAll_get _ e fun hm=>by
  have q:(H b).isSome=true:=(Sj.mp hm).2
  rw[n]at q;simp at q
theorem Dn{h:Heap}{H:Hp}{b:Addr}{o:Obj}(e:(lP h H).get? b=some o):h.get? b=some o∧H b=none:=by
 have e':h.get? b=some o:=PySem.W.of_hideAll (trk h H) e
 refine⟨e',?_⟩
 cases q:H b with
 | none=>rfl
 | some x =>
  have hm:b∈trk h H:=Sj.mpr ⟨RU.mpr (Pz e'),by simp[q]⟩
  have z:(lP h H).get? b=none:=PySem.W.hideAll_none (trk h H) hm
  rw[z]at e;cases e
noncomputable def eV(g h:Heap)(L:Addr):List (Addr × Obj):=(QM h.objs.size).filterMap fun a=>if a=L∨(g.get? a).isSome=true then none else(h.get? a).map fun o=>(a,o)
theorem F3{g h:Heap}{L a:Addr}{o:Obj}(h1:a≠L)(h2:g.get? a=none)(h3:h.get? a=some o):(a,o)∈eV g h L :=
 RG.mpr ⟨a,RU.mpr (Pz h3),by simp[h1,h2,h3]⟩
theorem gu{g h:Heap}{L:Addr}{p:Addr × Obj}(hp:p∈eV g h L):p.1≠L∧g.get? p.1=none∧h.get? p.1=some p.2:=by
 obtain⟨b,_,e⟩:=RG.mp hp
 split at e
 ·cases e
 ·rename_i hn
  cases q:h.get? b with
  | none=>rw[q]at e;simp at e
  | some u =>
   rw[q]at e
   simp only[Td,Option.some.injEq]at e
   subst e
   refine⟨fun z=>hn (.inl z),?_,q⟩
   show g.get? b=none
   cases r:g.get? b with
   | none=>rfl
   | some v=>exact(hn (.inr (by simp[r]))).elim
noncomputable def G8(g h:Heap)(L d:Addr):List (Addr × Obj):=(eV g h L).filter fun p=>decide (p.1≠d)
theorem oV{g h:Heap}{L:Addr}:News g L h (eV g h L):=fun p hp=>let ⟨a,b,c⟩:=gu hp;⟨c,a,b⟩
structure Mod(K:Pg)(mg:Str→Option Value)(base:Heap):Prop where
 kin:K.In base
 glob:base.Ns mainGlobals mg
 blt:∃ mb,base.Ns builtinsNs mb∧∀ x:Str,x ≠ "__name__" → mb x=bootBuiltins x
 nolimit:base.NoLimit
structure Cx where
 prog:Program
 w:World
 K:Pg
 mg:Str→Option Value
 base:Heap
 A:Around
 N:List Str
 s₀:Shared
 H₀:Hp
 env:Env
 outer:List Env
 stack:List Env
 ex:List Addr
 fn:Str→Bool
 calm:Bool
 pn:List (Addr × Obj)
 xe:Value→Shared→Prop
noncomputable def frs(l:List Env):List Addr:=l.filterMap (·.frame)
noncomputable abbrev Cx.fs(X:Cx):List Addr:=frs X.outer
def Vis(sc:Scope)(x:Str):Prop:=sc.names.lookup x=some .local∨sc.names.lookup x=some .cell∨sc.names.lookup x=some .free
def Loc(sc:Scope)(x:Str):Prop:=sc.names.lookup x=some .local∨sc.names.lookup x=some .cell
def Mw(env:Env)(h:Heap)(m:Str→Option Value)(x:Str)(u:Value):Prop :=
 (env.kindOf x=some .local∧m x=some u)∨((env.kindOf x=some .cell∨env.kindOf x=some .free)∧∃ c,env.cells.lookup x=some c∧h.IsCell c (some u))
structure Cx.Ok(X:Cx):Prop where
 mod:Mod X.K X.mg X.base
 kind:X.env.scope.kind = .function
 glob:X.env.globals=mainGlobals
 blt:X.env.builtins=builtinsNs
 above:X.s₀.heap.objs.size≤X.env.locals
 inj:∀ x y c,X.env.cells.lookup x=some c→X.env.cells.lookup y=some c→x=y
 has:∀ x,(X.env.kindOf x=some .cell∨X.env.kindOf x=some .free)→∃ c,X.env.cells.lookup x=some c
 cab:∀ x c,X.fn x=true→X.env.cells.lookup x=some c→X.s₀.heap.objs.size≤c
 hd:X.calm=true→X.A.handled=none
 frames:X.A.frames=some X.stack
 stk:X.stack=X.outer∨(X.stack=X.env :: X.outer∧X.env.frame=some X.env.locals)
 exf:∀ b∈X.ex,b≠X.env.locals∧∀ x c,X.env.cells.lookup x=some c→c≠b
 bs:∀ b o,X.base.get? b=some o→X.s₀.heap.get? b=some o∧X.H₀ b=none
 bsz:X.base.objs.size≤X.s₀.heap.objs.size
 noex:∀ b o,X.base.get? b=some o→b∉X.ex
 exfs:∀ b∈X.ex,b∉X.fs
 funs:X.s₀.heap.FunFrames X.base X.outer
 frf:∀ b∈X.fs,X.H₀ b=none
structure Inv(X:Cx)(pins:List (Addr × Obj))(σ:List (Option V))(H:Hp)(s:Shared):Prop where
 ok:X.Ok
 os:s.os=X.s₀.os
 bare:AllBare s.gens
 base:Un X.fs X.ex X.H₀ H X.s₀.heap s.heap
 loc:∃ m,s.heap.Ns X.env.locals m∧∀(i:Nat) (x:Str) (v:V),X.N[i]? = some x→σ[i]? = some (some v)→Vis X.env.scope x→∃ u,p7 v u∧Mw X.env s.heap m x u
 cell:∀ x c,X.env.cells.lookup x=some c→∃ v,s.heap.IsCell c v
 free:H X.env.locals=none
 freeC:∀ x c,X.env.cells.lookup x=some c→H c=none
 pin:∀ p∈X.pn++pins,s.heap.get? p.1=some p.2∧H p.1=none∧p.1≠X.env.locals∧p.1∉X.fs∧∀ v,p.2.data ≠ .cell v
 hok:HOk X.prog X.w H s.heap
 len:σ.length=X.N.length
section
variable {X:Cx} {pins:List (Addr × Obj)} {σ:List (Option V)} {H H':Hp} {s:Shared} {h':Heap}
theorem Cx.Ok.nofr(ok:X.Ok){b:Addr}{o:Obj}(e:X.base.get? b=some o):b∉X.fs:=fun hb=>by
 have:=(ok.funs.mem hb).1
 rw[e]at this;cases this
theorem Inv.bs(I:Inv X pins σ H s):∀ b o,X.base.get? b=some o→s.heap.get? b=some o∧H b=none:=fun b o e =>
 ⟨I.base.keep b o (I.ok.bs b o e).1 (I.ok.bs b o e).2 (I.ok.nofr e) (I.ok.noex b o e),I.base.free b o (I.ok.bs b o e).1 (I.ok.bs b o e).2 (I.ok.noex b o e)⟩
theorem Inv.bk(I:Inv X pins σ H s):∀ b o,X.base.get? b=some o→s.heap.get? b=some o:=fun b o e=>(I.bs b o e).1
theorem Inv.mod(I:Inv X pins σ H s):Mod X.K X.mg X.base:=I.ok.mod
theorem Inv.kIn(I:Inv X pins σ H s):X.K.In s.heap:=I.ok.mod.kin.keeps I.bk
theorem Inv.nolimit(I:Inv X pins σ H s):s.heap.NoLimit:=I.ok.mod.nolimit.keeps I.bk
theorem Inv.fr(I:Inv X pins σ H s):∃ m,Fr X.base X.env.locals s.heap m :=
 let ⟨m,hn,_⟩:=I.loc
 ⟨m,hn,I.bk,Pu I.ok.bsz I.ok.above⟩
theorem Inv.lt(I:Inv X pins σ H s):X.env.locals<s.heap.objs.size:=let ⟨_,hn,_⟩:=I.loc;hn.lt
theorem Inv.sz(I:Inv X pins σ H s):X.s₀.heap.objs.size≤s.heap.objs.size:=Pu I.ok.above (Ri I.lt)
theorem Inv.nofs(I:Inv X pins σ H s){a:Addr}(h:s.heap.objs.size≤a):a∉X.fs:=fun hb=>by
 obtain⟨_,o,ho,_⟩:=I.ok.funs.mem hb
 exact absurd (Pt (Pz ho) (Pu I.sz h)) (QP _)
theorem Inv.cne(I:Inv X pins σ H s):∀ x c,X.env.cells.lookup x=some c→c≠X.env.locals:=fun x c e z=>by
 obtain⟨v,o,ho,hd⟩:=I.cell x c e
 obtain⟨m,⟨o',es,ep,ho',hd',_⟩,_⟩:=I.loc
 rw[z,ho']at ho;cases ho;rw[hd']at hd;cases hd
theorem Inv.funs(I:Inv X pins σ H s):s.heap.FunFrames X.base X.outer:=by
 have all:∀(l:List Env),(∀ b∈frs l,b∈X.fs)→X.s₀.heap.FunFrames X.base l→s.heap.FunFrames X.base l:=by
  intro l
  induction l with
  | nil=>intro _ _;trivial
  | cons env r ih =>
   intro hs hl
   obtain⟨hk,⟨L,o,hf,hn,ho,hd⟩,hr⟩:=hl
   have hL:L∈X.fs:=hs L (by unfold frs;rw[Sk,hf];exact Po)
   obtain⟨sl,e⟩:=I.base.slot L o ho (I.ok.frf L hL) hL fun z=>I.ok.exfs L z hL
   exact⟨hk,⟨L,_,hf,hn,e,hd⟩,ih (fun b hb=>hs b (by unfold frs;rw[Sk,hf];exact Pk _ hb)) hr⟩
 exact all X.outer (fun _ hb=>hb) I.ok.funs
theorem Inv.stack(I:Inv X pins σ H s):s.heap.FunFrames X.base X.stack:=by
 rcases I.ok.stk with e|⟨e,hf⟩
 ·rw[e];exact I.funs
 ·rw[e]
  obtain⟨m,hn,_⟩:=I.loc
  refine .cons (by rw[I.ok.kind];decide) hf hn ?_ I.funs
  exact Heap.get?_none_of_le (Pu I.ok.bsz I.ok.above)
theorem Inv.stkSub(I:Inv X pins σ H s):∀ b∈frs X.stack,b∈X.env.locals :: X.fs:=fun b hb=>by
 rcases I.ok.stk with e|⟨e,hf⟩
 ·rw[e]at hb;exact Pk _ hb
 ·rw[e]at hb
  unfold frs at hb
  rw[Sk,hf]at hb
  exact hb
theorem Inv.stkFree(I:Inv X pins σ H s):∀ b∈frs X.stack,H b=none:=fun b hb=>by
 rcases Pn.mp (I.stkSub b hb)with e|hb
 ·rw[e];exact I.free
 ·obtain⟨_,o,ho,_⟩:=I.ok.funs.mem hb
  exact I.base.free b o ho (I.ok.frf b hb) fun z=>I.ok.exfs b z hb
theorem Inv.step{g':Array GenState}{t':Nat}{d':Drawn}{ch:List Addr}(I:Inv X pins σ H s)
  (hch:∀ b∈ch,(b∈X.ex∨X.s₀.heap.objs.size≤b)∧b≠X.env.locals∧(∀ x c,X.env.cells.lookup x=some c→c≠b)∧∀ p∈X.pn++pins,p.1≠b)
  (keep:∀ b o,b≠X.env.locals→b∉X.fs→b∉ch→s.heap.get? b=some o→H b=none→h'.get? b=some o)
  (slot:∀ b o,b≠X.env.locals→b∈X.fs→b∉ch→s.heap.get? b=some o→H b=none→∃ sl,h'.get? b=some { o with slots:=sl }) (free:∀ b o,b∉ch→s.heap.get? b=some o→H b=none→H' b=none)
  (there:∀ b o,b∉ch→s.heap.get? b=some o→∃ o',h'.get? b=some o')
  (tups:∀ b xs,H b=some (.tup xs)→H' b=some (.tup xs)) (frzs:∀ b o u,H b=some (.frz o u)→H' b=some (.frz o u)) (tbls:∀ b ps,H b=some (.tbl ps)→∃ more,H' b=some (.tbl (ps++more)))
  (ns:∀ m,s.heap.Ns X.env.locals m→h'.Ns X.env.locals m) (hok:HOk X.prog X.w H' h') (hg:AllBare g') :
  Inv X pins σ H' { s with heap:=h',gens:=g',drawn:=d',toks:=t' }:=by
 have neL:∀ b o,X.s₀.heap.get? b=some o→b≠X.env.locals:=fun b o e=>Qi (Pt (Pz e) I.ok.above)
 have neC:∀ b o,X.s₀.heap.get? b=some o→b∉X.ex→b∉ch:=fun b o e hx hb=>by
  rcases(hch b hb).1 with z|z
  ·exact hx z
  ·exact absurd (Pt (Pz e) z) (QP _)
 have cellK:∀ x c,X.env.cells.lookup x=some c→∀ v,s.heap.IsCell c v→h'.IsCell c v:=fun x c e v zz=>by
  obtain⟨o,ho,hd⟩:=zz
  have nch:c∉ch:=fun z=>(hch c z).2.2.1 x c e rfl
  by_cases hc:c∈X.fs
  ·obtain⟨sl,q⟩:=slot c o (I.cne x c e) hc nch ho (I.freeC x c e)
   exact⟨_,q,hd⟩
  ·exact⟨o,keep c o (I.cne x c e) hc nch ho (I.freeC x c e),hd⟩
 refine⟨I.ok,I.os,hg,⟨fun b o e n hb hx=>?_,fun b o e n hb hx=>?_,fun b o e n hx=>?_,fun b o e hx=>?_,fun b xs e=>tups b xs (I.base.tups b xs e),fun b o xs e=>frzs b o xs (I.base.frzs b o xs e),fun b ps e=>?_⟩,?_,fun x c e=>?_,?_,fun x c e=>?_,fun p hp=>?_,hok,I.len⟩
 ·exact keep b o (neL b o e) hb (neC b o e hx) (I.base.keep b o e n hb hx) (I.base.free b o e n hx)
 ·obtain⟨sl,e1⟩:=I.base.slot b o e n hb hx
  obtain⟨sl',e2⟩:=slot b _ (neL b o e) hb (neC b o e hx) e1 (I.base.free b o e n hx)
  exact⟨sl',e2⟩
 ·obtain⟨o',e1⟩:=I.base.there b o e hx
  exact free b o' (neC b o e hx) e1 (I.base.free b o e n hx)
 ·obtain⟨o',e1⟩:=I.base.there b o e hx
  exact there b o' (neC b o e hx) e1
 ·obtain⟨m1,e1⟩:=I.base.tbls b ps e
  obtain⟨m2,e2⟩:=tbls b _ e1
  exact⟨m1++m2,by rw[e2,Array.append_assoc]⟩
 ·obtain⟨m,hn,hl⟩:=I.loc
  refine⟨m,ns m hn,fun i x v e1 e2 e3=>?_⟩
  obtain⟨u,r,l⟩:=hl i x v e1 e2 e3
  refine⟨u,r,?_⟩
  rcases l with l|⟨k,c,e,z⟩
  ·exact .inl l
  ·exact .inr ⟨k,c,e,cellK x c e _ z⟩
 ·obtain⟨v,z⟩:=I.cell x c e
  exact⟨v,cellK x c e v z⟩
 ·obtain⟨m,⟨o,_,_,ho,_⟩,_⟩:=I.loc
  exact free _ o (fun z=>(hch _ z).2.1 rfl) ho I.free
 ·obtain⟨v,o,ho,hd⟩:=I.cell x c e
  exact free c o (fun z=>(hch c z).2.2.1 x c e rfl) ho (I.freeC x c e)
 ·obtain⟨e,n,ne,nf,d⟩:=I.pin p hp
  have nch:p.1∉ch:=fun z=>(hch p.1 z).2.2.2 p hp rfl
  exact⟨keep p.1 p.2 ne nf nch e n,free p.1 p.2 nch e n,ne,nf,d⟩
theorem Inv.un{t':Nat}(I:Inv X pins σ H s)(u:Un X.fs [] H H' s.heap h')(hok:HOk X.prog X.w H' h'):Inv X pins σ H' { s with heap:=h',toks:=t' }:=by
 obtain⟨m,⟨o,es,ep,ho,r⟩,_⟩:=id I.loc
 obtain⟨sl,hL⟩:=u.any ho I.free (by simp)
 exact I.step (g':=s.gens) (d':=s.drawn) (ch:=[]) (fun _ z=>nomatch z) (fun b o _ hb _ e n=>u.keep b o e n hb (by simp)) (fun b o _ hb _ e n=>u.slot b o e n hb (by simp)) (fun b o _ e n=>u.free b o e n (by simp)) (fun b o _ e=>u.there b o e (by simp)) u.tups u.frzs u.tbls (fun m' hm=>by
  obtain⟨o',es',ep',ho',r'⟩:=hm
  rw[ho]at ho';cases ho'
  exact⟨_,es',ep',hL,r'⟩) hok I.bare
theorem Inv.call{g':Array GenState}{t':Nat}{d':Drawn}{ch:List Addr}(I:Inv X pins σ H s)(u:Un (frs X.stack) ch H H' s.heap h')(hok:HOk X.prog X.w H' h')(hg:AllBare g')
  (hch:∀ b∈ch,(b∈X.ex∨X.s₀.heap.objs.size≤b)∧b≠X.env.locals∧(∀ x c,X.env.cells.lookup x=some c→c≠b)∧∀ p∈X.pn++pins,p.1≠b) :
  Inv X pins σ H' { s with heap:=h',gens:=g',drawn:=d',toks:=t' }:=by
 obtain⟨m,⟨o,es,ep,ho,r⟩,_⟩:=id I.loc
 obtain⟨sl,hL⟩:=u.any ho I.free fun z=>(hch _ z).2.1 rfl
 exact I.step (ch:=ch) hch (fun b o hL hb hc e n=>u.keep b o e n (fun z=>(Pn.mp (I.stkSub b z)).elim hL hb) hc) (fun b o _ _ hc e n=>u.any e n hc) (fun b o hc e n=>u.free b o e n hc) (fun b o hc e=>u.there b o e hc) u.tups u.frzs u.tbls (fun m' hm=>by
  obtain⟨o',es',ep',ho',r'⟩:=hm
  rw[ho]at ho';cases ho'
  exact⟨_,es',ep',hL,r'⟩) hok hg
theorem Inv.turned{t':Nat}{it:Addr}(I:Inv X pins σ H s)(k:∀ b o,b≠it→s.heap.get? b=some o→h'.get? b=some o)(hn:H it=none)(hL:it≠X.env.locals)
  (h1:it∈X.ex∨X.s₀.heap.objs.size≤it) (h2:∀ x c,X.env.cells.lookup x=some c→c≠it) (h3:∀ p∈X.pn++pins,p.1≠it):Inv X pins σ H { s with heap:=h',toks:=t' }:=by
 have nit:∀ b u,H b=some u→b≠it:=fun b u e z=>by rw[z,hn]at e;cases e
 refine I.step (g':=s.gens) (d':=s.drawn) (ch:=[it]) (fun b hb=>?_) (fun b o _ _ hc e _=>k b o (fun z=>hc (by simp[z])) e) (fun b o _ _ hc e _=>⟨o.slots,k b o (fun z=>hc (by simp[z])) e⟩) (fun _ _ _ _ n=>n)
  (fun b o hc e=>⟨o,k b o (fun z=>hc (by simp[z])) e⟩) (fun _ _ e=>e) (fun _ _ _ e=>e) (fun b ps e=>⟨#[],by rw[e];simp⟩) (fun m hm=>?_) (fun b u e=>?_) I.bare
 ·have e:b=it:=by simpa using hb
  subst e
  exact⟨h1,hL,h2,h3⟩
 ·obtain⟨o,es,ep,ho,r⟩:=hm
  exact⟨o,es,ep,k _ o (Ne.symm hL) ho,r⟩
 ·refine(I.hok b u e).stay (fun c v hc q=>k c v ?_ q) (fun _ q=>q) fun _ _ q=>q
  rcases hc with z|z
  ·rw[z];exact nit b u e
  ·exact nit c _ z
theorem Inv.tok(I:Inv X pins σ H s)(t:Nat):Inv X pins σ H { s with toks:=t }:=I.un (h':=s.heap) (t':=t) Un.refl I.hok
theorem Inv.kept{t':Nat}(I:Inv X pins σ H s)(k:∀ b u,s.heap.get? b=some u→h'.get? b=some u):Inv X pins σ H { s with heap:=h',toks:=t' }:=I.un (Un.kept k) (I.hok.kept k)
theorem Inv.laid{a:Addr}{o:HO}{t':Nat}(I:Inv X pins σ H s)(k:∀ b u,s.heap.get? b=some u→h'.get? b=some u)(hp:s.heap.objs.size≤a)(new:C1 X.prog X.w (upd H a o) h' a o) :
  Inv X pins σ (upd H a o) { s with heap:=h',toks:=t' }:=I.un (Un.laid k hp (I.hok.fresh hp)) (I.hok.laid k hp new)
theorem Inv.write{x e:Addr}{o:HO}{t':Nat}(I:Inv X pins σ H s)(mu:Mut (H x))(he:e=x∨H e=some (.own x))(k:∀ b u,b≠e→s.heap.get? b=some u→h'.get? b=some u)(heo:∃ u,h'.get? e=some u)
  (new:C1 X.prog X.w (upd H x o) h' x o):Inv X pins σ (upd H x o) { s with heap:=h',toks:=t' }:=I.un (Un.write mu he k heo) (I.hok.write mu he k heo new)
theorem Inv.pins_of{pins':List (Addr × Obj)}(I:Inv X pins σ H s)(h:∀ p∈pins',s.heap.get? p.1=some p.2∧H p.1=none∧p.1≠X.env.locals∧p.1∉X.fs∧∀ v,p.2.data ≠ .cell v):Inv X pins' σ H s :=
 ⟨I.ok,I.os,I.bare,I.base,I.loc,I.cell,I.free,I.freeC,fun p hp=>(PL.mp hp).elim (fun z=>I.pin p (QF _ z)) (h p),I.hok,I.len⟩
theorem oU{N:List Str}(hN:N.Nodup){i j:Nat}{x:Str}(a:N[i]? = some x)(b:N[j]? = some x):i=j:=by
 obtain⟨h1,e1⟩:=Pw.mp a
 obtain⟨h2,e2⟩:=Pw.mp b
 exact(Ul hN).mp (e1.trans e2.symm)
theorem jg{M:Model}{A:Around}{E:Value→Shared→Prop}{i:Nat}{x:Str}{v:V}{u:Value}{Q:Unit→Shared→Prop}(I:Inv X pins σ H s)(hN:X.N.Nodup)(hi:X.N[i]? = some x)(hx:Loc X.env.scope x)(r:p7 v u)
  (h:∀ s',Inv X pins (σ.set i (some v)) H s'→(∃ a,Heap.SameBut a s.heap s'.heap∧(a=X.env.locals∨X.env.cells.lookup x=some a))→Q () s') (hf:X.fn x=true∨X.env.scope.names.lookup x=some .local:=by first|exact .inl rfl|exact .inr rfl|assumption):wpAny M A (storeName X.env x u) Q E s:=by
 obtain⟨m,hn,hl⟩:=id I.loc
 have hcls:(X.env.scope.kind == .class || (X.env.scope.kind == .module && X.env.locals != X.env.globals))=false:=by rw[I.ok.kind];rfl
 have hiσ:i<σ.length:=by rw[I.len];exact(Pw.mp hi).1
 have cne:=I.cne
 have tracked:∀{a:Addr} {h':Heap},(∃ o,s.heap.get? a=some o∧H a=none)→Heap.SameBut a s.heap h'→HOk X.prog X.w H h':=fun{a h'} ha hs b ob e=>by
  obtain⟨_,_,hfree⟩:=ha
  refine(I.hok b ob e).stay (fun c w' hc q=>(hs.2 c ?_).trans q) (fun _ q=>q) fun _ _ q=>q
  rintro rfl
  rcases hc with rfl|hc
  ·rw[hfree]at e;cases e
  ·rw[hfree]at hc;cases hc
 rcases hx with hk|hk
 ·refine wpAny_storeName_local hk hn (fun h' hn' hs=>?_) hcls
  obtain⟨oL,_,_,hoL,_⟩:=id hn
  refine h _ ⟨I.ok,I.os,I.bare,⟨fun b o e n hb hx=>?_,fun b o e n hb hx=>?_,I.base.free,fun b o e hx=>?_,I.base.tups,I.base.frzs,I.base.tbls⟩,⟨_,hn',fun j y v' e1 e2 e3=>?_⟩,fun y c e=>?_,I.free,I.freeC,fun p hp=>?_,tracked ⟨oL,hoL,I.free⟩ hs,by simpa using I.len⟩ ⟨_,hs,.inl rfl⟩
  ·exact(hs.2 b (Qi (Pt (Pz e) I.ok.above))).trans (I.base.keep b o e n hb hx)
  ·obtain⟨sl,e1⟩:=I.base.slot b o e n hb hx
   exact⟨sl,(hs.2 b (Qi (Pt (Pz e) I.ok.above))).trans e1⟩
  ·obtain⟨o',e1⟩:=I.base.there b o e hx
   exact⟨o',(hs.2 b (Qi (Pt (Pz e) I.ok.above))).trans e1⟩
  ·by_cases hj:j=i
   ·subst hj
    rw[hi]at e1;cases e1
    rw[SW hiσ]at e2
    cases e2
    exact⟨u,r,.inl ⟨hk,by simp⟩⟩
   ·rw[Ts (Ne.symm hj)]at e2
    obtain⟨u',r',q⟩:=hl j y v' e1 e2 e3
    refine⟨u',r',?_⟩
    rcases q with⟨k,e⟩|⟨k,c,e,z⟩
    ·refine .inl ⟨k,?_⟩
     have:y≠x:=fun e=>hj (oU hN e1 (e▸hi))
     simp[this,e]
    ·exact .inr ⟨k,c,e,z.sameBut hs (cne y c e)⟩
  ·obtain⟨w',z⟩:=I.cell y c e
   exact⟨w',z.sameBut hs (cne y c e)⟩
  ·obtain⟨e,n,ne,nf,d⟩:=I.pin p hp
   exact⟨(hs.2 p.1 ne).trans e,n,ne,nf,d⟩
 ·have hfn:X.fn x=true:=by
   rcases hf with z|z
   ·exact z
   ·rw[z]at hk;cases hk
  obtain⟨c,hc⟩:=I.ok.has x (.inl hk)
  obtain⟨w',z⟩:=I.cell x c hc
  refine wpAny_storeName_cell I.ok.kind hk hc z (fun h' hc' hs=>?_)
  obtain⟨oc,hoc,hocd⟩:=id z
  refine h { s with heap:=h' } ⟨I.ok,I.os,I.bare,⟨fun b o e n hb hx=>?_,fun b o e n hb hx=>?_,I.base.free,fun b o e hx=>?_,I.base.tups,I.base.frzs,I.base.tbls⟩,⟨m,hn.sameBut hs (Ne.symm (cne x c hc)),fun j y v' e1 e2 e3=>?_⟩,fun y c' e=>?_,I.free,I.freeC,fun p hp=>?_,tracked ⟨oc,hoc,I.freeC x c hc⟩ hs,by simpa using I.len⟩ ⟨c,hs,.inr hc⟩
  ·exact(hs.2 b (Qi (Pt (Pz e) (I.ok.cab x c hfn hc)))).trans (I.base.keep b o e n hb hx)
  ·obtain⟨sl,e1⟩:=I.base.slot b o e n hb hx
   exact⟨sl,(hs.2 b (Qi (Pt (Pz e) (I.ok.cab x c hfn hc)))).trans e1⟩
  ·obtain⟨o',e1⟩:=I.base.there b o e hx
   exact⟨o',(hs.2 b (Qi (Pt (Pz e) (I.ok.cab x c hfn hc)))).trans e1⟩
  ·by_cases hj:j=i
   ·subst hj
    rw[hi]at e1;cases e1
    rw[SW hiσ]at e2
    cases e2
    exact⟨u,r,.inr ⟨.inl hk,c,hc,hc'⟩⟩
   ·rw[Ts (Ne.symm hj)]at e2
    obtain⟨u',r',q⟩:=hl j y v' e1 e2 e3
    refine⟨u',r',?_⟩
    rcases q with q|⟨k,c',e,z'⟩
    ·exact .inl q
    ·refine .inr ⟨k,c',e,z'.sameBut hs ?_⟩
     rintro rfl
     exact hj (oU hN e1 (I.ok.inj _ _ _ e hc▸hi))
  ·by_cases hcc:c'=c
   ·subst hcc;exact⟨_,hc'⟩
   ·obtain⟨w2,z2⟩:=I.cell y c' e
    exact⟨w2,z2.sameBut hs hcc⟩
  ·obtain⟨e,n,ne,nf,d⟩:=I.pin p hp
   refine⟨(hs.2 p.1 ?_).trans e,n,ne,nf,d⟩
   intro q
   rw[q,hoc]at e
   have q':oc=p.2:=Option.some.inj e
   exact d w' (by rw[← q'];exact hocd)
theorem aR{M:Model}{A:Around}{E:Value→Shared→Prop}{i:Nat}{x:Str}{v:V}{u:Value}{Q:Unit→Shared→Prop}(I:Inv X pins σ H s)(hN:X.N.Nodup)(hi:X.N[i]? = some x)(hx:Loc X.env.scope x)(r:p7 v u)
  (h:∀ s',Inv X pins (σ.set i (some v)) H s'→Q () s') (hf:X.fn x=true∨X.env.scope.names.lookup x=some .local:=by first|exact .inl rfl|exact .inr rfl|assumption):wpAny M A (storeName X.env x u) Q E s :=
 jg I hN hi hx r (fun s' I' _=>h s' I') hf
theorem Inv.call'{s':Shared}{ch:List Addr}(I:Inv X pins σ H s)(ho:s'.os=s.os)(u:Un (frs X.stack) ch H H' s.heap s'.heap)(hok:HOk X.prog X.w H' s'.heap)(hg:AllBare s'.gens)
  (hch:∀ b∈ch,(b∈X.ex∨X.s₀.heap.objs.size≤b)∧b≠X.env.locals∧(∀ x c,X.env.cells.lookup x=some c→c≠b)∧∀ p∈X.pn++pins,p.1≠b):Inv X pins σ H' s':=by
 obtain⟨h',g',d',t',o'⟩:=s'
 have e:o'=s.os:=ho
 subst e
 exact I.call (g':=g') (t':=t') (d':=d') u hok hg hch
end
noncomputable abbrev XK:=Value→Option Addr→Hp→Prop
noncomputable abbrev St:=List (Option V)
noncomputable abbrev VK:=V→Hp→Prop
noncomputable abbrev TE:=St→Hp→VK→Prop
noncomputable abbrev TT:=St→Hp→(Bool→Hp→Prop)→Prop
noncomputable abbrev TA:=St→Hp→(List V→Hp→Prop)→Prop
structure qd where
 nx:St→Hp→Prop
 rt:VK
 bk:St→Hp→Prop:=fun _ _=>False
 ct:St→Hp→Prop:=fun _ _=>False
noncomputable abbrev TS:=qd→St→Hp→Prop
def EP(X:Cx)(pins:List (Addr × Obj))(σ:St)(Q:VK)(u:Value)(s':Shared):Prop:=∃ v H',Inv X pins σ H' s'∧p7 v u∧Q v H'
def TP(X:Cx)(pins:List (Addr × Obj))(σ:St)(Q:Bool→Hp→Prop)(b:Bool)(s':Shared):Prop:=∃ H',Inv X pins σ H' s'∧Q b H'
def AP(X:Cx)(pins:List (Addr × Obj))(σ:St)(Q:List V→Hp→Prop)(us:List Value)(s':Shared):Prop:=∃ vs H',Inv X pins σ H' s'∧j0 vs us∧Q vs H'
def SP(X:Cx)(pins:List (Addr × Obj))(D:qd)(f:Flow)(s':Shared):Prop :=
 match f with
 | .next=>∃ σ' H',Inv X pins σ' H' s'∧D.nx σ' H'
 | .brk=>∃ σ' H',Inv X pins σ' H' s'∧D.bk σ' H'
 | .cont=>∃ σ' H',Inv X pins σ' H' s'∧D.ct σ' H'
 | .ret u=>∃ v σ' H',Inv X pins σ' H' s'∧p7 v u∧D.rt v H'
def PE(X:Cx)(e:Expr)(t:TE):Prop :=
 ∀(pins:List (Addr × Obj)) (s:Shared) (σ:St) (H:Hp) (Q:VK),Inv X pins σ H s→t σ H Q→wpAny (model X.prog X.w) X.A (eval e X.env) (EP X pins σ Q) X.xe s
def PT(X:Cx)(e:Expr)(t:TT):Prop :=
 ∀(pins:List (Addr × Obj)) (s:Shared) (σ:St) (H:Hp) (Q:Bool→Hp→Prop),Inv X pins σ H s→t σ H Q→wpAny (model X.prog X.w) X.A (isTrue e X.env (eval e X.env)) (TP X pins σ Q) X.xe s
def PW(X:Cx)(e:Expr)(t:TT):Prop :=
 ∀(whole:Sem Value) (pins:List (Addr × Obj)) (s:Shared) (σ:St) (H:Hp) (Q:Bool→Hp→Prop),Inv X pins σ H s→t σ H Q→wpAny (model X.prog X.w) X.A (isTrue e X.env whole) (TP X pins σ Q) X.xe s
theorem PW.pt{X:Cx}{e:Expr}{t:TT}(h:PW X e t):PT X e t:=h _
def PA(X:Cx)(es:List Expr)(t:TA):Prop :=
 ∀(pos:Pos) (pins:List (Addr × Obj)) (s:Shared) (σ:St) (H:Hp) (Q:List V→Hp→Prop),Inv X pins σ H s→t σ H Q→wpAny (model X.prog X.w) X.A (spliced (backTo pos (starEach es X.env))) (AP X pins σ Q) X.xe s
def PS(X:Cx)(st:Stmt)(t:TS):Prop :=
 ∀(pins:List (Addr × Obj)) (s:Shared) (σ:St) (H:Hp) (D:qd),Inv X pins σ H s→t D σ H→wpAny (model X.prog X.w) X.A (exec st X.env) (SP X pins D) X.xe s
def PSs(X:Cx)(st:List Stmt)(t:TS):Prop :=
 ∀(pins:List (Addr × Obj)) (s:Shared) (σ:St) (H:Hp) (D:qd),Inv X pins σ H s→t D σ H→wpAny (model X.prog X.w) X.A (execs st X.env) (SP X pins D) X.xe s
theorem thn{α:Type}{t:Sem α}{Q Q':α→Shared→Prop}{M:Model}{A:Around}{E:Value→Shared→Prop}{s:Shared}(h:wpAny M A t Q E s)(hQ:∀ a s,Q a s→Q' a s):wpAny M A t Q' E s:=wpAny_mono h hQ fun _ _ x=>x
section
variable {X:Cx}
def Ju(i:Nat):TE:=fun σ H Q=>∃ v,σ[i]? = some (some v)∧Q v H
def tC(v:V):TE:=fun _ H Q=>Q v H
theorem yR{i:Nat}{x:Str}{pos:Pos}(hN:X.N[i]? = some x)(hv:Vis X.env.scope x)(hd:(x == ("__debug__" : Str))=false:=by decide)(hcd:(x == ("__classdict__" : Str))=false:=by decide):PE X (.Name x pos) (Ju i):=by
 intro pins s σ H Q I h
 obtain⟨v,e,h⟩:=h
 obtain⟨m,hn,hl⟩:=I.loc
 obtain⟨u,r,l⟩:=hl i x v hN e hv
 have fin:EP X pins σ Q u s:=⟨v,H,I,r,h⟩
 rcases l with⟨hk,hm⟩|⟨hk,c,hc,hcell⟩
 ·exact wpAny_Name (wpAny_loadName_local I.ok.kind hk hn hm fin) hd
 ·rcases hk with hk|hk
  ·exact wpAny_Name (wpAny_loadName_cell I.ok.kind hk hc hcell fin) hd
  ·exact wpAny_Name (wpAny_loadName_free I.ok.kind hk hc hcell fin hcd) hd
theorem Hq{i j pos}:PE X (.Constant (.int i) j pos) (tC (.int i)):=fun _ _ _ H _ I h=>wpAny_Constant_int ⟨.int i,H,I.tok _,⟨_,rfl⟩,h⟩
theorem Ke{b j pos}:PE X (.Constant (.bool b) j pos) (tC (.bl b)):=fun _ _ _ H _ I h=>Constant_bool ⟨.bl b,H,I,rfl,h⟩
theorem Ho{j pos}:PE X (.Constant .none j pos) (tC .non):=fun _ _ _ H _ I h=>Constant_none ⟨.non,H,I,rfl,h⟩
theorem Hl{x j pos}:PE X (.Constant (.str x) j pos) (tC (.str x)):=fun _ _ _ H _ I h=>Calls.Constant_str ⟨.str x,H,I.tok _,⟨_,rfl⟩,h⟩
def Gl(X:Cx)(x:Str):Prop:=X.env.kindOf x=some .globalImplicit
theorem uv{E:Value→Shared→Prop}{pins:List (Addr × Obj)}{s:Shared}{σ:St}{H:Hp}{x:Str}{u:Value}{pos:Pos}{Q:Value→Shared→Prop}(I:Inv X pins σ H s)(hg:Gl X x)(hm:X.mg x=some u)(h:Q u s)
  (hd:(x == ("__debug__" : Str))=false:=by decide):wpAny (model X.prog X.w) X.A (eval (.Name x pos) X.env) Q E s :=
 Calls.Name_function_global I.ok.kind hg (Calls.loadGlobal_global (by rw[I.ok.glob];exact I.mod.glob.keeps I.bk) hm h) hd
theorem aD{E:Value→Shared→Prop}{pins:List (Addr × Obj)}{s:Shared}{σ:St}{H:Hp}{x:Str}{u:Value}{pos:Pos}{Q:Value→Shared→Prop}(I:Inv X pins σ H s)(hg:Gl X x)(hm:X.mg x=none)(hv:bootBuiltins x=some u)(h:Q u s)
  (hn:x ≠ "__name__" := by decide) (hd:(x == ("__debug__" : Str))=false:=by decide):wpAny (model X.prog X.w) X.A (eval (.Name x pos) X.env) Q E s:=by
 obtain⟨mb,h1,h2⟩:=I.mod.blt
 exact Calls.Name_function_global I.ok.kind hg (Calls.loadGlobal_builtin (by rw[I.ok.glob];exact I.mod.glob.keeps I.bk) hm (by rw[I.ok.blt];exact h1.keeps I.bk) ((h2 x hn).trans hv) h) hd
theorem CN{x:Str}{v:V}{u:Value}{pos:Pos}(hg:Gl X x)(hm:X.mg x=some u)(r:p7 v u)(hd:(x == ("__debug__" : Str))=false:=by decide):PE X (.Name x pos) (tC v) :=
 fun _ _ _ H _ I h=>uv I hg hm ⟨v,H,I,r,h⟩ hd
theorem CT{x:Str}{v:V}{u:Value}{pos:Pos}(hg:Gl X x)(hm:X.mg x=none)(hv:bootBuiltins x=some u)(r:p7 v u)(hn:x ≠ "__name__" := by decide)(hd:(x == ("__debug__" : Str))=false:=by decide):PE X (.Name x pos) (tC v) :=
 fun _ _ _ H _ I h=>aD I hg hm hv ⟨v,H,I,r,h⟩ hn hd
variable {a b:Expr} {ta tb:TE} {pos:Pos}
theorem p7.none_iff{x:V}{v:Value}(r:p7 x v):(v == Value.none)=decide (x = .non):=by
 cases x with
 | non=>cases r;rfl
 | bl _=>cases r;rfl
 | int _=>obtain⟨t,rfl⟩:=r;rfl
 | str _=>obtain⟨t,rfl⟩:=r;rfl
 | byt _=>obtain⟨t,rfl⟩:=r;rfl
 | flt _=>obtain⟨t,rfl⟩:=r;rfl
 | ref _=>cases r;rfl
 | ty _=>cases r;rfl
def tB(t:TE):TT:=fun σ H Q=>t σ H fun x H1=>∃ c,x = .bl c∧Q c H1
theorem GY{e:Expr}{t:TE}(h:PE X e t)(he:∀ whole,isTrue e X.env whole=(do let v ← whole;standAt e.pos;holding [v] (truthy v)):=by intro _;rfl):PT X e (tB t):=by
 intro pins s σ H Q I hw
 refine isTrue_plain (thn (h pins s σ H _ I hw) fun v s1 ⟨x,H1,I1,r1,q1⟩=>?_) (he _)
 obtain⟨d,rfl,q⟩:=q1
 cases r1
 exact wpAny_truthy_bool ⟨H1,I1,q⟩
variable {tA tB':TT} {G8:List Expr}
def LV(t u:TT):TT:=fun σ H Q=>t σ H fun c H1=>if c=true then u σ H1 Q else Q false H1
def tOr(t u:TT):TT:=fun σ H Q=>t σ H fun c H1=>if c=true then Q true H1 else u σ H1 Q
def LP(t:TT):TT:=fun σ H Q=>t σ H fun c H1=>Q (!c) H1
theorem Cy(ha:PT X a tA):PW X (.BoolOp .And [a] pos) tA:=by
 intro wh pins s σ H Q I h
 refine isTrue_and (thn (ha pins s σ H Q I h) fun c s1 e=>?_)
 cases c with
 | true=>exact isTrue_and_nil e
 | false=>exact e
theorem GV(ha:PT X a tA):PW X (.BoolOp .Or [a] pos) tA:=by
 intro wh pins s σ H Q I h
 refine isTrue_or (thn (ha pins s σ H Q I h) fun c s1 e=>?_)
 cases c with
 | false=>exact isTrue_or_nil e
 | true=>exact e
theorem GW(ha:PT X a tA)(hb:PW X (.BoolOp .And (b :: G8) pos) tB'):PW X (.BoolOp .And (a :: b :: G8) pos) (LV tA tB'):=by
 intro wh pins s σ H Q I h
 refine isTrue_and (thn (ha pins s σ H _ I h) fun c s1 zz=>?_)
 obtain⟨H1,I1,q1⟩:=zz
 cases c with
 | true=>exact hb wh pins s1 σ H1 Q I1 q1
 | false=>exact⟨H1,I1,q1⟩
theorem JV(ha:PT X a tA)(hb:PW X (.BoolOp .Or (b :: G8) pos) tB'):PW X (.BoolOp .Or (a :: b :: G8) pos) (tOr tA tB'):=by
 intro wh pins s σ H Q I h
 refine isTrue_or (thn (ha pins s σ H _ I h) fun c s1 zz=>?_)
 obtain⟨H1,I1,q1⟩:=zz
 cases c with
 | true=>exact⟨H1,I1,q1⟩
 | false=>exact hb wh pins s1 σ H1 Q I1 q1
theorem GZ(ha:PT X a tA):PT X (.UnaryOp .Not a pos) (LP tA):=by
 intro pins s σ H Q I h
 exact isTrue_not (ha pins s σ H (fun c H1=>Q (!c) H1) I h)
def JJ(ta tb:TE):TE:=fun σ H Q=>ta σ H fun x H1=>∃ c,x = .bl c∧if c=true then tb σ H1 Q else Q (.bl false) H1
def Jx(ta:TE):TE:=fun σ H Q=>ta σ H fun x H1=>∃ c,x = .bl c∧Q (.bl (!c)) H1
theorem Hm{op}{t:TE}(h:PE X a t):PE X (.BoolOp op [a] pos) t:=fun pins s σ H Q I hw=>BoolOp_one (h pins s σ H Q I hw)
theorem Hr(ha:PE X a ta)(hb:PE X (.BoolOp .And (b :: G8) pos) tb):PE X (.BoolOp .And (a :: b :: G8) pos) (JJ ta tb):=by
 intro pins s σ H Q I h
 refine BoolOp_and (thn (ha pins s σ H _ I h) fun v s1 zz=>?_)
 obtain⟨x,H1,I1,r1,q1⟩:=zz
 obtain⟨c,rfl,q1⟩:=q1
 cases r1
 refine wpAny_truthy_bool ?_
 cases c with
 | true=>exact hb pins s1 σ H1 Q I1 q1
 | false=>exact⟨.bl false,H1,I1,rfl,q1⟩
theorem Hn(ha:PE X a ta):PE X (.UnaryOp .Not a pos) (Jx ta):=by
 intro pins s σ H Q I h
 refine UnaryOp_ (thn (ha pins s σ H _ I h) fun v s1 zz=>?_)
 obtain⟨x,H1,I1,r1,q1⟩:=zz
 obtain⟨c,rfl,q1⟩:=q1
 cases r1
 exact not_of (wpAny_truthy_bool ⟨.bl (!c),H1,I1,rfl,q1⟩)
def tIf(t:TT)(ta tb:TE):TE:=fun σ H Q=>t σ H fun c H1=>if c=true then ta σ H1 Q else tb σ H1 Q
theorem yT{c:Expr}(hc:PT X c tA)(ha:PE X a ta)(hb:PE X b tb):PE X (.IfExp c a b pos) (tIf tA ta tb):=by
 intro pins s σ H Q I h
 refine wpAny_IfExp (thn (hc pins s σ H _ I h) fun d s1 zz=>?_)
 obtain⟨H1,I1,q1⟩:=zz
 cases d with
 | true=>exact ha pins s1 σ H1 Q I1 q1
 | false=>exact hb pins s1 σ H1 Q I1 q1
end
def SqL(K:Pg)(H:Hp)(a:Addr)(xs:List V):Prop :=
 Rd H a (.lst xs) ∨
  ∃(o:Obj) (its:Array Value) (n:Nat),K.lookup a=some o∧o.cls = .type "list" ∧ o.dict=none∧o.data = .seq its n∧its.size≤sizeLine∧j0 xs its.toList
def SqT(K:Pg)(H:Hp)(a:Addr)(xs:List V):Prop :=
 Rd H a (.tup xs) ∨
  ∃(o:Obj) (its:Array Value) (n:Nat),K.lookup a=some o∧o.cls = .type "tuple" ∧ o.data = .seq its n∧its.size≤sizeLine∧j0 xs its.toList
noncomputable def Mv:Value→Option V
 | .none=>some .non
 | .bool b=>some (.bl b)
 | .int i _=>some (.int i)
 | .str x _=>some (.str x)
 | .bytes b _=>some (.byt b)
 | .float b _=>some (.flt b)
 | .ref a=>some (.ref a)
 | .type n=>some (.ty n)
 | _=>none
theorem p7.abs{x:V}{u:Value}(r:p7 x u):Mv u=some x:=by
 cases x with
 | non=>cases r;rfl
 | bl _=>cases r;rfl
 | int _=>obtain⟨t,rfl⟩:=r;rfl
 | str _=>obtain⟨t,rfl⟩:=r;rfl
 | byt _=>obtain⟨t,rfl⟩:=r;rfl
 | flt _=>obtain⟨t,rfl⟩:=r;rfl
 | ref _=>cases r;rfl
 | ty _=>cases r;rfl
theorem p7.inj{x y:V}{u:Value}(r:p7 x u)(q:p7 y u):x=y:=Option.some.inj (r.abs.symm.trans q.abs)
theorem j0.inj:∀{xs ys:List V} {us:List Value},j0 xs us→j0 ys us→xs=ys
 | _,_,_,.nil,.nil=>rfl
 | _,_,_,.cons r t,.cons r' t'=>by rw[r.inj r',j0.inj t t']
section
variable {X:Cx} {pins:List (Addr × Obj)} {σ:St} {H:Hp} {s:Shared} {a:Addr} {xs ys:List V}
theorem SqL.of{K:Pg}(h:H a=some (.lst xs)):SqL K H a xs:=.inl (.inl h)
theorem SqT.of{K:Pg}(h:H a=some (.tup xs)):SqT K H a xs:=.inl (.inl h)
theorem Inv.list(I:Inv X pins σ H s)(h:SqL X.K H a xs):∃ its:List Value,j0 xs its∧PlainL s.heap a its.toArray∧xs.length≤sizeLine:=by
 rcases h with h|⟨o,its,n,hk,hc,hd,hs,hz,r⟩
 ·obtain⟨z,its,n,r,e⟩:=h.ok I.hok
  exact⟨its,r,⟨_,n,e,rfl,rfl,rfl⟩,z⟩
 ·refine⟨its.toList,r,⟨o,n,I.kIn a o hk,hc,hd,by simpa using hs⟩,?_⟩
  have e:=r.length
  simp only[Array.length_toList]at e
  omega
theorem Inv.tuple(I:Inv X pins σ H s)(h:SqT X.K H a xs):∃ its:List Value,j0 xs its∧IsTup s.heap a its.toArray∧xs.length≤sizeLine:=by
 rcases h with h|⟨o,its,n,hk,hc,hs,hz,r⟩
 ·obtain⟨z,its,r,p⟩:=h.ok I.hok
  exact⟨its,r,p,z⟩
 ·refine⟨its.toList,r,⟨o,I.kIn a o hk,hc,n,by simpa using hs⟩,?_⟩
  have e:=r.length
  simp only[Array.length_toList]at e
  omega
theorem Inv.list_inj(I:Inv X pins σ H s)(h:SqL X.K H a xs)(h':SqL X.K H a ys):xs=ys:=by
 obtain⟨its,r,⟨o,n,e,_,_,d⟩,_⟩:=I.list h
 obtain⟨its',r',⟨o',n',e',_,_,d'⟩,_⟩:=I.list h'
 rw[e]at e';cases e'
 rw[d]at d'
 injection d' with d1 _
 have:its=its':=by simpa using congrArg Array.toList d1
 subst this
 exact r.inj r'
theorem Inv.tuple_inj(I:Inv X pins σ H s)(h:SqT X.K H a xs)(h':SqT X.K H a ys):xs=ys:=by
 obtain⟨its,r,⟨o,e,_,n,d⟩,_⟩:=I.tuple h
 obtain⟨its',r',⟨o',e',_,n',d'⟩,_⟩:=I.tuple h'
 rw[e]at e';cases e'
 rw[d]at d'
 injection d' with d1 _
 have:its=its':=by simpa using congrArg Array.toList d1
 subst this
 exact r.inj r'
end
noncomputable abbrev Cx.wish(X:Cx)(E:Value→Shared→Prop):Cx:={ X with xe:=E }
noncomputable abbrev Cx.nox(X:Cx):Cx:=X.wish fun _ _=>False
theorem Cx.Ok.wish{X:Cx}(ok:X.Ok)(E:Value→Shared→Prop):(X.wish E).Ok :=
 ⟨ok.mod,ok.kind,ok.glob,ok.blt,ok.above,ok.inj,ok.has,ok.cab,ok.hd,ok.frames,ok.stk,ok.exf,ok.bs,ok.bsz,ok.noex,ok.exfs,ok.funs,ok.frf⟩
theorem Cx.Ok.unwish{X:Cx}{E:Value→Shared→Prop}(ok:(X.wish E).Ok):X.Ok :=
 ⟨ok.mod,ok.kind,ok.glob,ok.blt,ok.above,ok.inj,ok.has,ok.cab,ok.hd,ok.frames,ok.stk,ok.exf,ok.bs,ok.bsz,ok.noex,ok.exfs,ok.funs,ok.frf⟩
section
variable {X:Cx} {pins:List (Addr × Obj)} {σ:St} {H:Hp} {s:Shared} {E:Value→Shared→Prop}
theorem Inv.wish(I:Inv X pins σ H s)(E:Value→Shared→Prop):Inv (X.wish E) pins σ H s:=⟨I.ok.wish E,I.os,I.bare,I.base,I.loc,I.cell,I.free,I.freeC,I.pin,I.hok,I.len⟩
theorem Inv.unwish(I:Inv (X.wish E) pins σ H s):Inv X pins σ H s:=⟨I.ok.unwish,I.os,I.bare,I.base,I.loc,I.cell,I.free,I.freeC,I.pin,I.hok,I.len⟩
theorem SP.unwish{D:qd}{f:Flow}{s':Shared}(h:SP (X.wish E) pins D f s'):SP X pins D f s':=by
 cases f with
 | next=>obtain⟨σ',H',I,q⟩:=h;exact⟨σ',H',I.unwish,q⟩
 | brk=>obtain⟨σ',H',I,q⟩:=h;exact⟨σ',H',I.unwish,q⟩
 | cont=>obtain⟨σ',H',I,q⟩:=h;exact⟨σ',H',I.unwish,q⟩
 | ret u=>obtain⟨v,σ',H',I,r,q⟩:=h;exact⟨v,σ',H',I.unwish,r,q⟩
theorem PE.nox{e:Expr}{t:TE}(h:PE X.nox e t):PE X e t:=fun pins s σ H Q I hw =>
 wpAny_mono (h pins s σ H Q (I.wish _) hw) (fun _ _ ⟨v,H',I',r,q⟩=>⟨v,H',I'.unwish,r,q⟩) fun _ _ z=>False.elim z
theorem PT.nox{e:Expr}{t:TT}(h:PT X.nox e t):PT X e t:=fun pins s σ H Q I hw =>
 wpAny_mono (h pins s σ H Q (I.wish _) hw) (fun _ _ ⟨H',I',q⟩=>⟨H',I'.unwish,q⟩) fun _ _ z=>False.elim z
theorem PSs.nox{st:List Stmt}{t:TS}(h:PSs X.nox st t):PSs X st t:=fun pins s σ H D I hw =>
 wpAny_mono (h pins s σ H D (I.wish _) hw) (fun _ _ q=>q.unwish) fun _ _ z=>False.elim z
end
section
variable {X:Cx} {st:Stmt} {G8:List Stmt} {t u:TS} {e:Expr} {te:TE} {pos:Pos}
def Jy:TS:=fun D σ H=>D.nx σ H
def LM(t u:TS):TS:=fun D σ H=>t { D with nx:=u D } σ H
theorem CB:PSs X [] Jy:=fun _ _ σ H _ I h=>wpAny_execs_nil ⟨σ,H,I,h⟩
theorem ox(h1:PS X st t)(h2:PSs X G8 u):PSs X (st :: G8) (LM t u):=by
 intro pins s σ H D I h
 refine wpAny_execs_cons (thn (h1 pins s σ H { D with nx:=u D } I h) fun f s1 q=>?_)
 cases f with
 | next =>
  obtain⟨σ',H',I',q⟩:=q
  exact h2 pins s1 σ' H' D I' q
 | ret v=>exact q
 | brk=>exact q
 | cont=>exact q
theorem CA(h1:PS X st t):PSs X [st] t:=by
 intro pins s σ H D I h
 refine wpAny_execs_cons (thn (h1 pins s σ H D I h) fun f s1 q=>?_)
 cases f with
 | next=>exact wpAny_execs_nil q
 | ret v=>exact q
 | brk=>exact q
 | cont=>exact q
theorem Inv.quiet{pins:List (Addr × Obj)}{σ:St}{H:Hp}{s:Shared}(I:Inv X pins σ H s):interactive X.env=false:=by simp[interactive,I.ok.kind]
def JD(te:TE):TS:=fun D σ H=>te σ H fun _ H1=>D.nx σ H1
theorem CF(he:PE X e te)(hs:swapsWith e none pos.line X.env=pure false:=by rfl):PS X (.Expr e pos) (JD te):=by
 intro pins s σ H D I h
 exact wpAny_Expr_any (thn (he pins s σ H _ I h) fun v s1 ⟨x,H1,I1,r1,q1⟩=>⟨σ,H1,I1,q1⟩) I.quiet hs
def LN(te:TE):TS:=fun D σ H=>te σ H D.rt
theorem Hb(he:PE X e te):PS X (.Return (some e) pos) (LN te):=by
 intro pins s σ H D I h
 exact wpAny_Return_some (thn (he pins s σ H _ I h) fun v s1 ⟨x,H1,I1,r1,q1⟩=>⟨x,σ,H1,I1,r1,q1⟩)
def LS(c:TT)(t u:TS):TS:=fun D σ H=>c σ H fun b H1=>if b=true then t D σ H1 else u D σ H1
theorem JX{c:Expr}{a b:List Stmt}{tc:TT}(hc:PT X c tc)(ha:PSs X a t)(hb:PSs X b u):PS X (.If c a b pos) (LS tc t u):=by
 intro pins s σ H D I h
 refine wpAny_If (thn (hc pins s σ H _ I h) fun d s1 zz=>?_)
 obtain⟨H1,I1,q1⟩:=zz
 cases d with
 | true=>exact ha pins s1 σ H1 D I1 q1
 | false=>exact hb pins s1 σ H1 D I1 q1
def Gy:TS:=fun _ _ _=>False
theorem yM:PS X st Gy:=fun _ _ _ _ _ _ h=>h.elim
end
noncomputable abbrev TG:=V→St→Hp→(St→Hp→Prop)→Prop
noncomputable abbrev TGs:=List V→St→Hp→(St→Hp→Prop)→Prop
def PG(X:Cx)(target:Expr)(t:TG):Prop :=
 ∀(pins:List (Addr × Obj)) (s:Shared) (σ:St) (H:Hp) (v:V) (u:Value) (Q:St→Hp→Prop),Inv X pins σ H s→p7 v u→t v σ H Q →
  wpAny (model X.prog X.w) X.A (assign target X.env u) (fun _ s'=>∃ σ' H',Inv X pins σ' H' s'∧Q σ' H') X.xe s
def PGs(X:Cx)(ts:List Expr)(t:TGs):Prop :=
 ∀(pins:List (Addr × Obj)) (s:Shared) (σ:St) (H:Hp) (vs:List V) (us:List Value) (Q:St→Hp→Prop),Inv X pins σ H s→j0 vs us→t vs σ H Q →
  wpAny (model X.prog X.w) X.A (assignInOrder ((assignEach ts X.env).map (·.2)) us) (fun _ s'=>∃ σ' H',Inv X pins σ' H' s'∧Q σ' H') X.xe s
noncomputable abbrev IC:=V→V→V→Hp→(Hp→Prop)→Prop
def LC(X:Cx)(t:IC):Prop :=
 ∀(pins:List (Addr × Obj)) (s:Shared) (σ:St) (H:Hp) (o i v:V) (ov iv u:Value) (Q:Hp→Prop),Inv X pins σ H s→p7 o ov→p7 i iv→p7 v u→t o i v H Q →
  wpAny (model X.prog X.w) X.A (setItem ov iv u) (fun _ s'=>∃ H',Inv X pins σ H' s'∧Q H') X.xe s
section
variable {X:Cx} {pos:Pos}
def zZ(i:Nat):TG:=fun v σ H Q=>Q (σ.set i (some v)) H
theorem CM{i:Nat}{x:Str}(hN:X.N.Nodup)(hi:X.N[i]? = some x)(hx:Loc X.env.scope x)(hf:X.fn x=true∨X.env.scope.names.lookup x=some .local:=by first|exact .inl rfl|exact .inr rfl|assumption):PG X (.Name x pos) (zZ i):=by
 intro pins s σ H v u Q I r h
 exact wpAny_assign_Name (aR I hN hi hx r (fun s' I'=>⟨_,H,I',h⟩) hf)
def Mr:TGs:=fun vs σ H Q=>vs=[]∧Q σ H
def KP(t:TG)(u:TGs):TGs:=fun vs σ H Q=>∃ v r,vs=v :: r∧t v σ H fun σ' H'=>u r σ' H' Q
theorem CK:PGs X [] Mr:=by
 intro pins s σ H vs us Q I r h
 obtain⟨e,h⟩:=h
 subst e
 cases r
 exact assignInOrder_nil ⟨σ,H,I,h⟩
theorem yQ{e:Expr}{es:List Expr}{t:TG}{u:TGs}(h1:PG X e t)(h2:PGs X es u)
  (hs:(assignEach (e :: es) X.env).map (·.2)=assign e X.env :: (assignEach es X.env).map (·.2):=by rfl):PGs X (e :: es) (KP t u):=by
 intro pins s σ H vs us Q I r h
 obtain⟨v,vr,e1,h⟩:=h
 subst e1
 cases r with
 | cons r rr =>
  rw[hs]
  refine assignInOrder_cons (thn (h1 pins s σ H _ _ _ I r h) fun _ s1 zz=>?_)
  obtain⟨σ1,H1,I1,q1⟩:=zz
  exact h2 pins s1 σ1 H1 _ _ Q I1 rr q1
def Mn(K:Pg)(n:Nat)(t:TGs):TG:=fun v σ H Q=>∃ a xs,v = .ref a∧SqT K H a xs∧xs.length=n∧t xs σ H Q
theorem Hi{es:List Expr}{k:Nat}{t:TGs}{n:Nat}(hc:X.calm=true)(h:PGs X es t)
  (hn:(assignEach es X.env).length=n:=by rfl) (hst:(assignEach es X.env).findIdx? (·.1)=none:=by rfl):PG X (.Tuple es k pos) (Mn X.K n t):=by
 intro pins s σ H v u Q I r hw
 obtain⟨a,xs,e1,hq,hl,hw⟩:=hw
 subst e1
 cases r
 obtain⟨its,rv,ht,hz⟩:=I.tuple hq
 refine assign_Tuple_tuple (I.ok.hd hc) ht (by simp[hn,← hl,rv.length]) hst fun h' hx=>?_
 have I1:Inv X pins σ H { s with heap:=h' }:=I.kept (t':=s.toks) fun b o e=>hx b o (Qi (Pz e)) e
 exact h pins _ σ H xs _ Q I1 (by simpa using rv) hw
def Mo(to ti:TE)(t:IC):TG:=fun v σ H Q=>to σ H fun o H1=>ti σ H1 fun i H2=>t o i v H2 fun H3=>Q σ H3
theorem Hj{o i:Expr}{to ti:TE}{t:IC}(ho:PE X o to)(hi:PE X i ti)(hs:LC X t)
  (ha:∀ v,assign (.Subscript o i pos) X.env v=(do
   let ov ← holding [v] (eval o X.env)
   let iv ← holding [v,ov] (eval i X.env)
   standAt pos
   holding [v,ov,iv] (setItem ov iv v)
   release [v,ov,iv] []):=by intro _;rfl):PG X (.Subscript o i pos) (Mo to ti t):=by
 intro pins s σ H v u Q I r h
 rw[ha]
 refine Ph (wpAny_holding (thn (ho pins s σ H _ I h) fun ov s1 zz=>?_))
 obtain⟨x,H1,I1,r1,q1⟩:=zz
 refine Ph (wpAny_holding (thn (hi pins s1 σ H1 _ I1 q1) fun iv s2 zz=>?_))
 obtain⟨y,H2,I2,r2,q2⟩:=zz
 refine Ph (wpAny_standAt (Ph (wpAny_holding (thn (hs pins s2 σ H2 x y v ov iv u _ I2 r1 r2 r q2) fun _ s3 zz=>?_))))
 obtain⟨H3,I3,q3⟩:=zz
 exact wpAny_release ⟨σ,H3,I3,q3⟩
def Gz(te:TE)(g:TG):TS:=fun D σ H=>te σ H fun x H1=>g x σ H1 D.nx
theorem Hf{tg e:Expr}{te:TE}{g:TG}(he:PE X e te)(hg:PG X tg g)(hs:swapsWithSole [tg] e pos.line X.env=pure false:=by rfl)(hw:swappedStores [tg] e X.env=pure none:=by rfl)
  (h1:(assignEach [tg] X.env).map (·.2)=[assign tg X.env]:=by rfl):PS X (.Assign [tg] e pos) (Gz te g):=by
 intro pins s σ H D I h
 refine wpAny_Assign_stores (thn (he pins s σ H _ I h) fun v s1 ⟨x,H1,I1,r1,q1⟩=>?_) hs hw
 rw[h1]
 exact thn (hg pins s1 σ H1 x v _ I1 r1 q1) fun _ s2 q=>q
theorem Ha{i:Nat}{x:Str}{e:Expr}{te:TE}{pos':Pos}(hN:X.N.Nodup)(hi:X.N[i]? = some x)(hx:Loc X.env.scope x)(he:PE X e te)(hs:swapsWith e (some (.Name x pos')) pos.line X.env=pure false:=by rfl)(hf:X.fn x=true∨X.env.scope.names.lookup x=some .local:=by first|exact .inl rfl|exact .inr rfl|assumption) :
  PS X (.Assign [.Name x pos'] e pos) (Gz te (zZ i)):=by
 intro pins s σ H D I h
 refine wpAny_Assign_Name (thn (he pins s σ H _ I h) fun v s1 ⟨y,H1,I1,r1,q1⟩=>?_) hs
 exact aR I1 hN hi hx r1 (fun s2 I2=>⟨_,H1,I2,q1⟩) hf
def LO(i j:Nat)(ta:TA):TS:=fun D σ H=>ta σ H fun vs H1=>∃ v w,vs=[v,w]∧D.nx ((σ.set i (some v)).set j (some w)) H1
theorem Hd{i j:Nat}{x y:Str}{a b:Expr}{ta:TA}{px py pt:Pos}{kt k2 pt2}(hc:X.calm=true)(hN:X.N.Nodup)(hi:X.N[i]? = some x)(hj:X.N[j]? = some y)(hij:i≠j)
  (hx:X.env.scope.names.lookup x=some .local) (hy:X.env.scope.names.lookup y=some .local) (ha:PA X [a,b] ta)
  (hw:swappedStores [.Tuple [.Name x px,.Name y py] kt pt] (.Tuple [a,b] k2 pt2) X.env=pure (some [x,y]))
  (hs:swapsWithSole [.Tuple [.Name x px,.Name y py] kt pt] (.Tuple [a,b] k2 pt2) pos.line X.env=pure false:=by rfl) :
  PS X (.Assign [.Tuple [.Name x px,.Name y py] kt pt] (.Tuple [a,b] k2 pt2) pos) (LO i j ta):=by
 intro pins s σ H D I h
 rw[exec_Assign_arm]
 refine Ph (wpAny_standAt ?_)
 rw[hs]
 refine Ph (PD ?_)
 rw[if_neg (by decide)]
 refine Ph (Tuple_ (thn (ha _ pins s σ H _ I h) fun us s1 zz=>?_))
 obtain⟨vs,H1,I1,r1,q1⟩:=zz
 obtain⟨v,w,e1,q1⟩:=q1
 subst e1
 obtain⟨u1,u2,rfl,rv,rw'⟩:∃ u1 u2,us=[u1,u2]∧p7 v u1∧p7 w u2:=by
  cases r1 with
  | cons p q =>
   cases q with
   | cons p' q' =>
    cases q'
    exact⟨_,_,rfl,p,p'⟩
 refine wpAny_newObj_type ?_ (by show 2≤sizeLine;decide)
 have I2:Inv X pins σ H1 { s1 with heap:=s1.heap.push { cls:=.type "tuple",data:=.seq [u1,u2].toArray } }:=I1.kept (t':=s1.toks) fun b o e=>Pl _ e
 rw[hw]
 refine Ph (PD ?_)
 show wpAny (model X.prog X.w) X.A (do rule "assign.swapped-stores";let items ← unpackItems (.ref s1.heap.objs.size) 2 none;assignInOrder [fun v=>bindName X.env y v,fun v=>bindName X.env x v] items.reverse;pure Flow.next) _ _ _
 refine Ph (wpAny_rule (Ph (unpackItems_tuple (items:=#[u1,u2]) (I.ok.hd hc) (IsTup.new s1.heap _) fun h' hx'=>?_)))
 have I3:=I2.kept (h':=h') (t':=s1.toks) fun b o e=>hx' b o (Qi (Pz e)) e
 show wpAny _ _ (assignInOrder [fun v=>bindName X.env y v,fun v=>bindName X.env x v] [u2,u1] >>= fun _=>pure Flow.next) _ _ _
 refine Ph (assignInOrder_cons (wpAny_bindName (aR I3 hN hj (.inl hy) rw' (fun s2 I4=>?_) (.inr hy))))
 refine assignInOrder_cons (wpAny_bindName (aR I4 hN hi (.inl hx) rv (fun s3 I5=>assignInOrder_nil (PD ?_)) (.inr hx)))
 rw[List.set_comm _ _ (Ne.symm hij)]at I5
 exact⟨_,H1,I5,q1⟩
end
section
variable {X:Cx} {pos:Pos}
def Gx(c:TT)(tb:TS):TS:=fun D σ H=>∃ W:Nat→St→Hp→Prop,(∃ m,W m σ H)∧∀ m σ H,W m σ H →
 c σ H fun b H1=>if b=true then ∃ N:St→Hp→Prop,(∀ σ' H',N σ' H'→∃ m',m'<m∧W m' σ' H')∧tb { D with nx:=N,ct:=N,bk:=D.nx } σ H1 else D.nx σ H1
theorem yL{c:Expr}{body:List Stmt}{tc:TT}{tb:TS}(hp:PassesOwn (model X.prog X.w) X.A X.env X.xe)(hc:PT X c tc)(hb:PSs X body tb):PS X (.While c body [] pos) (Gx tc tb):=by
 intro pins s σ H D I h
 obtain⟨W,⟨m0,w0⟩,turn⟩:=h
 refine wpAny_While (codeAny_whileLoop (fun n s'=>∃ σ' H',Inv X pins σ' H' s'∧W n σ' H') ?_ m0 ⟨σ,H,I,w0⟩)
 rintro n s1 ⟨σ1,H1,I1,w1⟩
 refine wpAny_passesOwn hp (thn (hc pins s1 σ1 H1 _ I1 (turn n σ1 H1 w1)) fun b s2 zz=>?_)
 obtain⟨H2,I2,q2⟩:=zz
 cases b with
 | true =>
  obtain⟨N,hN,q2⟩:=q2
  rw[if_pos rfl]
  refine wpAny_passesOwn hp (thn (hb pins s2 σ1 H2 _ I2 q2) fun f s3 q3=>?_)
  cases f with
  | next =>
   obtain⟨σ3,H3,I3,n3⟩:=q3
   obtain⟨m',hm,w3⟩:=hN σ3 H3 n3
   exact⟨m',hm,σ3,H3,I3,w3⟩
  | cont =>
   obtain⟨σ3,H3,I3,n3⟩:=q3
   obtain⟨m',hm,w3⟩:=hN σ3 H3 n3
   exact⟨m',hm,σ3,H3,I3,w3⟩
  | brk=>exact q3
  | ret v=>exact q3
 | false =>
  rw[if_neg PZ]
  exact wpAny_execs_nil ⟨σ1,H2,I2,q2⟩
end
structure It where
 go:Nat→Hp→Prop
 yld:Nat→Hp→V→Hp→Prop
 stop:Nat→Hp→Prop
def aN(X:Cx)(pins:List (Addr × Obj))(H:Hp)(b:Addr):Prop :=
 H b=none∧b≠X.env.locals∧b∉X.fs∧(b∈X.ex∨X.s₀.heap.objs.size≤b)∧(∀ x c,X.env.cells.lookup x=some c→c≠b)∧∀ p∈X.pn++pins,p.1≠b
theorem Inv.fpOk{X:Cx}{pins:List (Addr × Obj)}{σ:St}{H H':Hp}{s:Shared}{b:Addr}(I:Inv X pins σ H s)(hb:s.heap.objs.size≤b)(hn:H' b=none):aN X pins H' b:=by
 refine⟨hn,QR (Pt I.lt hb),I.nofs hb,.inr (Pu I.sz hb),fun x c e z=>?_,fun p hp z=>?_⟩
 ·obtain⟨v,q⟩:=I.cell x c e
  exact absurd (Pt q.lt (by rw[z];exact hb)) (QP _)
 ·exact absurd (Pt (Pz (I.pin p hp).1) (by rw[z];exact hb)) (QP _)
structure rM(P:Program)(w:World)(K:Pg)(tg:Expr)(J:It)(fp:List Addr)(it:Addr)(tn:Nat→Heap→Prop):Prop where
 mem:it∈fp
 obj:∀ i h,tn i h→∀ b∈fp,∃ o,h.get? b=some o∧∀ v,o.data ≠ .cell v
 keep:∀ i h h',tn i h→(∀ b∈fp,∀ o,h.get? b=some o→h'.get? b=some o)→tn i h'
 item:∀(X:Cx),X.prog=P→X.w=w→X.K=K→X.calm=true→∀(i:Nat) (pins:List (Addr × Obj)) (s:Shared) (σ:St) (H:Hp) (E:Value→Shared→Prop),Inv X pins σ H s→(∀ b∈fp,aN X pins H b)→tn i s.heap→J.go i H →
  wpAny (model P w) X.A (pyNext (.ref it)) (fun r s1=>∃ u,r=some u ∧
   wpAny (model P w) X.A (letOwnedTupleGo tg (.ref it) u) (fun _ s2=>∃ x H',Inv X pins σ H' s2∧p7 x u∧J.yld i H x H'∧tn (i+1) s2.heap∧∀ b∈fp,H' b=none) E s1) E s
 done:∀(X:Cx),X.prog=P→X.w=w→X.K=K→X.calm=true→∀(i:Nat) (pins:List (Addr × Obj)) (s:Shared) (σ:St) (H:Hp) (E:Value→Shared→Prop),Inv X pins σ H s→(∀ b∈fp,aN X pins H b)→tn i s.heap→J.stop i H →
  wpAny (model P w) X.A (pyNext (.ref it)) (fun r s1=>r=none∧Inv X pins σ H s1) E s
 self:∀(A:Around) (i:Nat) (s:Shared) (Q:Value→Shared→Prop) (E:Value→Shared→Prop),tn i s.heap→Q (.ref it) s→wpAny (model P w) A (pyIter (.ref it)) Q E s
noncomputable abbrev TI:=St→Hp→(It→Hp→Prop)→Prop
def PIE(X:Cx)(pins:List (Addr × Obj))(σ:St)(tg:Expr)(R:It→Hp→Prop)(itv:Value)(s2:Shared):Prop :=
 ∃(it:Addr) (fp:List Addr) (tn:Nat→Heap→Prop) (J:It) (H':Hp),itv = .ref it∧Inv X pins σ H' s2∧rM X.prog X.w X.K tg J fp it tn∧tn 0 s2.heap∧(∀ b∈fp,aN X pins H' b)∧R J H'
def PI(X:Cx)(tg iter:Expr)(wi:TI):Prop :=
 ∀(pins:List (Addr × Obj)) (s:Shared) (σ:St) (H:Hp) (R:It→Hp→Prop),Inv X pins σ H s→wi σ H R →
  wpAny (model X.prog X.w) X.A (eval iter X.env) (fun v s1=>wpAny (model X.prog X.w) X.A (pyIter v) (PIE X pins σ tg R) X.xe s1) X.xe s
theorem zW{M:Model}{A:Around}{E:Value→Shared→Prop}{s:Shared}{tg:Expr}{it:Addr}{u:Value}{o:Obj}{n:String}{vs:Array Value}{Q:Unit→Shared→Prop}(ho:s.heap.get? it=some o)(hc:o.cls = .type n)(hd:o.data = .fields vs)
  (hn:["enumerate","zip","dict_itemiterator","dict_reverseitemiterator","odict_iterator","itertools.zip_longest","itertools.pairwise"].contains n=false) (hQ:Q () s):wpAny M A (letOwnedTupleGo tg (.ref it) u) Q E s:=by
 unfold letOwnedTupleGo
 cases tg<;>first
  | exact PD hQ
  | (cases u<;>first
    | exact PD hQ
    | (refine Ph (wpAny_load ho ?_);rw[hc,hd];show wpAny M A (if (["enumerate","zip","dict_itemiterator","dict_reverseitemiterator","odict_iterator","itertools.zip_longest","itertools.pairwise"].contains n && vs[0]? == some (rawInt _))=true then _ else _) Q E s;rw[if_neg (by intro h;rw[hn,UE]at h;cases h)];exact PD hQ))
noncomputable def Itl(K:Pg)(a:Addr):It :=
 ⟨fun i H=>∃ xs x,SqL K H a xs∧xs[i]? = some x,fun i H x H'=>H'=H∧∀ xs,SqL K H a xs→xs[i]? = some x,fun i H=>∃ xs,SqL K H a xs∧xs.length≤i⟩
noncomputable def Itt(K:Pg)(a:Addr):It :=
 ⟨fun i H=>∃ xs x,SqT K H a xs∧xs[i]? = some x,fun i H x H'=>H'=H∧∀ xs,SqT K H a xs→xs[i]? = some x,fun i H=>∃ xs,SqT K H a xs∧xs.length≤i⟩
noncomputable def Itr(lo:Int)(n:Nat):It:=⟨fun i _=>i<n,fun i H x H'=>H'=H∧x = .int (lo+i),fun i _=>n≤i⟩
theorem vh{P:Program}{w:World}{K:Pg}{tg:Expr}(a it:Addr):rM P w K tg (Itl K a) [it] it (fun i h=>h.IsListIter it a i) where
 mem:=by simp
 obj:=fun i h st b hb=>by
  have e:b=it:=by simpa using hb
  subst e
  obtain⟨o,e,c,d⟩:=st
  exact⟨o,e,fun v z=>by rw[d]at z;cases z⟩
 keep:=fun i h h' st k=>st.at fun o e=>k it (by simp) o e
 item:=by
  intro X hP hw hK hc i pins s σ H E I hf st hg
  subst hP hw hK
  obtain⟨xs,x,hq,hx⟩:=hg
  obtain⟨its,rv,p,hz⟩:=I.list hq
  obtain⟨u,hu,ru⟩:=rv.get hx
  obtain⟨f0,f1,f2,f3,f4,f5⟩:=hf it (by simp)
  refine wpAny_pyNext_list_item st p.isList (x:=u) (by simpa using hu) fun h' st' sb=>?_
  have I1:Inv X pins σ H { s with heap:=h' }:=I.turned (t':=s.toks) (fun b o hb e=>(sb.2 b hb).trans e) f0 f1 f3 f4 f5
  obtain⟨o,e,c,d⟩:=id st'
  exact⟨u,rfl,zW (s:={ s with heap:=h' }) e c d (by decide) ⟨x,H,I1,ru,⟨rfl,fun ys hy=>by rw[I.list_inj hy hq];exact hx⟩,st',fun b hb=>(hf b hb).1⟩⟩
 done:=by
  intro X hP hw hK hc i pins s σ H E I hf st hg
  subst hP hw hK
  obtain⟨xs,hq,hx⟩:=hg
  obtain⟨its,rv,p,hz⟩:=I.list hq
  obtain⟨f0,f1,f2,f3,f4,f5⟩:=hf it (by simp)
  have hl:=rv.length
  exact wpAny_pyNext_list_end (I.ok.hd hc) st p.isList (by simp;omega) fun h' eb=>⟨rfl,I.turned (t':=s.toks) (fun b o hb e=>eb b o hb e) f0 f1 f3 f4 f5⟩
 self:=fun _ _ _ _ _ st h=>wpAny_pyIter_listiter st h
theorem qj{P:Program}{w:World}{K:Pg}{tg:Expr}(a it:Addr):rM P w K tg (Itt K a) [it] it (fun i h=>h.IsTupleIter it a i) where
 mem:=by simp
 obj:=fun i h st b hb=>by
  have e:b=it:=by simpa using hb
  subst e
  obtain⟨o,e,c,d⟩:=st
  exact⟨o,e,fun v z=>by rw[d]at z;cases z⟩
 keep:=fun i h h' st k=>st.at fun o e=>k it (by simp) o e
 item:=by
  intro X hP hw hK hc i pins s σ H E I hf st hg
  subst hP hw hK
  obtain⟨xs,x,hq,hx⟩:=hg
  obtain⟨its,rv,p,hz⟩:=I.tuple hq
  obtain⟨u,hu,ru⟩:=rv.get hx
  obtain⟨f0,f1,f2,f3,f4,f5⟩:=hf it (by simp)
  refine wpAny_pyNext_tuple_item st (show s.heap.IsTuple a its.toArray from p) (x:=u) (by simpa using hu) fun h' st' sb=>?_
  have I1:Inv X pins σ H { s with heap:=h' }:=I.turned (t':=s.toks) (fun b o hb e=>(sb.2 b hb).trans e) f0 f1 f3 f4 f5
  obtain⟨o,e,c,d⟩:=id st'
  exact⟨u,rfl,zW (s:={ s with heap:=h' }) e c d (by decide) ⟨x,H,I1,ru,⟨rfl,fun ys hy=>by rw[I.tuple_inj hy hq];exact hx⟩,st',fun b hb=>(hf b hb).1⟩⟩
 done:=by
  intro X hP hw hK hc i pins s σ H E I hf st hg
  subst hP hw hK
  obtain⟨xs,hq,hx⟩:=hg
  obtain⟨its,rv,p,hz⟩:=I.tuple hq
  obtain⟨f0,f1,f2,f3,f4,f5⟩:=hf it (by simp)
  have hl:=rv.length
  exact wpAny_pyNext_tuple_end (I.ok.hd hc) st (show s.heap.IsTuple a its.toArray from p) (by simp;omega) fun h' eb=>⟨rfl,I.turned (t':=s.toks) (fun b o hb e=>eb b o hb e) f0 f1 f3 f4 f5⟩
 self:=fun _ _ _ _ _ st h=>wpAny_pyIter_tupleiter st h
theorem qo{P:Program}{w:World}{K:Pg}{tg:Expr}(it:Addr)(lo:Int)(n:Nat):rM P w K tg (Itr lo n) [it] it (fun i h=>IsRangeIter h it (lo+(i:Nat)*1) ((n:Int) - (i:Nat)) 1) where
 mem:=by simp
 obj:=fun i h st b hb=>by
  have e:b=it:=by simpa using hb
  subst e
  exact⟨_,st,fun v z=>by
   have z':Data.fields _=Data.cell v:=z
   cases z'⟩
 keep:=fun i h h' st k=>k it (by simp) _ st
 item:=by
  intro X hP hw hK hc i pins s σ H E I hf st hg
  subst hP hw hK
  obtain⟨f0,f1,f2,f3,f4,f5⟩:=hf it (by simp)
  have W:=Walks.range (prog:=X.prog) (w:=X.w) (I.ok.hd hc) it lo 1 n
  refine W.item i s _ _ hg st fun v h' tk hv st' kk=>?_
  obtain⟨t,rfl⟩:=hv
  have I1:Inv X pins σ H { s with heap:=h',toks:=tk }:=I.turned (fun b o hb e=>kk b o (by simpa using hb) e) f0 f1 f3 f4 f5
  refine⟨_,rfl,zW (s:={ s with heap:=h',toks:=tk }) (n := "range_iterator") st' rfl rfl (by decide) ⟨.int (lo+i),H,I1,⟨t,?_⟩,⟨rfl,rfl⟩,st',fun b hb=>(hf b hb).1⟩⟩
  rw[Int.mul_one]
 done:=by
  intro X hP hw hK hc i pins s σ H E I hf st hg
  subst hP hw hK
  obtain⟨f0,f1,f2,f3,f4,f5⟩:=hf it (by simp)
  exact wpAny_pyNext_range_end (I.ok.hd hc) st (by have:n≤i:=hg;omega) fun h' eb=>⟨rfl,I.turned (t':=s.toks) (fun b o hb e=>eb b o hb e) f0 f1 f3 f4 f5⟩
 self:=fun _ _ _ _ _ st h=>wpAny_pyIter_rangeiter st h
section
variable {X:Cx} {tg:Expr}
theorem ou{pins:List (Addr × Obj)}{σ:St}{H:Hp}{s:Shared}{R:It→Hp→Prop}{E:Value→Shared→Prop}{lo hi:Int}{t u v:Tok}{tk:Nat}(I:Inv X pins σ H s)(h1:-(2 ^ 62)≤lo)(h2:lo<2 ^ 62)(h3:-(2 ^ 62)≤hi)(h4:hi<2 ^ 62)
  (q:R (Itr lo (hi - lo).toNat) H):wpAny (model X.prog X.w) X.A (pyIter (.ref s.heap.objs.size)) (PIE X pins σ tg R) E { s with heap:=s.heap.push { cls:=.type "range",data:=.fields #[.int lo t,.int hi u,.int 1 v] },toks:=tk }:=by
 refine wpAny_pyIter_range (IsRange.new ..) (small_one h1 h2 h3 h4) ?_
 have I1:Inv X pins σ H { s with heap:=s.heap.push { cls:=.type "range",data:=.fields #[.int lo t,.int hi u,.int 1 v] },toks:=tk }:=I.kept fun b o e=>Pl _ e
 refine⟨(s.heap.push { cls:=.type "range",data:=.fields #[.int lo t,.int hi u,.int 1 v] }).objs.size,[(s.heap.push { cls:=.type "range",data:=.fields #[.int lo t,.int hi u,.int 1 v] }).objs.size],_,_,H,rfl,
  I1.kept (t':=tk) fun b o e=>Pl _ e,qo _ lo (hi - lo).toNat,?_,fun b hb=>?_,q⟩
 ·have e1:lo+((0:Nat):Int)*1=lo:=by simp
  have e2:(((hi - lo).toNat:Nat):Int) - ((0:Nat):Int)=Builtin.Range.rangeSize lo hi 1:=by rw[rangeSize_one];split<;>omega
  show IsRangeIter _ _ (lo+((0:Nat):Int)*1) ((((hi - lo).toNat:Nat):Int) - ((0:Nat):Int)) 1
  rw[e1,e2]
  exact PK _ rfl
 ·have e:b=(s.heap.push { cls:=.type "range",data:=.fields #[.int lo t,.int hi u,.int 1 v] }).objs.size:=by simpa using hb
  subst e
  exact I1.fpOk (Py _) (I1.hok.fresh (Py _))
def KD(ta:TA):TI:=fun σ H R=>ta σ H fun vs H1=>∃ j:Int,vs=[.int j]∧-(2 ^ 62)≤j∧j<2 ^ 62∧R (Itr 0 j.toNat) H1
def KC(ta:TA):TI:=fun σ H R=>ta σ H fun vs H1=>∃ i j:Int,vs=[.int i,.int j]∧(-(2 ^ 62)≤i∧i<2 ^ 62∧-(2 ^ 62)≤j∧j<2 ^ 62)∧R (Itr i (j - i).toNat) H1
theorem vF{a:Expr}{ta:TA}{p pos:Pos}(hg:Gl X "range")(hm:X.mg "range" = none)(ha:PA X [a] ta)(hs:starEach [a] X.env=[(false,eval a X.env)]:=by rfl):PI X tg (.Call (.Name "range" p) [a] [] pos) (KD ta):=by
 intro pins s σ H R I h
 refine Call_ (aD I hg hm boot_range (PyProof.Rows.callWith_type1 (thn (ha pos pins s σ H _ I h) fun us s1 ⟨vs,H1,I1,r1,q1⟩=>?_) hs rfl))
 obtain⟨j,e,q1,q2,q⟩:=q1
 subst e
 cases r1 with
 | cons r rr =>
  cases rr
  obtain⟨t,rfl⟩:=r
  exact call_range_1 (ou I1 (by omega) (by omega) q1 q2 (by simpa using q))
theorem vE{a b:Expr}{ta:TA}{p pos:Pos}(hg:Gl X "range")(hm:X.mg "range" = none)(ha:PA X [a,b] ta)(hs:starEach [a,b] X.env=[(false,eval a X.env),(false,eval b X.env)]:=by rfl)(hs2:starEach [b] X.env=[(false,eval b X.env)]:=by rfl) :
  PI X tg (.Call (.Name "range" p) [a,b] [] pos) (KC ta):=by
 intro pins s σ H R I h
 refine Call_ (aD I hg hm boot_range (PyProof.Rows.callWith_type1 (thn (ha pos pins s σ H _ I h) fun us s1 ⟨vs,H1,I1,r1,q1⟩=>?_) (by rw[hs,hs2]) (by rw[hs2];rfl)))
 obtain⟨i,j,e,⟨q1,q2,q3,q4⟩,q⟩:=q1
 subst e
 cases r1 with
 | cons r rr =>
  cases rr with
  | cons r' rr =>
   cases rr
   obtain⟨t,rfl⟩:=r
   obtain⟨t',rfl⟩:=r'
   exact call_range_2 (ou I1 q1 q2 q3 q4 q)
def LU(wi:TI)(g:TG)(tb:TS):TS:=fun D σ H=>wi σ H fun J H1=>∃ W:Nat→Nat→St→Hp→Prop,(∃ m,W 0 m σ H1)∧∀ i m σ H,W i m σ H →
 (J.stop i H∧D.nx σ H)∨(J.go i H∧∃ N:St→Hp→Prop,(∀ σ' H',N σ' H'→∃ m',m'<m∧W (i+1) m' σ' H')∧∀ x H',J.yld i H x H'→g x σ H' fun σ2 H2=>tb { D with nx:=N,ct:=N,bk:=D.nx } σ2 H2)
noncomputable def lg(fp:List Addr)(h:Heap):List (Addr × Obj):=fp.filterMap fun b=>(h.get? b).map fun o=>(b,o)
theorem J2{fp:List Addr}{h:Heap}{b:Addr}{o:Obj}(hb:b∈fp)(e:h.get? b=some o):(b,o)∈lg fp h:=RG.mpr ⟨b,hb,by rw[e];rfl⟩
theorem vM{fp:List Addr}{h:Heap}{p:Addr × Obj}(hp:p∈lg fp h):p.1∈fp∧h.get? p.1=some p.2:=by
 obtain⟨b,hb,e⟩:=RG.mp hp
 cases q:h.get? b with
 | none=>rw[q]at e;cases e
 | some o =>
  rw[q]at e
  have e':(b,o)=p:=Option.some.inj e
  subst e'
  exact⟨hb,q⟩
theorem Inv.pinned{pins:List (Addr × Obj)}{σ:St}{H:Hp}{s:Shared}{fp:List Addr}(I:Inv X pins σ H s)(hf:∀ b∈fp,aN X pins H b)(ho:∀ b∈fp,∃ o,s.heap.get? b=some o∧∀ v,o.data ≠ .cell v):Inv X (pins++lg fp s.heap) σ H s :=
 I.pins_of fun p hp=>(PL.mp hp).elim (fun z=>I.pin p (PN _ z)) fun z=>by
  obtain⟨hb,e⟩:=vM z
  obtain⟨f0,f1,f2,_⟩:=hf p.1 hb
  obtain⟨o,e',d⟩:=ho p.1 hb
  rw[e]at e';cases e'
  exact⟨e,f0,f1,f2,d⟩
theorem Inv.unpinned{pins pl:List (Addr × Obj)}{σ:St}{H:Hp}{s:Shared}(I:Inv X (pins++pl) σ H s):Inv X pins σ H s:=I.pins_of fun p hp=>I.pin p (PN _ (QF _ hp))
theorem He{iter:Expr}{body:List Stmt}{wi:TI}{g:TG}{tb:TS}{pos:Pos}(hp:PassesOwn (model X.prog X.w) X.A X.env X.xe)(hc:X.calm=true)(hi:PI X tg iter wi)(hg:PG X tg g)(hb:PSs X body tb)
  (hs:∀ x,foldedSetIterable iter X.env x=pure x:=by intro _;rfl):PS X (.For tg iter body [] pos) (LU wi g tb):=by
 intro pins s σ H D I h
 refine wpAny_For (thn (hi pins s σ H _ I h) fun v s1 h1=>thn h1 fun itv s2 h2=>?_) hs
 obtain⟨it,fp,tn,J,H2,e,I2,T,st2,f2,W,⟨m0,w0⟩,turn⟩:=h2
 subst e
 have stat:∀{H':Hp},(∀ b∈fp,H' b=none)→∀ b∈fp,aN X pins H' b:=fun hn b hb=>⟨hn b hb,(f2 b hb).2⟩
 refine codeAny_forLoop_any (fun n s'=>∃ i σ' H',Inv X pins σ' H' s'∧tn i s'.heap∧(∀ b∈fp,H' b=none)∧W i n σ' H') ?_ m0 ⟨0,σ,H2,I2,st2,fun b hb=>(f2 b hb).1,w0⟩
 rintro n s3 ⟨i,σ3,H3,I3,st3,fr3,w3⟩
 rcases turn i n σ3 H3 w3 with⟨stop,qn⟩|⟨go,N,hN,step⟩
 ·refine wpAny_passesOwn hp (thn (T.done X rfl rfl rfl hc i pins s3 σ3 H3 X.xe I3 (stat fr3) st3 stop) fun r s4 zz=>?_)
  obtain⟨hr,I4⟩:=zz
  subst hr
  exact wpAny_execs_nil ⟨σ3,H3,I4,qn⟩
 ·refine wpAny_passesOwn hp (thn (T.item X rfl rfl rfl hc i pins s3 σ3 H3 X.xe I3 (stat fr3) st3 go) fun r s4 zz=>?_)
  obtain⟨u,hr,h4⟩:=zz
  subst hr
  refine wpAny_passesOwn hp (thn h4 fun _ s5 zz=>?_)
  obtain⟨x,H5,I5,r5,y5,st5,fr5⟩:=zz
  have I5':=I5.pinned (stat fr5) (T.obj _ _ st5)
  refine wpAny_passesOwn hp (thn (hg _ s5 σ3 H5 x u _ I5' r5 (step x H5 y5)) fun _ s6 zz=>?_)
  obtain⟨σ6,H6,I6,q6⟩:=zz
  refine wpAny_passesOwn hp (thn (hb _ s6 σ6 H6 _ I6 q6) fun f s7 q7=>?_)
  have again:∀{σ7:St} {H7:Hp},Inv X (pins++lg fp s5.heap) σ7 H7 s7→N σ7 H7→∃ m,m<n∧∃ i σ' H',Inv X pins σ' H' s7∧tn i s7.heap∧(∀ b∈fp,H' b=none)∧W i m σ' H':=fun{σ7 H7} I7 n7=>by
   obtain⟨m',hm,w7⟩:=hN σ7 H7 n7
   refine⟨m',hm,i+1,σ7,H7,I7.unpinned,T.keep _ _ _ st5 fun b hb o e=>(I7.pin (b,o) (PN _ (PN _ (J2 hb e)))).1,fun b hb=>?_,w7⟩
   obtain⟨o,e,d⟩:=T.obj _ _ st5 b hb
   exact(I7.pin (b,o) (PN _ (PN _ (J2 hb e)))).2.1
  cases f with
  | next=>obtain⟨σ7,H7,I7,n7⟩:=q7;exact again I7 n7
  | cont=>obtain⟨σ7,H7,I7,n7⟩:=q7;exact again I7 n7
  | brk=>obtain⟨σ7,H7,I7,q7⟩:=q7;exact⟨σ7,H7,I7.unpinned,q7⟩
  | ret v=>obtain⟨x7,σ7,H7,I7,r7,q7⟩:=q7;exact⟨x7,σ7,H7,I7.unpinned,r7,q7⟩
end
noncomputable abbrev R2:=V→V→Hp→VK→Prop
def OpR(X:Cx)(f:Value→Value→Sem Value)(r:R2):Prop :=
 ∀(pins:List (Addr × Obj)) (s:Shared) (σ:St) (H:Hp) (x y:V) (v u:Value) (Q:VK),Inv X pins σ H s→p7 x v→p7 y u→r x y H Q →
  wpAny (model X.prog X.w) X.A (f v u) (EP X pins σ Q) X.xe s
def UnR(X:Cx)(f:Value→Sem Value)(r:V→Hp→VK→Prop):Prop :=
 ∀(pins:List (Addr × Obj)) (s:Shared) (σ:St) (H:Hp) (x:V) (v:Value) (Q:VK),Inv X pins σ H s→p7 x v→r x H Q →
  wpAny (model X.prog X.w) X.A (f v) (EP X pins σ Q) X.xe s
def A4(X:Cx)(f:Value)(r:List V→Hp→VK→Prop):Prop :=
 ∀(pins:List (Addr × Obj)) (s:Shared) (σ:St) (H:Hp) (xs:List V) (us:List Value) (Q:VK),Inv X pins σ H s→j0 xs us→r xs H Q →
  wpAny (model X.prog X.w) X.A (call f us) (EP X pins σ Q) X.xe s
def tOp(r:R2)(ta tb:TE):TE:=fun σ H Q=>ta σ H fun x H1=>tb σ H1 fun y H2=>r x y H2 Q
def tUn(r:V→Hp→VK→Prop)(ta:TE):TE:=fun σ H Q=>ta σ H fun x H1=>r x H1 Q
def rI(C:Int→Int→Prop)(g:Int→Int→V):R2:=fun x y H Q=>∃ i j,x = .int i∧y = .int j∧C i j∧Q (g i j) H
def rI0(g:Int→Int→V):R2:=fun x y H Q=>∃ i j,x = .int i∧y = .int j∧Q (g i j) H
noncomputable def rU(g:Int→V):V→Hp→VK→Prop:=fun x H Q=>∃ i,x = .int i∧Q (g i) H
section
variable {X:Cx} {a b c:Expr} {ta tb tc:TE} {pos:Pos}
theorem Iv(ha:PE X a ta)(hb:PE X b tb){pins:List (Addr × Obj)}{s:Shared}{σ:St}{H:Hp}{R:V→V→Hp→Prop}(I:Inv X pins σ H s)
  (h:ta σ H fun x H1=>tb σ H1 fun y H2=>R x y H2) {Q:Value→Shared→Prop} {f:Value→Value→Sem Value}
  (hf:∀ v u s2 x y H2,Inv X pins σ H2 s2→p7 x v→p7 y u→R x y H2→wpAny (model X.prog X.w) X.A (f v u) Q X.xe s2) :
  wpAny (model X.prog X.w) X.A (eval a X.env) (fun v s₁=>wpAny (model X.prog X.w) X.A (eval b X.env) (fun u s₂=>wpAny (model X.prog X.w) X.A (f v u) Q X.xe s₂) X.xe s₁) X.xe s:=by
 refine thn (ha pins s σ H _ I h) fun v s1 zz=>?_
 obtain⟨x,H1,I1,r1,q1⟩:=zz
 refine thn (hb pins s1 σ H1 _ I1 q1) fun u s2 zz=>?_
 obtain⟨y,H2,I2,r2,q2⟩:=zz
 exact hf v u s2 x y H2 I2 r1 r2 q2
theorem Fm{op:Operator}{r:R2}(ho:OpR X (binaryOp op) r)(ha:PE X a ta)(hb:PE X b tb):PE X (.BinOp a op b pos) (tOp r ta tb):=by
 intro pins s σ H Q I h
 exact wpAny_BinOp (Iv ha hb I h fun v u s2 x y H2 I2 rx ry q=>ho pins s2 σ H2 x y v u Q I2 rx ry q)
theorem JY{op:UnaryOp}{r:V→Hp→VK→Prop}(ho:UnR X (unaryOp op) r)(ha:PE X a ta):PE X (.UnaryOp op a pos) (tUn r ta):=by
 intro pins s σ H Q I h
 exact UnaryOp_ (thn (ha pins s σ H _ I h) fun v s1 ⟨x,H1,I1,r1,q1⟩=>ho pins s1 σ H1 x v Q I1 r1 q1)
theorem opI{f:Value→Value→Sem Value}{C:Int→Int→Prop}{g:Int→Int→Int}
  (rule:∀(i j:Int) (t u:Tok) (s:Shared) (Q:Value→Shared→Prop) (E:Value→Shared→Prop),C i j→Q (.int (g i j) s.toks) { s with toks:=s.toks+1 }→wpAny (model X.prog X.w) X.A (f (.int i t) (.int j u)) Q E s) :
  OpR X f (rI C fun i j=>.int (g i j)):=by
 intro pins s σ H x y v u Q I rx ry h
 obtain⟨i,j,rfl,rfl,hc,q⟩:=h
 obtain⟨t,rfl⟩:=rx
 obtain⟨t',rfl⟩:=ry
 exact rule i j t t' s _ _ hc ⟨.int (g i j),H,I.tok _,⟨_,rfl⟩,q⟩
theorem Kk{f:Value→Value→Sem Value}{g:Int→Int→Int}
  (rule:∀(i j:Int) (t u:Tok) (s:Shared) (Q:Value→Shared→Prop) (E:Value→Shared→Prop),Q (.int (g i j) s.toks) { s with toks:=s.toks+1 }→wpAny (model X.prog X.w) X.A (f (.int i t) (.int j u)) Q E s) :
  OpR X f (rI0 fun i j=>.int (g i j)):=by
 intro pins s σ H x y v u Q I rx ry h
 obtain⟨i,j,rfl,rfl,q⟩:=h
 obtain⟨t,rfl⟩:=rx
 obtain⟨t',rfl⟩:=ry
 exact rule i j t t' s _ _ ⟨.int (g i j),H,I.tok _,⟨_,rfl⟩,q⟩
theorem Hy{f:Value→Value→Sem Value}{g:Int→Int→Bool}
  (rule:∀(i j:Int) (t u:Tok) (s:Shared) (Q:Value→Shared→Prop) (E:Value→Shared→Prop),Q (.bool (g i j)) s→wpAny (model X.prog X.w) X.A (f (.int i t) (.int j u)) Q E s) :
  OpR X f (rI0 fun i j=>.bl (g i j)):=by
 intro pins s σ H x y v u Q I rx ry h
 obtain⟨i,j,rfl,rfl,q⟩:=h
 obtain⟨t,rfl⟩:=rx
 obtain⟨t',rfl⟩:=ry
 exact rule i j t t' s _ _ ⟨.bl (g i j),H,I,rfl,q⟩
def IL(i j:Int):Prop:=0≤j∧j≤1000000∧i.natAbs<2 ^ 64
theorem Hx:OpR X (binaryOp .Add) (rI0 fun i j=>.int (i+j)):=Kk fun _ _ _ _ _ _ _ q=>add_int q
theorem Hu:OpR X (binaryOp .Sub) (rI0 fun i j=>.int (i - j)):=Kk fun _ _ _ _ _ _ _ q=>sub_int q
theorem Hw:OpR X (binaryOp .Mod) (rI (fun _ j=>0<j) fun i j=>.int (i % j)):=opI fun i j _ _ _ _ _ hc q=>by
 have h1:(0:Int)<j:=hc
 exact mod_int' (by omega) (by rw[Int.fmod_eq_emod_of_nonneg i (by omega)];exact q)
theorem Hv:OpR X (binaryOp .Pow) (rI IL fun i j=>.int (i ^ j.toNat)):=opI fun _ _ _ _ _ _ _ hc q=>pow_int_small hc.1 hc.2.1 hc.2.2 q
theorem unI{f:Value→Sem Value}{g:Int→Int}
  (rule:∀(i:Int) (t:Tok) (s:Shared) (Q:Value→Shared→Prop) (E:Value→Shared→Prop),Q (.int (g i) s.toks) { s with toks:=s.toks+1 }→wpAny (model X.prog X.w) X.A (f (.int i t)) Q E s) :
  UnR X f (rU fun i=>.int (g i)):=by
 intro pins s σ H x v Q I rx h
 obtain⟨i,rfl,q⟩:=h
 obtain⟨t,rfl⟩:=rx
 exact rule i t s _ _ ⟨.int (g i),H,I.tok _,⟨_,rfl⟩,q⟩
theorem Gs:UnR X (unaryOp .USub) (rU fun i=>.int (-i)):=unI fun _ _ _ _ _ q=>neg_int q
end
noncomputable def JN:V→V→Bool
 | .non,.non=>true|.non,.int _=>true|.int _,.non=>true|.non,.bl _=>true|.bl _,.non=>true|.non,.str _=>true|.str _,.non=>true
 | .int _,.int _=>true|.bl _,.bl _=>true|.str _,.str _=>true|.byt _,.byt _=>true
 | .int _,.str _=>true|.str _,.int _=>true|.bl _,.str _=>true|.str _,.bl _=>true
 | _,_=>false
def rEq:R2:=fun x y H Q=>JN x y=true∧Q (.bl (decide (x=y))) H
def rNe:R2:=fun x y H Q=>JN x y=true∧Q (.bl (!decide (x=y))) H
theorem uM{i j:Int}:decide (V.int i=V.int j)=(i == j):=by
 rw[Sl]
 simp
theorem As{i j:Bool}:decide (V.bl i=V.bl j)=(i == j):=by
 rw[Sl]
 simp
theorem uL{i j:Str}:decide (V.str i=V.str j)=(i == j):=by
 rw[Sl]
 simp
theorem uN{i j:Array UInt8}:decide (V.byt i=V.byt j)=(i.toList == j.toList):=by
 rw[Sl]
 cases i
 cases j
 simp
section
variable {X:Cx} {a b c:Expr} {ta tb tc:TE} {pos:Pos}
theorem p9{pins:List (Addr × Obj)}{σ:St}{H:Hp}{s:Shared}{Q:VK}{k k':Bool}(I:Inv X pins σ H s)(q:Q (.bl k) H)(e:k=k'):EP X pins σ Q (.bool k') s:=by
 subst e
 exact⟨.bl k,H,I,rfl,q⟩
theorem Fo:OpR X (compareOp .Eq) rEq:=by
 intro pins s σ H x y v u Q I rx ry h
 obtain⟨hs,q⟩:=h
 cases x with
 | non =>
  cases rx
  cases y with
  | non=>cases ry;exact PySem.EqNone.eq_none_none (p9 I q (by simp))
  | bl j=>cases ry;exact PySem.EqNone.eq_none_bool (p9 I q (by simp))
  | int j=>obtain⟨t',rfl⟩:=ry;exact PySem.EqNone.eq_none_int (p9 I q (by simp))
  | str j=>obtain⟨t',rfl⟩:=ry;exact PySem.EqNone.eq_none_str (p9 I q (by simp))
  | _=>exact absurd (show false=true from hs) PZ
 | bl i =>
  cases rx
  cases y with
  | non=>cases ry;exact PySem.EqNone.eq_bool_none (p9 I q (by simp))
  | bl j=>cases ry;exact eq_bool (p9 I q As)
  | str j=>obtain⟨t',rfl⟩:=ry;exact PySem.EqMixed.eq_bool_str (p9 I q (by simp))
  | _=>exact absurd (show false=true from hs) PZ
 | int i =>
  obtain⟨t,rfl⟩:=rx
  cases y with
  | non=>cases ry;exact PySem.EqNone.eq_int_none (p9 I q (by simp))
  | int j=>obtain⟨t',rfl⟩:=ry;exact eq_int (p9 I q uM)
  | str j=>obtain⟨t',rfl⟩:=ry;exact PySem.EqMixed.eq_int_str (p9 I q (by simp))
  | _=>exact absurd (show false=true from hs) PZ
 | str i =>
  obtain⟨t,rfl⟩:=rx
  cases y with
  | non=>cases ry;exact PySem.EqNone.eq_str_none (p9 I q (by simp))
  | bl j=>cases ry;exact PySem.EqMixed.eq_str_bool (p9 I q (by simp))
  | int j=>obtain⟨t',rfl⟩:=ry;exact PySem.EqMixed.eq_str_int (p9 I q (by simp))
  | str j=>obtain⟨t',rfl⟩:=ry;exact eq_str (p9 I q uL)
  | _=>exact absurd (show false=true from hs) PZ
 | byt i =>
  obtain⟨t,rfl⟩:=rx
  cases y with
  | byt j=>obtain⟨t',rfl⟩:=ry;exact PySem.W.eq_bytes (p9 I q uN)
  | _=>exact absurd (show false=true from hs) PZ
 | _=>cases y<;>exact absurd (show false=true from hs) PZ
theorem Kg:OpR X (compareOp .NotEq) rNe:=by
 intro pins s σ H x y v u Q I rx ry h
 obtain⟨hs,q⟩:=h
 cases x with
 | non =>
  cases rx
  cases y with
  | non=>cases ry;exact PySem.EqNone.ne_none_none (p9 I q (by simp))
  | bl j=>cases ry;exact PySem.EqNone.ne_none_bool (p9 I q (by simp))
  | int j=>obtain⟨t',rfl⟩:=ry;exact PySem.EqNone.ne_none_int (p9 I q (by simp))
  | str j=>obtain⟨t',rfl⟩:=ry;exact PySem.EqNone.ne_none_str (p9 I q (by simp))
  | _=>exact absurd (show false=true from hs) PZ
 | bl i =>
  cases rx
  cases y with
  | non=>cases ry;exact PySem.EqNone.ne_bool_none (p9 I q (by simp))
  | bl j=>cases ry;exact ne_bool (p9 I q (congrArg not As))
  | str j=>obtain⟨t',rfl⟩:=ry;exact PySem.EqMixed.ne_bool_str (p9 I q (by simp))
  | _=>exact absurd (show false=true from hs) PZ
 | int i =>
  obtain⟨t,rfl⟩:=rx
  cases y with
  | non=>cases ry;exact PySem.EqNone.ne_int_none (p9 I q (by simp))
  | int j=>obtain⟨t',rfl⟩:=ry;exact ne_int (p9 I q (congrArg not uM))
  | str j=>obtain⟨t',rfl⟩:=ry;exact PySem.EqMixed.ne_int_str (p9 I q (by simp))
  | _=>exact absurd (show false=true from hs) PZ
 | str i =>
  obtain⟨t,rfl⟩:=rx
  cases y with
  | non=>cases ry;exact PySem.EqNone.ne_str_none (p9 I q (by simp))
  | bl j=>cases ry;exact PySem.EqMixed.ne_str_bool (p9 I q (by simp))
  | int j=>obtain⟨t',rfl⟩:=ry;exact PySem.EqMixed.ne_str_int (p9 I q (by simp))
  | str j=>obtain⟨t',rfl⟩:=ry;exact ne_str (p9 I q (congrArg not uL))
  | _=>exact absurd (show false=true from hs) PZ
 | byt i =>
  obtain⟨t,rfl⟩:=rx
  cases y with
  | byt j=>obtain⟨t',rfl⟩:=ry;exact PySem.W.ne_bytes (p9 I q (congrArg not uN))
  | _=>exact absurd (show false=true from hs) PZ
 | _=>cases y<;>exact absurd (show false=true from hs) PZ
theorem Kh:OpR X (compareOp .Lt) (rI0 fun i j=>.bl (decide (i<j))):=Hy fun _ _ _ _ _ _ _ q=>lt_int q
theorem Ki:OpR X (compareOp .Gt) (rI0 fun i j=>.bl (decide (j<i))):=Hy fun _ _ _ _ _ _ _ q=>gt_int q
theorem Kj:OpR X (compareOp .GtE) (rI0 fun i j=>.bl (decide (j≤i))):=Hy fun _ _ _ _ _ _ _ q=>ge_int q
noncomputable def Ky:HO→Bool
 | .lst _=>true
 | .ins _ _ _=>true
 | _=>false
theorem jr{pins:List (Addr × Obj)}{s:Shared}{σ:St}{H:Hp}{a:Addr}{o:HO}(I:Inv X pins σ H s)(h:H a=some o)(p:Ky o=true):∃ ob,s.heap.get? a=some ob∧ob.cls ≠ .type "tuple" := by
 cases o with
 | lst xs =>
  obtain⟨_,its,n,_,e⟩:xs.length≤sizeLine∧∃(its:List Value) (n:Nat),j0 xs its∧s.heap.get? a=some { cls:=.type "list",data:=.seq its.toArray n }:=I.hok a _ h
  exact⟨_,e,(by show Value.type "list" ≠ .type "tuple";decide +kernel)⟩
 | ins C dx fs =>
  have x:=I.hok a _ h
  obtain⟨_,_,_,e,_⟩:=x
  exact⟨_,e,(by show Value.ref C ≠ .type "tuple";exact fun z=>by cases z)⟩
 | _=>exact absurd (show false=true from p) PZ
theorem OpR.or{f:Value→Value→Sem Value}{r r':R2}(h:OpR X f r)(h':OpR X f r'):OpR X f (fun x y H Q=>r x y H Q∨r' x y H Q):=by
 intro pins s σ H x y v u Q I rx ry q
 rcases q with q|q
 ·exact h pins s σ H x y v u Q I rx ry q
 ·exact h' pins s σ H x y v u Q I rx ry q
theorem zt(b:Expr){op:CmpOp}(h:op ≠ .In:=by decide)(h2:op ≠ .NotIn:=by decide):behindInMarks op b=false:=by
 have e1:(op == CmpOp.In)=false:=by cases op<;>first|rfl|exact absurd rfl h
 have e2:(op == CmpOp.NotIn)=false:=by cases op<;>first|rfl|exact absurd rfl h2
 cases b<;>simp[behindInMarks,e1,e2]
theorem CQ{op:CmpOp}{r:R2}(ho:OpR X (compareOp op) r)(ha:PE X a ta)(hb:PE X b tb)(hm:behindInMarks op b=false):PE X (.Compare a [op] [b] pos) (tOp r ta tb):=by
 intro pins s σ H Q I h
 exact wpAny_Compare1 (Iv ha hb I h fun v u s2 x y H2 I2 rx ry q=>ho pins s2 σ H2 x y v u Q I2 rx ry q) hm
def Jv(t:TE):TT:=fun σ H Q=>t σ H fun x H'=>∃ k,x = .bl k∧Q k H'
theorem Cz{op:CmpOp}{r:R2}(ho:OpR X (compareOp op) r)(ha:PE X a ta)(hb:PE X b tb)(hm:behindInMarks op b=false):PT X (.Compare a [op] [b] pos) (Jv (tOp r ta tb)):=by
 intro pins s σ H Q I h
 refine wpAny_isTrue_Compare1 (thn (ha pins s σ H _ I h) fun v s1 ⟨x,H1,I1,r1,q1⟩=>thn (hb pins s1 σ H1 _ I1 q1) fun u s2 ⟨y,H2,I2,r2,q2⟩ =>
  thn (ho pins s2 σ H2 x y v u _ I2 r1 r2 q2) fun c s3 ⟨z,H3,I3,r3,k,e,q3⟩=>?_) hm
 subst e
 cases r3
 exact wpAny_truthy_bool ⟨H3,I3,q3⟩
theorem lM:(sizeLine:Nat)<2 ^ 63:=by rw[sizeLine_eq];decide
theorem nE{x:V}{us:List Value}(r:j0 [x] us):∃ u,us=[u]∧p7 x u:=by
 cases r with
 | cons r1 r2=>cases r2;exact⟨_,rfl,r1⟩
theorem xP{x y:V}{us:List Value}(r:j0 [x,y] us):∃ u w',us=[u,w']∧p7 x u∧p7 y w':=by
 cases r with
 | cons r1 r2 =>
  cases r2 with
  | cons r3 r4=>cases r4;exact⟨_,_,rfl,r1,r3⟩
theorem AJ:A4 X (.builtin "abs") (fun xs H Q=>∃ i,xs=[.int i]∧Q (.int (if i<0 then -i else i)) H):=by
 intro pins s σ H xs us Q I r h
 obtain⟨i,rfl,q⟩:=h
 obtain⟨u,rfl,t,rfl⟩:=nE r
 exact call_abs_int fun u tk=>⟨.int (if i<0 then -i else i),H,I.tok _,⟨_,rfl⟩,q⟩
theorem wj(hc:X.calm=true):A4 X (.builtin "max") (fun xs H Q=>∃ i j,xs=[.int i,.int j]∧Q (.int (if j > i then j else i)) H):=by
 intro pins s σ H xs us Q I r h
 obtain⟨i,j,rfl,q⟩:=h
 obtain⟨u,w',rfl,⟨t,rfl⟩,⟨t',rfl⟩⟩:=xP r
 refine max_two_ints (I.ok.hd hc) fun h' tk k=>⟨_,H,I.kept k,?_,q⟩
 by_cases hj:j > i
 ·rw[if_pos hj,if_pos hj];exact⟨_,rfl⟩
 ·rw[if_neg hj,if_neg hj];exact⟨_,rfl⟩
theorem wg(hc:X.calm=true):A4 X (.builtin "min") (fun xs H Q=>∃ i j,xs=[.int i,.int j]∧Q (.int (if j<i then j else i)) H):=by
 intro pins s σ H xs us Q I r h
 obtain⟨i,j,rfl,q⟩:=h
 obtain⟨u,w',rfl,⟨t,rfl⟩,⟨t',rfl⟩⟩:=xP r
 refine min_two_ints (I.ok.hd hc) fun h' tk k=>⟨_,H,I.kept k,?_,q⟩
 by_cases hj:j<i
 ·rw[if_pos hj,if_pos hj];exact⟨_,rfl⟩
 ·rw[if_neg hj,if_neg hj];exact⟨_,rfl⟩
end
structure IF(h:Heap)(x dx C:Addr)(mA:Str→Option Value):Prop where
 obj:h.get? x=some (PySem.W.instObj C dx)
 ns:h.Ns1 dx mA
 ne:dx≠x
theorem vN{h:Heap}{dx:Addr}{mA:Str→Option Value}(n:h.Ns1 dx mA):∃ od,h.get? dx=some od∧∀ name,PySem.W.lookIn name od=some (mA name):=by
 obtain⟨o,es,ep,ho,hd,hk,_,hm⟩:=n
 refine⟨o,ho,fun name=>?_⟩
 have e:=hm name
 unfold nsFind findBy at e
 rw[← Array.find?_toList]at e
 unfold PySem.W.lookIn
 rw[hd]
 dsimp only
 split
 ·rename_i y q
  rw[q]at e
  exact congrArg some e
 ·rename_i q
  rw[q]at e
  have a:es.toList.any (·.refKey)=false:=by
   rw[List.any_eq_false]
   intro y hy
   obtain⟨z,t,hkey⟩:=hk y (Array.mem_toList_iff.mp hy)
   simp[DictEntry.refKey,hkey]
  have a':¬ es.toList.any (·.refKey)=true:=by rw[a];exact PZ
  rw[if_neg a']
  exact congrArg some e
theorem IF.look{h:Heap}{x dx C:Addr}{mA:Str→Option Value}(I:IF h x dx C mA):∃ od,PySem.W.InstAt h x (PySem.W.instObj C dx) C (some od)∧∀ name,PySem.W.lookIn name od=some (mA name) :=
 let ⟨od,ho,hl⟩:=vN I.ns
 ⟨od,⟨I.obj,rfl,rfl,ho⟩,hl⟩
section
variable {prog:Program} {w:World} {A:Around} {E:Value→Shared→Prop} {s:Shared} {K:Pg} {x dx C f:Addr} {mA:Str→Option Value} {name:Str} {v:Value}
end
section
variable {P:Program} {w:World} {H H':Hp} {h h':Heap} {a C dx:Addr} {fs fs':List (Str × V)}
theorem DE(hok:HOk P w H h)(e:H a=some (.ins C dx fs)):∃ mA,IF h a dx C mA∧(∀ f,IE (fs.lookup f) (mA f))∧PySem.Within mA (fs.map (·.1))∧fs.length≤1000∧H dx=some (.own a):=by
 obtain⟨d,z,ne,ob,mA,n,r,q⟩:=(show C1 P w H h a (.ins C dx fs)from hok a _ e)
 exact⟨mA,⟨ob,n,ne⟩,r,q,z,d⟩
end
structure Cls(K:Pg)(C:Addr):Prop where
 pg:PySem.W.plainGet K C Str.empty=true
 hd:PySem.W.hasDictIn K C=true
 po:PySem.W.plainOver K C=true
 sa:PySem.W.findIn K (.ref C) "__setattr__" = some (some (.builtin "object.__setattr__"))
theorem Cls.get{K:Pg}{C:Addr}(c:Cls K C)(f:Str):PySem.W.plainGet K C f=true:=c.pg
section
variable {X:Cx} {pins:List (Addr × Obj)} {σ:St} {H:Hp} {s:Shared} {a C dx:Addr} {fs:List (Str × V)} {f:Str} {v:V} {A:Around} {E:Value→Shared→Prop}
end
section
variable {X:Cx} {o e value:Expr} {f:Str} {pos pos' tpos:Pos} {ta tv:TE}
end
section
variable {X:Cx} {pins:List (Addr × Obj)} {σ:St} {H:Hp} {s:Shared} {A:Around} {E:Value→Shared→Prop} {Q:Value→Shared→Prop} {c:Value} {b:Bool}
inductive dI (K:Pg) (H:Hp):V→Value→Prop where
 | non:dI K H .non (.type "NoneType")
 | bl (x:Bool):dI K H (.bl x) (.type "bool")
 | int (i:Int):dI K H (.int i) (.type "int")
 | str (x:Str):dI K H (.str x) (.type "str")
 | flt (x:UInt64):dI K H (.flt x) (.type "float")
 | lst {a:Addr} {xs:List V} (e:H a=some (.lst xs)):dI K H (.ref a) (.type "list")
 | frz {a:Addr} {o:Obj} {xs:List V} (e:H a=some (.frz o (.lst xs))):dI K H (.ref a) (.type "list")
 | tup {a:Addr} {xs:List V} (e:H a=some (.tup xs)):dI K H (.ref a) (.type "tuple")
 | dK {a:Addr} {kvs:List (Key × V)} (e:H a=some (.dK kvs)):dI K H (.ref a) (.type "dict")
 | dT {a:Addr} {kvs:List (List Key × V)} (e:H a=some (.dT kvs)):dI K H (.ref a) (.type "dict")
 | ins {a C dx:Addr} {fs:List (Str × V)} (e:H a=some (.ins C dx fs)) (cl:Cls K C) (ha:PySem.W.findIn K (.ref C) "__class__" = some (some (.builtin "object.__class__")))
   (hn:PySem.W.specialIn K (.builtin "object.__class__") "__get__" = some (some (.builtin "getset_descriptor.__get__"))) (htk:PySem.W.takesIn K (.builtin "object.__class__")=some true)
   (hm:PySem.W.mroIn K C (.type "object")=some true):dI K H (.ref a) (.ref C)
theorem Q6{x:V}{u t:Value}(I:Inv X pins σ H s)(rx:p7 x u)(ty:dI X.K H x t)(e:PySem.W.kitOne X.K t c=some b)(h:∀ tk,Q (.bool b) { s with toks:=tk }) :
  wpAny (model X.prog X.w) A (call (.builtin "isinstance") [u,c]) Q E s:=by
 cases ty with
 | non=>cases(show u=Value.none from rx);exact PySem.W.kia_one PySem.W.kitx_none I.kIn True.intro e (fun z=>nomatch z) h
 | bl y=>cases(show u=Value.bool y from rx);exact PySem.W.kia_one PySem.W.kitx_bool I.kIn True.intro e (fun z=>nomatch z) h
 | int i=>obtain⟨t,q⟩:=(show ∃ t,u=Value.int i t from rx);cases q;exact PySem.W.kia_one PySem.W.kitx_int I.kIn True.intro e (fun z=>nomatch z) h
 | str y=>obtain⟨t,q⟩:=(show ∃ t,u=Value.str y t from rx);cases q;exact PySem.W.kia_one PySem.W.kitx_str I.kIn True.intro e (fun z=>nomatch z) h
 | flt y=>obtain⟨t,q⟩:=(show ∃ t,u=Value.float y t from rx);cases q;exact PySem.W.kia_one PySem.W.kitx_float I.kIn True.intro e (fun z=>nomatch z) h
 | @lst a xs ea =>
  cases(show u=Value.ref a from rx)
  obtain⟨_,_,n,_,h1⟩:=(show C1 X.prog X.w H s.heap a (.lst xs)from I.hok a _ ea)
  exact PySem.W.kia_one PySem.W.kitx_list I.kIn ⟨_,h1,rfl⟩ e (fun z=>nomatch z) h
 | @frz a ob xs ea =>
  cases(show u=Value.ref a from rx)
  obtain⟨_,_,_,n,_,h1⟩:=(show C1 X.prog X.w H s.heap a (.frz ob (.lst xs))from I.hok a _ ea)
  exact PySem.W.kia_one PySem.W.kitx_list I.kIn ⟨_,h1,rfl⟩ e (fun z=>nomatch z) h
 | @tup a xs ea =>
  cases(show u=Value.ref a from rx)
  obtain⟨_,_,_,p⟩:=(show C1 X.prog X.w H s.heap a (.tup xs)from I.hok a _ ea)
  obtain⟨o,h1,h2,_⟩:=p
  exact PySem.W.kia_one PySem.W.kitx_tuple I.kIn ⟨o,h1,h2⟩ e (fun z=>nomatch z) h
 | @dK a kvs ea =>
  cases(show u=Value.ref a from rx)
  obtain⟨_,_,vs,_,p⟩:=(show C1 X.prog X.w H s.heap a (.dK kvs)from I.hok a _ ea)
  obtain⟨o,es,ep,h1,h2,_⟩:=p
  exact PySem.W.kia_one PySem.W.kitx_dict I.kIn ⟨o,h1,h2.1⟩ e (fun z=>nomatch z) h
 | @dT a kvs ea =>
  cases(show u=Value.ref a from rx)
  obtain⟨_,_,xs,_,o,es,ep,h1,h2,_⟩:=(show C1 X.prog X.w H s.heap a (.dT kvs)from I.hok a _ ea)
  exact PySem.W.kia_one PySem.W.kitx_dict I.kIn ⟨o,h1,h2.1⟩ e (fun z=>nomatch z) h
 | @ins a C dx fs ea cl ha hn htk hm =>
  cases(show u=Value.ref a from rx)
  obtain⟨mA,O,_⟩:=DE I.hok ea
  obtain⟨od,J,_⟩:=O.look
  exact PySem.W.kia_one (PySem.W.kitx_own (cl.get _) cl.hd ha hn htk hm) I.kIn J e (fun z=>nomatch z) h
end
structure K1(k:Nat)(A:Around):Prop where
 hd:A.handled=none
 dp:A.depth+3*k+5<recursionLimit
 un:A.units+16*k+200<cLine
theorem K1.mono{j k:Nat}{A:Around}(r:K1 k A)(h:j≤k):K1 j A:=⟨r.hd,by have:=r.dp;omega,by have:=r.un;omega⟩
theorem K1.deeper{k:Nat}{A:Around}(r:K1 (k+1) A)(env:Env):K1 k (A.deeper env) :=
 ⟨r.hd,by have:=r.dp;show A.depth+1+3*k+5<_;omega,by have:=r.un;show A.units+3+16*k+200<_;omega⟩
theorem K1.in1{k:Nat}{A:Around}(r:K1 (k+1) A):K1 k A.in1 :=
 ⟨r.hd,by have:=r.dp;show A.depth+3*k+5<_;omega,by have:=r.un;show A.units+1+16*k+200<_;omega⟩
theorem K1.depth{k:Nat}{A:Around}(r:K1 k A):A.depth<recursionLimit:=by have:=r.dp;omega
theorem K1.units{k:Nat}{A:Around}(r:K1 k A):A.units+64<cLine:=by have:=r.un;omega
def LQ:TA:=fun _ H Q=>Q [] H
def JF(ta:TE)(tr:TA):TA:=fun σ H Q=>ta σ H fun x H1=>tr σ H1 fun xs H2=>Q (x :: xs) H2
section
variable {X:Cx} {e:Expr} {es:List Expr} {te:TE} {t:TA} {pos:Pos}
theorem Hs:PA X [] LQ:=fun _ _ _ _ H Q I h=>Calls.spliced_nil ⟨[],H,I,.nil,h⟩
theorem CU(ha:PE X e te)(hr:PA X es t)(hs:starEach (e :: es) X.env=(false,eval e X.env) :: starEach es X.env:=by rfl):PA X (e :: es) (JF te t):=by
 intro pos pins s σ H Q I h
 rw[hs]
 show wpAny _ _ (spliced ((false,eval e X.env) :: backTo pos (starEach es X.env))) _ _ s
 refine Calls.spliced_cons (thn (ha pins s σ H _ I h) fun u s1 zz=>?_)
 obtain⟨x,H1,I1,r1,q1⟩:=zz
 exact thn (hr pos pins s1 σ H1 _ I1 q1) fun us s2 ⟨xs,H2,I2,r2,q2⟩=>⟨x :: xs,H2,I2,.cons r1 r2,q2⟩
def LL(t:TA):TE:=fun σ H Q=>t σ H fun xs H1=>xs.length≤sizeLine∧∀ p,H1 p=none→Q (.ref p) (upd H1 p (.tup xs))
def LR(t:TA):TE:=fun σ H Q=>t σ H fun xs H1=>xs.length≤sizeLine∧∀ p,H1 p=none→Q (.ref p) (upd H1 p (.lst xs))
theorem Hk{x1}(h:PA X es t):PE X (.Tuple es x1 pos) (LL t):=by
 intro pins s σ H Q I hq
 refine wpAny_Tuple_spliced (thn (h pos pins s σ H _ I hq) fun us s1 ⟨xs,H1,I1,r,z,q⟩=>⟨by rw[← r.length];exact z,?_⟩)
 have hf:H1 s1.heap.objs.size=none:=I1.hok.fresh (Py _)
 refine⟨.ref s1.heap.objs.size,upd H1 s1.heap.objs.size (.tup xs),I1.laid (t':=s1.toks) (fun b u e=>Pl _ e) (Py _) ?_,rfl,q _ hf⟩
 exact⟨z,us,r,⟨_,PK _ rfl,rfl,_,rfl⟩⟩
theorem yS(h:PA X es t):PE X (.List es pos) (LR t):=by
 intro pins s σ H Q I hq
 refine wpAny_List_spliced (thn (h pos pins s σ H _ I hq) fun us s1 ⟨xs,H1,I1,r,z,q⟩=>⟨by rw[← r.length];exact z,?_⟩)
 have hf:H1 s1.heap.objs.size=none:=I1.hok.fresh (Py _)
 refine⟨.ref s1.heap.objs.size,upd H1 s1.heap.objs.size (.lst xs),I1.laid (t':=s1.toks) (fun b u e=>Pl _ e) (Py _) ?_,rfl,q _ hf⟩
 exact⟨z,us,0,r,PK _ rfl⟩
end
noncomputable abbrev Sp:=List V→Hp→VK→XK→Prop
noncomputable abbrev CXT:=List Env→Hp→Shared→XK→Value→Shared→Prop
structure rQ(P:Program)(w:World)(K:Pg)(mg:Str→Option Value)(base:Heap)(A:Around)(outer:List Env)(s:Shared)(H:Hp):Prop where
 frames:A.frames=some outer
 mod:Mod K mg base
 bs:∀ b o,base.get? b=some o→s.heap.get? b=some o∧H b=none
 bsz:base.objs.size≤s.heap.objs.size
 funs:s.heap.FunFrames base outer
 frf:∀ b∈frs outer,H b=none
 hok:HOk P w H s.heap
 bare:AllBare s.gens
def CE(outer:List Env)(P:Program)(w:World)(H:Hp)(s:Shared)(Q:VK)(u:Value)(s':Shared):Prop :=
 ∃ v H',s'.os=s.os∧AllBare s'.gens∧Un (frs outer) [] H H' s.heap s'.heap∧HOk P w H' s'.heap∧p7 v u∧Q v H'
def CR(CX:CXT)(outer:List Env)(P:Program)(w:World)(H:Hp)(s:Shared)(Q:VK)(E:XK)(r:Result)(s':Shared):Prop :=
 match r with
 | .ok (.ret u)=>CE outer P w H s Q u s'
 | .ok _=>False
 | .error e=>CX outer H s E e s'
structure S8(P:Program)(w:World)(K:Pg)(mg:Str→Option Value)(base:Heap)(CX:CXT)(k:Nat)(f:Addr)(fd:FuncData)(ps:List Str)(sp:Sp):Prop where
 len:∀ vs H Q E,sp vs H Q E→vs.length=ps.length
 run:∀(A:Around) (outer:List Env) (s:Shared) (H:Hp) (args:Args) (us:List Value) (vs:List V) (Q:VK) (E:XK),K1 k A→rQ P w K mg base A outer s H→BindsTo s fd args (ps.zip us)→j0 vs us→sp vs H Q E →
  codeAny (model P w) A (.call (.ref f) args) (CR CX outer P w H s Q E) s
theorem S8.mono{P:Program}{w:World}{K:Pg}{mg:Str→Option Value}{base:Heap}{CX:CXT}{j k:Nat}{f:Addr}{fd:FuncData}{ps:List Str}{sp:Sp}(F:S8 P w K mg base CX j f fd ps sp)(h:j≤k) :
  S8 P w K mg base CX k f fd ps sp:=⟨F.len,fun A outer s H args us vs Q E hr=>F.run A outer s H args us vs Q E (hr.mono h)⟩
theorem S8.imp{P:Program}{w:World}{K:Pg}{mg:Str→Option Value}{base:Heap}{CX:CXT}{k:Nat}{f:Addr}{fd:FuncData}{ps:List Str}{sp sp':Sp}(F:S8 P w K mg base CX k f fd ps sp)
  (h:∀ vs H Q E,sp' vs H Q E→sp vs H Q E):S8 P w K mg base CX k f fd ps sp' :=
 ⟨fun vs H Q E q=>F.len vs H Q E (h _ _ _ _ q),fun A outer s H args us vs Q E hr he hb hv hs=>F.run A outer s H args us vs Q E hr he hb hv (h _ _ _ _ hs)⟩
theorem rQ.in1{P:Program}{w:World}{K:Pg}{mg:Str→Option Value}{base:Heap}{A:Around}{outer:List Env}{s:Shared}{H:Hp}(e:rQ P w K mg base A outer s H) :
  rQ P w K mg base A.in1 outer s H:=⟨e.frames,e.mod,e.bs,e.bsz,e.funs,e.frf,e.hok,e.bare⟩
section
variable {X:Cx} {pins:List (Addr × Obj)} {σ:St} {H:Hp} {s s':Shared}
theorem Inv.env0(I:Inv X pins σ H s):rQ X.prog X.w X.K X.mg X.base X.A X.stack s H :=
 ⟨I.ok.frames,I.ok.mod,I.bs,Pu I.ok.bsz I.sz,I.stack,I.stkFree,I.hok,I.bare⟩
theorem Inv.after{Q:VK}{u:Value}(I:Inv X pins σ H s)(h:CE X.stack X.prog X.w H s Q u s'):EP X pins σ Q u s':=by
 obtain⟨v,H',os,bare,un,hok,r,q⟩:=h
 obtain⟨hh,g,d,t,os'⟩:=s'
 obtain rfl:os'=s.os:=os
 exact⟨v,H',I.call (h':=hh) (g':=g) (d':=d) (t':=t) (ch:=[]) un hok bare (fun b z=>absurd z (by simp)),r,q⟩
end
def JH(sp:Sp)(dvs:List V)(E:XK)(t:TA):TE:=fun σ H Q=>t σ H fun vs H1=>sp (vs++dvs) H1 Q E
def gW(K:Pg)(fd:FuncData)(ps:List Str)(ds:List Value):Prop :=
 ∀(s:Shared) (us:List Value),K.In s.heap→(us++ds).length=ps.length→BindsTo s fd ⟨us,[]⟩ (ps.zip (us++ds))
theorem gW.all{K:Pg}{fd:FuncData}{ps:List Str}(h:∀ us:List Value,us.length=ps.length→bindArgs fd ⟨us,[]⟩=pure (ps.zip us)):gW K fd ps []:=fun s us _ hl=>by
 rw[Rp]at hl ⊢
 exact .of_eq (h us hl)
def mD(CX:CXT)(X:Cx)(E:XK):Prop:=∀(pins:List (Addr × Obj)) (σ:St) (H:Hp) (s:Shared) (e:Value) (s':Shared),Inv X pins σ H s→CX X.stack H s E e s'→X.xe e s'
section
variable {X:Cx} {CX:CXT} {k:Nat} {f C:Addr} {fd:FuncData} {ps:List Str} {sp:Sp} {dvs:List V} {ds:List Value} {E:XK} {x m:Str} {p pos apos:Pos} {e o:Expr} {es:List Expr} {ta:TE} {t:TA}
theorem GQ{pins:List (Addr × Obj)}{σ:St}{H:Hp}{s:Shared}{Q:VK}{us:List Value}{vs:List V}(F:S8 X.prog X.w X.K X.mg X.base CX k f fd ps sp)(hr:K1 k X.A)(hb:gW X.K fd ps ds)(hd:j0 dvs ds)(hx:mD CX X E)
  (I:Inv X pins σ H s) (r:j0 vs us) (h:sp (vs++dvs) H Q E):wpAny (model X.prog X.w) X.A (call (.ref f) us) (EP X pins σ Q) X.xe s:=by
 have r2:j0 (vs++dvs) (us++ds):=r.append hd
 have hl:(us++ds).length=ps.length:=by rw[← r2.length];exact F.len _ _ _ _ h
 refine wpAny_call (codeAny_mono (F.run X.A X.stack s H ⟨us,[]⟩ (us++ds) (vs++dvs) Q E hr I.env0 (hb s us I.kIn hl) r2 h) fun r s' hq=>?_)
 cases r with
 | error e=>exact hx pins σ H s e s' I hq
 | ok fl =>
  cases fl with
  | ret u=>exact I.after hq
  | next=>exact False.elim hq
  | brk=>exact False.elim hq
  | cont=>exact False.elim hq
theorem CS(F:S8 X.prog X.w X.K X.mg X.base CX k f fd ps sp)(hr:K1 k X.A)(hg:Gl X x)(hm:X.mg x=some (.ref f))(hk:PySem.W.keepIn X.K (.ref f)=true)(hb:gW X.K fd ps ds)(hd:j0 dvs ds)(hx:mD CX X E)
  (ha:PA X (e :: es) t) (hdb:(x == ("__debug__" : Str))=false:=by decide) (he:starEach (e :: es) X.env=(false,eval e X.env) :: starEach es X.env:=by rfl) (hpl:(backTo pos (starEach es X.env)).any (·.1)=false:=by rfl) :
  PE X (.Call (.Name x p) (e :: es) [] pos) (JH sp dvs E t):=by
 intro pins s σ H Q I h
 refine wpAny_Call_Name_kw (uv I hg hm ?_ hdb)
 refine PySem.W.callWith_K (h₀:=X.base) I.ok.mod.kin hk (thn (ha pos pins s σ H _ I h) fun us s1 ⟨vs,H1,I1,r,q⟩=>⟨I1.kIn,?_⟩) he hpl
 exact GQ F hr hb hd hx I1 r q
end
section
variable {X:Cx} {CX:CXT} {k:Nat} {f C:Addr} {fd:FuncData} {ps ks:List Str} {sp:Sp} {E:XK} {x m:Str} {p pos apos kpos:Pos} {e o:Expr} {es:List Expr} {kws:List Keyword} {te ta:TE} {t tk:TA} {nm:Option Str}
variable {g:List Value→List Value→List Value} {gV:List V→List V→List V}
end
structure e9(N P:List Str)(sc:Scope):Prop where
 kind:sc.kind = .function
 co:sc.isCoroutine=false
 gen:sc.isGenerator=false
 nd:N.Nodup
 pre:N.take P.length=P
 par:∀ x∈P,sc.names.lookup x=some .local∨sc.names.lookup x=some .cell
 nofree:∀ y∈sc.names,y.2 ≠ .free
theorem jM{kindOf:Str→Option NameKind}{x:Str}:∀{binds:List (Str × Value)} {m:Str→Option Value},(∀ v,(x,v)∉binds)→bindL kindOf binds m x=m x
 | [],_,_=>rfl
 | (n,v) :: r,m,h=>by
  unfold bindL
  rw[jM fun w hw=>h w (Pk _ hw)]
  split
  ·have:x≠n:=by rintro rfl;exact h v Po
   simp[this]
  ·rfl
theorem jO{kindOf:Str→Option NameKind}{x:Str}:∀{binds:List (Str × Value)} {m:Str→Option Value},(∀ v,(x,v)∉binds)→bindC kindOf binds m x=m x
 | [],_,_=>rfl
 | (n,v) :: r,m,h=>by
  unfold bindC
  rw[jO fun w hw=>h w (Pk _ hw)]
  split
  ·rfl
  ·have:x≠n:=by rintro rfl;exact h v Po
   simp[this]
theorem jN{kindOf:Str→Option NameKind}{x:Str}{v:Value}:∀{P:List Str} {vs:List Value} {i:Nat} {m:Str→Option Value},P.Nodup→P[i]? = some x→vs[i]? = some v→kindOf x=some .local →
  bindL kindOf (P.zip vs) m x=some v
 | [],_,_,_,_,h,_,_=>by simp at h
 | _ :: _,[],_,_,_,_,h,_=>by simp at h
 | p :: P,w :: vs,0,m,nd,h1,h2,hk=>by
  simp at h1 h2;subst h1;subst h2
  show bindL kindOf ((p,w) :: P.zip vs) m p=_
  unfold bindL
  rw[jM fun v hv=>(Sm.mp nd).1 (Rb hv).1,if_pos hk]
  simp
 | p :: P,w :: vs,i+1,m,nd,h1,h2,hk=>by
  show bindL kindOf ((p,w) :: P.zip vs) m x=_
  unfold bindL
  exact jN (i:=i) (Sm.mp nd).2 (by simpa using h1) (by simpa using h2) hk
theorem jP{kindOf:Str→Option NameKind}{x:Str}{v:Value}:∀{P:List Str} {vs:List Value} {i:Nat} {m:Str→Option Value},P.Nodup→P[i]? = some x→vs[i]? = some v→kindOf x≠some .local →
  bindC kindOf (P.zip vs) m x=some v
 | [],_,_,_,_,h,_,_=>by simp at h
 | _ :: _,[],_,_,_,_,h,_=>by simp at h
 | p :: P,w :: vs,0,m,nd,h1,h2,hk=>by
  simp at h1 h2;subst h1;subst h2
  show bindC kindOf ((p,w) :: P.zip vs) m p=_
  unfold bindC
  rw[jO fun v hv=>(Sm.mp nd).1 (Rb hv).1,if_neg hk]
  simp
 | p :: P,w :: vs,i+1,m,nd,h1,h2,hk=>by
  show bindC kindOf ((p,w) :: P.zip vs) m x=_
  unfold bindC
  exact jP (i:=i) (Sm.mp nd).2 (by simpa using h1) (by simpa using h2) hk
noncomputable def start(N:List Str)(vs:List V):St:=vs.map some++Ro (N.length - vs.length) none
noncomputable def pG(CX:CXT)(P:Program)(w:World)(K:Pg)(mg:Str→Option Value)(base:Heap)(N:List Str)(qual:Str)(scope:Scope)(f:Addr)(cd:Value)(A:Around)(outer:List Env)(s:Shared)(H:Hp)(E:XK):Cx where
 prog:=P
 w:=w
 K:=K
 mg:=mg
 base:=base
 A:=A.deeper (envOfC qual scope s.heap.objs.size f cd)
 N:=N
 s₀:=s
 H₀:=H
 env:=envOfC qual scope s.heap.objs.size f cd
 outer:=outer
 stack:=envOfC qual scope s.heap.objs.size f cd :: outer
 ex:=[]
 calm:=true
 fn:=fun _=>true
 pn:=[]
 xe:=fun e s'=>wpAny (model P w) (A.deeper (envOfC qual scope s.heap.objs.size f cd)) (leaving (envOfC qual scope s.heap.objs.size f cd) e) (fun _ s''=>CX outer H s E e s'') (fun e' s''=>CX outer H s E e' s'') s'
theorem pR{sc:Scope}{n:Nat}{x:Str}(h:sc.names.lookup x=some .cell):∃ c,(cellsFrom n sc.names []).lookup x=some c:=by
 have q:=PySem.W.cellsFrom_some sc.names n [] (.inl h)
 exact Option.isSome_iff_exists.mp q
theorem vU{CX:CXT}{P:Program}{w:World}{K:Pg}{mg:Str→Option Value}{base:Heap}{N ps:List Str}{qual:Str}{scope:Scope}{f:Addr}{cd:Value}{A:Around}{outer:List Env}{s s1:Shared}{H:Hp}{E:XK}{us:List Value}{vs:List V}
  (S:e9 N ps scope) (hd:A.handled=none) (e0:rQ P w K mg base A outer s H) (hl:vs.length=ps.length) (r:j0 vs us)
  (x:InCallC s s.heap.objs.size (bindL (envOfC qual scope s.heap.objs.size f cd).kindOf (ps.zip us) fun _=>none) (cellsFrom (s.heap.objs.size+1) scope.names []) (bindC (envOfC qual scope s.heap.objs.size f cd).kindOf (ps.zip us) fun _=>none) s1) :
  Inv (pG CX P w K mg base N qual scope f cd A outer s H E) [] (start N vs) H s1:=by
 have hpl:ps.length≤N.length:=by have:=congrArg SK S.pre;rw[PX]at this;omega
 obtain⟨h1,tk,rfl,hk⟩:=x.done
 have noA:∀ b:Addr,b∉(pG CX P w K mg base N qual scope f cd A outer s H E).ex:=fun b z=>absurd (show b∈([]:List Addr)from z) (by simp)
 refine⟨⟨e0.mod,S.kind,rfl,rfl,Py _,fun y z c h1 h2=>?_,fun y hy=>?_,fun y c _ h=>?_,fun _=>hd,Around.frames_deeper e0.frames,.inr ⟨rfl,rfl⟩,fun b z=>absurd z (noA b),e0.bs,e0.bsz,fun b _ _=>noA b,fun b z=>absurd z (noA b),e0.funs,e0.frf⟩,
  rfl,e0.bare,Un.kept hk,⟨_,x.toInCall.ns,fun i y v h1 h2 h3=>?_⟩,fun y c h=>⟨_,x.cell y c h⟩,e0.hok.fresh (Py _),fun y c h=>?_,fun p hp=>absurd (show p∈([]:List (Addr × Obj))from hp) (by simp),e0.hok.kept hk,?_⟩
 ·exact name_of_addr x.apart (PySem.mem_of_lookup h1) (PySem.mem_of_lookup h2)
 ·have hy:scope.names.lookup y=some .cell∨scope.names.lookup y=some .free:=hy
  rcases hy with hy|hy
  ·exact pR hy
  ·exact absurd rfl (S.nofree _ (PySem.mem_of_lookup hy))
 ·exact Ri (x.above y c (PySem.mem_of_lookup h))
 ·have hi:i<vs.length:=by
   unfold start at h2
   by_cases hi:i<vs.length
   ·exact hi
   ·rw[QH (by simpa using hi)]at h2
    rw[QQ]at h2
    split at h2<;>cases h2
  have ha:vs[i]? = some v:=by
   unfold start at h2
   rw[QY (by simpa using hi),PJ]at h2
   cases e:vs[i]? with
   | none=>rw[e]at h2;cases h2
   | some a=>rw[e]at h2;cases h2;rfl
  obtain⟨u,hu,rv⟩:=r.get ha
  have hp:ps[i]? = some y:=by
   rw[← S.pre,SF (by omega)];exact h1
  have ndP:ps.Nodup:=by rw[← S.pre];exact S.nd.sublist (List.take_sublist _ _)
  refine⟨u,rv,?_⟩
  rcases S.par y (Px hp)with k|k
  ·exact .inl ⟨k,jN ndP hp hu k⟩
  ·obtain⟨c,e⟩:=pR (n:=s.heap.objs.size+1) k
   refine .inr ⟨.inl k,c,e,?_⟩
   have q:=x.cell y c e
   rw[jP ndP hp hu (by show scope.names.lookup y≠_;rw[k];decide)]at q
   exact q
 ·exact e0.hok.fresh (Ri (x.above y c (PySem.mem_of_lookup h)))
 ·unfold start
  show _=N.length
  rw[PB,Pj,RW]
  omega
theorem KS{CX:CXT}{P:Program}{w:World}{K:Pg}{mg:Str→Option Value}{base:Heap}{k:Nat}{f:Addr}{name qual:Str}{params:Arguments}{body:List Stmt}{scope:Scope}{dV kV doc pm cdv ct oc:Value}{an od:Option Addr}
  {osl:Array (Option Value)} {N ps:List Str} {sp:Sp} (lk:K.lookup f=some ⟨oc,od,.func (PySem.W.fnOf name qual params body scope dV kV doc pm an cdv ct),osl⟩) (hcd:PySem.W.codeIn K cdv qual=true) (S:e9 N ps scope)
  (len:∀ vs H Q E,sp vs H Q E→vs.length=ps.length)
  (hbody:∀(A:Around) (outer:List Env) (s:Shared) (H:Hp) (vs:List V) (Q:VK) (E:XK),K1 k (A.deeper (envOfC qual scope s.heap.objs.size f cdv))→sp vs H Q E →
   ∃ t,PSs (pG CX P w K mg base N qual scope f cdv A outer s H E) body t∧t { nx:=fun _ H'=>Q .non H',rt:=Q } (start N vs) H) :
  S8 P w K mg base CX (k+1) f (PySem.W.fnOf name qual params body scope dV kV doc pm an cdv ct) ps sp:=by
 refine⟨len,fun A outer s H args us vs Q E hr e0 hb r hsp=>?_⟩
 have hl:=len _ _ _ _ hsp
 have KX:K.In s.heap:=e0.mod.kin.keeps fun b o e=>(e0.bs b o e).1
 have lim:s.heap.NoLimit:=e0.mod.nolimit.keeps fun b o e=>(e0.bs b o e).1
 have hkind:∀ y∈ps.zip us,scope.names.lookup y.1=some .local∨(scope.names.lookup y.1=some .cell∧((cellsFrom (s.heap.objs.size+1) scope.names []).lookup y.1).isSome=true):=fun⟨n,v⟩ hy=>by
  rcases S.par n (Rb hy).1 with q|q
  ·exact .inl q
  ·exact .inr ⟨q,PySem.W.cellsFrom_some _ _ _ (.inl q)⟩
 refine codeAny_call_function hr.depth (KX _ _ lk) rfl S.co S.gen rfl (PySem.W.codeRec_of KX hcd) (hb _ _ _ _ ?_)
 refine wpAny_newFunctionEnv_cells S.kind hkind fun env he s1 x=>?_
 subst he
 refine⟨lim.keeps x.toInCall.keep,codeAny_func ?_⟩
 obtain⟨t,ht,hq⟩:=hbody A outer s H vs Q E (hr.deeper _) hsp
 have I:Inv (pG CX P w K mg base N qual scope f cdv A outer s H E) [] (start N vs) H s1:=vU S hr.hd e0 hl r x
 refine wpAny_mono (ht [] s1 (start N vs) H _ I hq) (fun fl s' hs=>?_) fun e s' hs=>hs
 have fin:∀{σ':St} {H':Hp} {v:V} {u:Value},Inv (pG CX P w K mg base N qual scope f cdv A outer s H E) [] σ' H' s'→p7 v u→Q v H'→CE outer P w H s Q u s' :=
  fun{σ' H' v u} J rv q=>⟨v,H',J.os,J.bare,J.base,J.hok,rv,q⟩
 cases fl with
 | ret u =>
  obtain⟨v,σ',H',J,rv,q⟩:=hs
  exact fin J rv q
 | next =>
  obtain⟨σ',H',J,q⟩:=hs
  exact fin (v:=V.non) (u:=Value.none) J rfl q
 | brk =>
  obtain⟨_,_,_,q⟩:=hs
  exact False.elim q
 | cont =>
  obtain⟨_,_,_,q⟩:=hs
  exact False.elim q
section
variable {X:Cx} {x:Str} {p pos:Pos} {e:Expr} {es:List Expr} {t:TA} {id T:String} {r:List V→Hp→VK→Prop}
def tCB(r:List V→Hp→VK→Prop)(t:TA):TE:=fun σ H Q=>t σ H fun vs H1=>r vs H1 Q
theorem yV(hc:A4 X (.builtin id) r)(hg:Gl X x)(hm:X.mg x=none)(hv:bootBuiltins x=some (.builtin id))(ha:PA X (e :: es) t)(hn:x ≠ "__name__" := by decide)(hdb:(x == ("__debug__" : Str))=false:=by decide)
  (he:starEach (e :: es) X.env=(false,eval e X.env) :: starEach es X.env:=by rfl) (hpl:(backTo pos (starEach es X.env)).any (·.1)=false:=by rfl):PE X (.Call (.Name x p) (e :: es) [] pos) (tCB r t):=by
 intro pins s σ H Q I h
 refine wpAny_Call_Name_kw (aD I hg hm hv ?_ hn hdb)
 exact PyProof.Rows.callWith_builtin1 (thn (ha pos pins s σ H _ I h) fun us s1 ⟨vs,H1,I1,r1,q1⟩=>hc pins s1 σ H1 vs us Q I1 r1 q1) he hpl
theorem vG(hc:A4 X (.type T) r)(hg:Gl X x)(hm:X.mg x=none)(hv:bootBuiltins x=some (.type T))(ha:PA X (e :: es) t)(hn:x ≠ "__name__" := by decide)(hdb:(x == ("__debug__" : Str))=false:=by decide)
  (he:starEach (e :: es) X.env=(false,eval e X.env) :: starEach es X.env:=by rfl) (hpl:(backTo pos (starEach es X.env)).any (·.1)=false:=by rfl):PE X (.Call (.Name x p) (e :: es) [] pos) (tCB r t):=by
 intro pins s σ H Q I h
 refine wpAny_Call_Name_kw (aD I hg hm hv ?_ hn hdb)
 exact PyProof.Rows.callWith_type1 (thn (ha pos pins s σ H _ I h) fun us s1 ⟨vs,H1,I1,r1,q1⟩=>hc pins s1 σ H1 vs us Q I1 r1 q1) he hpl
end
end L2
namespace HT
open PySem PyProof.Rows
noncomputable def F4:List Int→List Int→Bool
 | [],[]=>false
 | [],_ :: _=>true
 | _ :: _,[]=>false
 | x :: xs,y :: ys=>if x=y then F4 xs ys else decide (x<y)
theorem S1(x y:Int)(xs ys:List Int):F4 (x :: xs) (y :: ys)=if x=y then F4 xs ys else decide (x<y):=rfl
theorem ix:F4 [] []=false:=rfl
theorem gC(y:Int)(ys:List Int):F4 [] (y :: ys)=true:=rfl
theorem gD(x:Int)(xs:List Int):F4 (x :: xs) []=false:=rfl
theorem pA(A:Around)(s:Shared)(a:Int)(t:Tok)(c:Int)(u:Tok):∃ e,SeqAt.EqAt A s (.int a t) (.int c u) e∧(e=true↔a=c) :=
 ⟨(a == c),SeqAt.EqAt.int_int a t c u,by simp⟩
theorem yG(A:Around)(s:Shared)(a:Int)(t:Tok)(c:Int)(u:Tok)(prog:Program)(w:World)(E:Value→Shared→Prop)(Q:Value→Shared→Prop)(h:Q (.bool (decide (a<c))) s) :
  wpAny (model prog w) A (richCompare .Lt (.int a t) (.int c u)) Q E s :=
 (PyProof.Rows.lt_int h:wpAny (model prog w) A (compareOp .Lt (.int a t) (.int c u)) Q E s)
section
open PySem.SeqAt
open PySem.AutoSeq1 (wpAny_loadPart')
open PySem.MeetsSeq PySem.MeetsSeq2 PySem.MeetsSeq3
theorem gX(l b:Addr)(items items2:Array Value)(n n2:Nat)(dd dd2:Option Addr)(sl sl2:Array (Option Value))(ns ms:List Int)(hi:IntsAre items.toList ns)(hj:IntsAre items2.toList ms) :
  Meets (Builtin.«tuple.__lt__» ⟨[.ref l,.ref b],[]⟩)
   (fun _ R s=>s.heap.get? l=some { cls:=.type "tuple",dict:=dd,data:=.seq items n,slots:=sl }∧s.heap.get? b=some { cls:=.type "tuple",dict:=dd2,data:=.seq items2 n2,slots:=sl2 } ∧
    R (.ok (.ret (.bool (F4 ns ms)))) s) :=
 .of_wp fun prog w A R s h=>by
  obtain⟨hp,g,d,tk,os⟩:=s;obtain⟨hl,hb,h⟩:=h
  have f2:=AutoSeq1.sub_tuple_tuple
  have z1:items.size=ns.length:=by rw[← hi.length];simp
  have z2:items2.size=ms.length:=by rw[← hj.length];simp
  wp_walk using wpAny_loadPart' hl,wpAny_loadPart' hb,wpAny_forIn_list _ (fun G8 b s'=>b.1=none∧s' = ⟨hp,g,d,tk,os⟩∧∃(vs ws:List Value) (ns' ms':List Int),G8=vs.zip ws ∧
   IntsAre vs ns'∧IntsAre ws ms'∧ns'.length+items2.size=ms'.length+items.size∧R (.ok (.ret (.bool (F4 ns' ms')))) ⟨hp,g,d,tk,os⟩) _
  case turn =>
   rintro⟨y,x⟩ G8 b s' ⟨hb',rfl,vs,ws,ns',ms',hz,hvi,hwi,hlen,hR⟩
   cases hvi with
   | nil=>rw[List.zip_nil_left]at hz;cases hz
   | cons a t hvi' =>
    cases hwi with
    | nil=>rw[List.zip_nil_right]at hz;cases hz
    | cons c u hwi' =>
     rw[RH]at hz
     injection hz with hyx hrest
     injection hyx with hy hx
     subst hy hx
     rw[S1]at hR
     simp only[Pp]at hlen
     obtain⟨e,he,hiff⟩:=pA A.in1 ⟨hp,g,d,tk,os⟩ a t c u
     refine Ph (he prog w _ _ ?_)
     cases e with
     | true =>
      rw[if_pos (hiff.mp rfl)]at hR
      wp_walk
      exact⟨rfl,rfl,_,_,_,_,hrest,hvi',hwi',by omega,hR⟩
     | false =>
      rw[if_neg (fun q=>absurd (hiff.mpr q) PZ)]at hR
      have hri:=yG A.in1 ⟨hp,g,d,tk,os⟩ a t c u prog w
      wp_walk using hri
      exact⟨_,rfl,by simpa using hR⟩
  case fin =>
   rintro⟨b1,b2⟩ s' ⟨hb',rfl,vs,ws,ns',ms',hz,hvi,hwi,hlen,hR⟩
   simp only at hb'
   subst hb'
   have hv:F4 ns' ms'=decide (items.size<items2.size):=by
    cases hvi with
    | nil =>
     cases hwi with
     | nil =>
      simp only[Sn]at hlen
      rw[ix]
      exact(decide_eq_false (by omega)).symm
     | cons c u hw =>
      simp only[Sn,Pp]at hlen
      rw[gC]
      exact(decide_eq_true (by omega)).symm
    | cons a t hv =>
     cases hwi with
     | nil =>
      simp only[Sn,Pp]at hlen
      rw[gD]
      exact(decide_eq_false (by omega)).symm
     | cons c u hw =>
      rw[RH]at hz
      cases hz
   rw[hv]at hR
   wp_walk
   exact⟨_,rfl,by simpa[Builtin.Tuple.tupleCompareSizes]using hR⟩
  case h =>
   exact⟨rfl,rfl,items.toList,items2.toList,ns,ms,rfl,hi,hj,by omega,h⟩
end
section
variable {prog:Program} {w:World} {A:Around} {E:Value→Shared→Prop} {s:Shared}
theorem gz{l b:Addr}{items items2:Array Value}{ns ms:List Int}{Q:Value→Shared→Prop}(hl:IsTup s.heap l items)(hb:IsTup s.heap b items2)(hi:IntsAre items.toList ns)(hj:IntsAre items2.toList ms)
  (hu:A.units<cLine) (h:Q (.bool (F4 ns ms)) s):wpAny (model prog w) A (compareOp .Lt (.ref l) (.ref b)) Q E s:=by
 obtain⟨⟨cls,dd,data,sl⟩,ho,hc,n,hd⟩:=id hl
 obtain⟨⟨cls2,dd2,data2,sl2⟩,ho2,hc2,n2,hd2⟩:=id hb
 simp only at hc hd hc2 hd2
 subst hc hd hc2 hd2
 exact richCompare_meets_room (op:=.Lt) ⟨_,ho,rfl⟩ ⟨_,ho2,rfl⟩ PySem.F.slot_tuple_lt PySem.F.entry_tuple_lt (PySem.F.args_tuple_lt_2 _ _) (gX l b items items2 n n2 dd dd2 sl sl2 ns ms hi hj)
  ⟨ho,ho2,show Value.bool (F4 ns ms)≠Value.notImplemented∧Q (.bool (F4 ns ms)) s from⟨(fun x=>nomatch x),h⟩⟩ hu
noncomputable def sIx(n d:Nat):Option Int→Nat
 | none=>d
 | some v=>if v<0 then(v+(n:Int)).toNat else min v.toNat n
theorem yz(n d:Nat):sIx n d none=d:=rfl
theorem Cr(n d k:Nat):sIx n d (some (k:Int))=min k n:=by
 show(if (k:Int)<0 then((k:Int)+(n:Int)).toNat else min (k:Int).toNat n)=min k n
 rw[if_neg (by omega),Rq]
theorem GK(n d:Nat)(hd:d≤n)(o:Option Int):sIx n d o≤n:=by
 cases o with
 | none=>exact hd
 | some v =>
  show(if v<0 then(v+(n:Int)).toNat else min v.toNat n)≤n
  by_cases hv:v<0
  ·rw[if_pos hv];omega
  ·rw[if_neg hv];exact Sb _ _
theorem uU(v:Int)(n d:Nat):(if v<0 then max (v+(n:Int)) 0 else min v (n:Int))=((sIx n d (some v):Nat):Int):=by
 show(if v<0 then max (v+(n:Int)) 0 else min v (n:Int))=(((if v<0 then(v+(n:Int)).toNat else min v.toNat n):Nat):Int)
 by_cases hv:v<0
 ·simp only[if_pos hv];omega
 ·simp only[if_neg hv];omega
theorem rK(lo hi:Option Int)(n:Nat):Builtin.Slice.sliceAdjust lo hi 1 (n:Int)=(((sIx n 0 lo:Nat):Int),((sIx n n hi:Nat):Int)):=by
 have h1:¬ ((1:Int)<0):=by omega
 unfold Builtin.Slice.sliceAdjust
 simp only[h1,if_false]
 refine Prod.ext ?_ ?_
 ·cases lo with
  | none=>rfl
  | some v=>exact uU v n 0
 ·cases hi with
  | none=>rfl
  | some v=>exact uU v n n
theorem qO(i j:Nat):Builtin.Slice.slicePlaces (i:Int) (j:Int) 1=j - i:=by
 unfold Builtin.Slice.slicePlaces
 have h1:(1:Int) > 0:=by omega
 simp only[h1,if_true,Int.ediv_one]
 split<;>omega
theorem fL{v:Value}{o:Option Int}{Q:Option Int→Shared→Prop}(p:IsPart v o)(h:Q o s):wpAny (model prog w) A (Builtin.Slice.slicePartIndex v) Q E s:=by
 cases p with
 | none=>exact slicePart_none h
 | int i t=>exact slicePart_int h
theorem cg{sl:Addr}{vl vu:Value}{lo hi:Option Int}{n:Nat}{Q:Int × Int × Nat→Shared→Prop}(hs:s.heap.IsSliceOf sl vl vu .none)(pl:IsPart vl lo)(pu:IsPart vu hi)
  (h:Q (((sIx n 0 lo:Nat):Int),1,sIx n n hi - sIx n 0 lo) s):wpAny (model prog w) A (Builtin.Slice.sliceApplied (.ref sl) (pure (n:Int))) Q E s:=by
 obtain⟨os,hos,hcs,hds⟩:=id hs
 unfold Builtin.Slice.sliceApplied Builtin.Slice.sliceFields
 refine Ph (Ph (wpAny_field hos hds (x:=vl) rfl (Ph (wpAny_field hos hds (x:=vu) rfl (Ph (wpAny_field hos hds (x:=.none) rfl (PD ?_)))))))
 refine Ph (slicePart_none ?_)
 show wpAny _ _ (if ((1:Int) == 0)=true then _ else _) _ _ s
 rw[if_neg (by decide)]
 refine Ph (fL pl (Ph (fL pu (Ph (PD ?_)))))
 show wpAny _ _ (match Builtin.Slice.sliceAdjust lo hi 1 (n:Int)with|(lo,hi)=>pure (lo,(1:Int),Builtin.Slice.slicePlaces lo hi 1)) _ _ s
 rw[rK lo hi n]
 show wpAny _ _ (pure (((sIx n 0 lo:Nat):Int),(1:Int),Builtin.Slice.slicePlaces ((sIx n 0 lo:Nat):Int) ((sIx n n hi:Nat):Int) 1)) _ _ s
 rw[qO]
 exact PD h
theorem yP(xs:Array Value)(i k:Nat):((QM k).filterMap fun(m:Nat)=>xs[((i:Int)+(m:Int)*1).toNat]?).toArray=((xs.toList.drop i).take k).toArray:=by
 have e:(fun(m:Nat)=>xs[((i:Int)+(m:Int)*1).toNat]?)=fun m=>xs[i+m]?:=by
  funext m
  have:((i:Int)+(m:Int)*1).toNat=i+m:=by omega
  rw[this]
 rw[e]
 have:=pick_run xs i k
 rw[List.filterMap_map]at this
 have e2:((fun x=>xs[x]?) ∘ fun x=>i+x)=fun m=>xs[i+m]?:=rfl
 rw[e2]at this
 rw[this]
theorem bO{t sl:Addr}{items:Array Value}{vl vu:Value}{lo hi:Option Int}{Q:Value→Shared→Prop}(ht:IsTup s.heap t items)(hs:s.heap.IsSliceOf sl vl vu .none)(pl:IsPart vl lo)(pu:IsPart vu hi)
  (hw:¬ (sIx items.size 0 lo=0∧sIx items.size items.size hi=items.size))
  (h:Q (.ref s.heap.objs.size) { s with heap:=s.heap.push { cls:=.type "tuple",data:=.seq ((items.toList.drop (sIx items.size 0 lo)).take (sIx items.size items.size hi - sIx items.size 0 lo)).toArray } })
  (hsz:items.size≤sizeLine):wpAny (model prog w) A (getItem (.ref t) (.ref sl)) Q E s:=by
 have htake:sizeOk (.seq ((items.toList.drop (sIx items.size 0 lo)).take (sIx items.size items.size hi - sIx items.size 0 lo)).toArray):=by
  show((items.toList.drop (sIx items.size 0 lo)).take (sIx items.size items.size hi - sIx items.size 0 lo)).toArray.size≤sizeLine
  rw[PR,PX,Qh,Array.length_toList]
  omega
 have hj:sIx items.size items.size hi≤items.size:=GK _ _ (Py _) hi
 obtain⟨os,hos,hcs,hds⟩:=id hs
 have hTs:s.TypeIs (.ref sl) "slice" := ⟨os,hos,hcs⟩
 unfold getItem
 try with_reducible refine wpAny_holding ?_
 first|refine Ph (PD ?_)|skip
 refine Ph (wpAny_sequenceKey ht.typeIs (by decide) ?_)
 refine Ph (wpAny_callSpecial?_slot (name:=Str.ofString "__getitem__") ht.typeIs PyProof.Rows.slot_tuple_getitem
  (wpAny_call_entry PyProof.Rows.slot_tuple_getitem ht.typeIs entry_tuple_getitem ?_ (args_tuple_getitem _ _)))
 show wpAny _ _ (Builtin.Tuple.tupleItemsOf (.ref t) >>= _) _ _ s
 refine Ph (tupleItemsOf_ ht ?_)
 refine Ph (wpAny_typeOf hTs ?_)
 rw[if_pos (by decide)]
 refine Ph (cg hs pl pu ?_)
 have hno:¬ ((((sIx items.size 0 lo:Nat):Int) == 0 && (1:Int) == 1 && (sIx items.size items.size hi - sIx items.size 0 lo) == items.size)=true):=by
  intro q
  rw[Rl,Rl]at q
  have q1:((sIx items.size 0 lo:Nat):Int)=0:=eq_of_beq q.1.1
  have q2:sIx items.size items.size hi - sIx items.size 0 lo=items.size:=eq_of_beq q.2
  exact hw ⟨by omega,by omega⟩
 show wpAny _ _ (if (((sIx items.size 0 lo:Nat):Int) == 0 && (1:Int) == 1 && (sIx items.size items.size hi - sIx items.size 0 lo) == items.size)=true then _ else _) _ _ s
 rw[if_neg hno,yP]
 first
  | exact Ph (m:=Builtin.Tuple.tupleExact _) (wpAny_newObj_type (PD ⟨_,rfl,PD h⟩) htake)
  | exact Ph (m:=Builtin.Tuple.tupleExact _) (wpAny_newObj_type (Ph (PD (PD ⟨_,rfl,PD h⟩))) htake)
  | exact Ph (Ph (m:=Builtin.Tuple.tupleExact _) (wpAny_newObj_type (PD (PD ⟨_,rfl,PD h⟩)) htake))
  | exact Ph (Ph (m:=Builtin.Tuple.tupleExact _) (wpAny_newObj_type (PD ⟨_,rfl,PD h⟩) htake))
end
end HT
namespace L2
open PySem PySem.Spec PyProof.Rows
noncomputable abbrev TO:=St→Hp→(Option Int→Hp→Prop)→Prop
def PO(X:Cx)(e:Option Expr)(t:TO):Prop :=
 ∀(pins:List (Addr × Obj)) (s:Shared) (σ:St) (H:Hp) (Q:Option Int→Hp→Prop),Inv X pins σ H s→t σ H Q →
  wpAny (model X.prog X.w) X.A (evalPart e X.env) (fun u s'=>∃ o H',Inv X pins σ H' s'∧IsPart u o∧Q o H') X.xe s
def Cd:TO:=fun _ H Q=>Q none H
def Jw(t:TE):TO:=fun σ H Q=>t σ H fun x H1=>∃ i,x = .int i∧Q (some i) H1
theorem gG{ns:List Int}:∀{us:List Value},j0 (ns.map V.int) us→IntsAre us ns:=by
 induction ns with
 | nil=>intro us r;rw[QS]at r;cases r;exact .nil
 | cons n ns ih =>
  intro us r
  rw[Qc]at r
  cases r with
  | cons r1 r2 =>
   obtain⟨t,e⟩:=r1
   subst e
   exact .cons n t (ih r2)
section
variable {X:Cx} {e:Expr} {te:TE} {lo hi:Option Expr} {tl th:TO} {pos p2:Pos}
theorem CI:PO X none Cd:=by
 intro pins s σ H Q I h
 rw[evalPart_none]
 exact PD ⟨none,H,I,.none,h⟩
theorem CH(h:PE X e te):PO X (some e) (Jw te):=by
 intro pins s σ H Q I hw
 rw[evalPart_some]
 refine thn (h pins s σ H _ I hw) fun u s1 zz=>?_
 obtain⟨x,H1,I1,r1,q1⟩:=zz
 obtain⟨i,rfl,q⟩:=q1
 obtain⟨t,rfl⟩:=r1
 exact⟨some i,H1,I1,.int i t,q⟩
def SlR(X:Cx)(r:V→Option Int→Option Int→Hp→VK→Prop):Prop :=
 ∀(pins:List (Addr × Obj)) (s:Shared) (σ:St) (H:Hp) (x:V) (v vl vu:Value) (lo hi:Option Int) (sl:Addr) (Q:VK),Inv X pins σ H s→p7 x v→s.heap.IsSliceOf sl vl vu .none→IsPart vl lo→IsPart vu hi→r x lo hi H Q →
  ∃ T id,typeLookup (.type T) "__getitem__" = pure (some (.builtin id))∧s.TypeIs v T∧wpAny (model X.prog X.w) X.A (getItem v (.ref sl)) (EP X pins σ Q) X.xe s
theorem SlR.or{r r':V→Option Int→Option Int→Hp→VK→Prop}(h:SlR X r)(h':SlR X r'):SlR X (fun x lo hi H Q=>r x lo hi H Q∨r' x lo hi H Q):=by
 intro pins s σ H x v vl vu lo hi sl Q I rx hs pl pu q
 rcases q with q|q
 ·exact h pins s σ H x v vl vu lo hi sl Q I rx hs pl pu q
 ·exact h' pins s σ H x v vl vu lo hi sl Q I rx hs pl pu q
def tSl(r:V→Option Int→Option Int→Hp→VK→Prop)(te:TE)(tl th:TO):TE:=fun σ H Q=>te σ H fun x H1=>tl σ H1 fun l H2=>th σ H2 fun u H3=>r x l u H3 Q
theorem oy{r:V→Option Int→Option Int→Hp→VK→Prop}(hr:SlR X r)(he:PE X e te)(hl:PO X lo tl)(hu:PO X hi th):PE X (.Subscript e (.Slice lo hi none p2) pos) (tSl r te tl th):=by
 intro pins s σ H Q I h
 refine Subscript_ (thn (he pins s σ H _ I h) fun v s1 zz=>?_)
 obtain⟨x,H1,I1,r1,q1⟩:=zz
 refine wpAny_Slice (thn (hl pins s1 σ H1 _ I1 q1) fun vl s2 ⟨l,H2,I2,pl,q2⟩=>thn (hu pins s2 σ H2 _ I2 q2) fun vu s3 zz=>?_)
 obtain⟨u,H3,I3,pu,q3⟩:=zz
 rw[evalPart_none]
 refine PD ?_
 have I4:Inv X pins σ H3 { s3 with heap:=s3.heap.push { cls:=.type "slice",data:=.fields #[vl,vu,.none] } }:=I3.kept (t':=s3.toks) fun b ob q=>Pl _ q
 obtain⟨T,id,hT,ht,hg⟩:=hr pins { s3 with heap:=s3.heap.push { cls:=.type "slice",data:=.fields #[vl,vu,.none] } } σ H3 x v vl vu l u s3.heap.objs.size Q I4 r1 (Heap.IsSliceOf.new ..) pl pu q3
 show wpAny (model X.prog X.w) X.A (subscriptTail e (.Slice lo hi none p2) v (.ref s3.heap.objs.size)) (EP X pins σ Q) X.xe { s3 with heap:=s3.heap.push { cls:=.type "slice",data:=.fields #[vl,vu,.none] } }
 exact tail_any (ops:=[.ref s3.heap.objs.size,v]) ht hT hg (by with_unfolding_all rfl)
noncomputable def pH(xs:List V)(lo hi:Option Int):List V:=(xs.drop (HT.sIx xs.length 0 lo)).take (HT.sIx xs.length xs.length hi - HT.sIx xs.length 0 lo)
theorem df(xs:List V)(lo hi:Option Int):(pH xs lo hi).length≤xs.length:=by
 unfold pH
 rw[PX,Qh]
 omega
noncomputable def LX(K:Pg):V→Option Int→Option Int→Hp→VK→Prop:=fun x lo hi H Q=>∃ a xs,x = .ref a∧SqT K H a xs ∧
 ¬ (HT.sIx xs.length 0 lo=0∧HT.sIx xs.length xs.length hi=xs.length)∧∀ p,H p=none→Q (.ref p) (upd H p (.tup (pH xs lo hi)))
theorem GD:SlR X (LX X.K):=by
 intro pins s σ H x v vl vu lo hi sl Q I rx hs pl pu h
 obtain⟨a,xs,rfl,hx,hw,q⟩:=h
 cases rx
 obtain⟨its,r,ht,hz⟩:=I.tuple hx
 have hlen:its.toArray.size=xs.length:=by rw[PR];exact r.length.symm
 refine⟨"tuple",_,PyProof.Rows.slot_tuple_getitem.lookup,ht.typeIs,?_⟩
 refine HT.bO ht hs pl pu (by rw[hlen];exact hw) ?_ (by rw[hlen];exact hz)
 rw[hlen]
 refine⟨.ref s.heap.objs.size,_,I.laid (t':=s.toks) (o:=.tup (pH xs lo hi)) (fun b ob q=>Pl _ q) (Py _) ?_,rfl,q _ (I.hok.fresh (Py _))⟩
 exact⟨Pu (df xs lo hi) hz,_,(r.drop (HT.sIx xs.length 0 lo)).take (HT.sIx xs.length xs.length hi - HT.sIx xs.length 0 lo),IsTup.new _ _⟩
end
noncomputable def ixN(n:Nat)(i:Int):Option Nat:=if 0≤i then(if i<n then some i.toNat else none)else if -(n:Int)≤i then some (i+n).toNat else none
noncomputable def atI{α:Type}(xs:List α)(i:Int):Option α:=(ixN xs.length i).bind fun j=>xs[j]?
theorem uz{n:Nat}{i:Int}{j:Nat}(h:ixN n i=some j):seqIndex? i n=some j∧j<n∧-(n:Int)≤i∧i<n:=by
 unfold ixN at h
 by_cases h0:0≤i
 ·rw[if_pos h0]at h
  by_cases h1:i<n
  ·rw[if_pos h1]at h
   have e:i.toNat=j:=Option.some.inj h
   exact⟨by rw[seqIndex_of h0 h1,e],by omega,by omega,h1⟩
  ·rw[if_neg h1]at h;cases h
 ·rw[if_neg h0]at h
  by_cases h1:-(n:Int)≤i
  ·rw[if_pos h1]at h
   have e:(i+n).toNat=j:=Option.some.inj h
   exact⟨by rw[seqIndex_neg (by omega) h1,e],by omega,h1,by omega⟩
  ·rw[if_neg h1]at h;cases h
theorem uX{α:Type}{xs:List α}{i:Int}{v:α}(h:atI xs i=some v):∃ j,seqIndex? i xs.length=some j∧xs[j]? = some v∧j<xs.length∧-(xs.length:Int)≤i∧i<xs.length:=by
 unfold atI at h
 cases e:ixN xs.length i with
 | none=>rw[e]at h;cases h
 | some j =>
  rw[e]at h
  obtain⟨h1,h2,h3,h4⟩:=uz e
  exact⟨j,h1,h,h2,h3,h4⟩
theorem DX{α:Type}{xs:List α}{j:Nat}{v:α}(h:xs[j]? = some v):atI xs (j:Int)=some v:=by
 have hj:j<xs.length:=(Pw.mp h).1
 have e:ixN xs.length (j:Int)=some j:=by
  unfold ixN
  rw[if_pos (by omega),if_pos (by omega)];simp
 unfold atI;rw[e];exact h
def mC(b:Expr):Prop:=∀ o i,subscripted b false o i=operate [o,i] (getItem o i)
def IxR(X:Cx)(r:R2):Prop :=
 ∀(value slice:Expr) (pins:List (Addr × Obj)) (s:Shared) (σ:St) (H:Hp) (x y:V) (v u:Value) (Q:VK),Inv X pins σ H s→p7 x v→p7 y u→r x y H Q →
  subscripted slice false v u=operate [v,u] (getItem v u)→wpAny (model X.prog X.w) X.A (subscriptTail value slice v u) (EP X pins σ Q) X.xe s
def MtR(X:Cx)(id:String)(r:V→List V→Hp→VK→Prop):Prop :=
 ∀(pins:List (Addr × Obj)) (s:Shared) (σ:St) (H:Hp) (x:V) (xs:List V) (v:Value) (us:List Value) (Q:VK),Inv X pins σ H s→p7 x v→j0 xs us→r x xs H Q →
  wpAny (model X.prog X.w) X.A (call (.builtin id) (v :: us)) (EP X pins σ Q) X.xe s
section
variable {X:Cx} {a b:Expr} {ta tb:TE} {pos:Pos}
theorem IxR.or{r r':R2}(h:IxR X r)(h':IxR X r'):IxR X (fun x y H Q=>r x y H Q∨r' x y H Q):=by
 intro value slice pins s σ H x y v u Q I rx ry q hs
 rcases q with q|q
 ·exact h value slice pins s σ H x y v u Q I rx ry q hs
 ·exact h' value slice pins s σ H x y v u Q I rx ry q hs
theorem MtR.or{id:String}{r r':V→List V→Hp→VK→Prop}(h:MtR X id r)(h':MtR X id r'):MtR X id (fun x xs H Q=>r x xs H Q∨r' x xs H Q):=by
 intro pins s σ H x xs v us Q I rx rs q
 rcases q with q|q
 ·exact h pins s σ H x xs v us Q I rx rs q
 ·exact h' pins s σ H x xs v us Q I rx rs q
theorem JZ{r:R2}(hr:IxR X r)(ha:PE X a ta)(hb:PE X b tb)(hs:mC b):PE X (.Subscript a b pos) (tOp r ta tb):=by
 intro pins s σ H Q I h
 exact Subscript_ (Iv ha hb I h fun v u s2 x y H2 I2 rx ry q=>hr a b pins s2 σ H2 x y v u Q I2 rx ry q (hs _ _))
def Ma(K:Pg):R2:=fun x y H Q=>∃ p xs i v,x = .ref p∧y = .int i∧SqL K H p xs∧atI xs i=some v∧Q v H
def LZ(K:Pg):R2:=fun x y H Q=>∃ p xs i v,x = .ref p∧y = .int i∧SqT K H p xs∧atI xs i=some v∧Q v H
theorem DD:IxR X (Ma X.K):=by
 intro value slice pins s σ H x y v u Q I rx ry h hs
 obtain⟨p,xs,i,z,rfl,rfl,hq,he,q⟩:=h
 cases rx
 obtain⟨t,rfl⟩:=ry
 obtain⟨its,r,pl,hz⟩:=I.list hq
 obtain⟨j,h1,h2,h3,h4,h5⟩:=uX he
 obtain⟨w,ew,rw'⟩:=r.get h2
 have hl:=r.length
 have hn:=lM
 have fin:EP X pins σ Q w s:=⟨z,H,I,rw',q⟩
 by_cases h0:0≤i
 ·have hj:i.toNat=j:=by
   rw[seqIndex_of h0 h5]at h1
   exact Option.some.inj h1
  exact item_listR pl.isList h0 (by omega) (by rw[hj];simpa using ew) fin hs
 ·have hj:(i+(its.toArray.size:Int)).toNat=j:=by
   rw[seqIndex_neg (by omega) h4]at h1
   rw[PR,← hl]
   exact Option.some.inj h1
  exact subscriptTail_builtinR (x:=w) pl.isList.typeIs slot_list_getitem.lookup
   (wpAny_getItem_list_neg (Q:=fun r s'=>r=w∧EP X pins σ Q r s') pl.isList (by omega) (by rw[PR]<;>omega) (by omega) (by rw[hj];simpa using ew) ⟨rfl,fin⟩) hs
theorem HR:IxR X (LZ X.K):=by
 intro value slice pins s σ H x y v u Q I rx ry h hs
 obtain⟨p,xs,i,z,rfl,rfl,hq,he,q⟩:=h
 cases rx
 obtain⟨t,rfl⟩:=ry
 obtain⟨its,r,pl,hz⟩:=I.tuple hq
 obtain⟨j,h1,h2,h3,h4,h5⟩:=uX he
 obtain⟨w,ew,rw'⟩:=r.get h2
 have hl:=r.length
 have hn:=lM
 have fin:EP X pins σ Q w s:=⟨z,H,I,rw',q⟩
 exact subscriptTail_builtinR (x:=w) pl.typeIs slot_tuple_getitem.lookup
  (getItem_tuple (j:=j) (Q:=fun r s'=>r=w∧EP X pins σ Q r s') pl (by omega) (by omega) (by rw[PR,← hl];exact h1) (by simpa using ew) ⟨rfl,fin⟩) hs
theorem qV(its:List Value)(n j:Nat)(u:Value):Obj.mapSeq (·.setIfInBounds j u) { cls:=.type "list",data:=.seq its.toArray n } = { cls:=.type "list",data:=.seq (its.set j u).toArray n }:=by
 simp[Obj.mapSeq]
theorem Inv.lst{pins:List (Addr × Obj)}{σ:St}{H:Hp}{s:Shared}{p:Addr}{xs:List V}(I:Inv X pins σ H s)(h:H p=some (.lst xs)) :
  ∃(its:List Value) (n:Nat),j0 xs its∧s.heap.get? p=some { cls:=.type "list",data:=.seq its.toArray n }∧xs.length≤sizeLine:=by
 obtain⟨z,its,n,r,e⟩:=I.hok p _ h
 exact⟨its,n,r,e,z⟩
theorem Inv.lstUpd{pins:List (Addr × Obj)}{σ:St}{H:Hp}{s:Shared}{p:Addr}{xs ys:List V}{its its':List Value}{n n':Nat}{f:Obj→Obj}(I:Inv X pins σ H s)(h:H p=some (.lst xs))
  (ho:s.heap.get? p=some { cls:=.type "list",data:=.seq its.toArray n }) (hf:f { cls:=.type "list",data:=.seq its.toArray n } = { cls:=.type "list",data:=.seq its'.toArray n' }) (r:j0 ys its') (hz:ys.length≤sizeLine) (t:Nat) :
  Inv X pins σ (upd H p (.lst ys)) { s with heap:=s.heap.update p f,toks:=t }:=by
 have e:(s.heap.update p f).get? p=some { cls:=.type "list",data:=.seq its'.toArray n' }:=by
  rw[Te f ho (by rw[hf]<;>rfl),hf]
 refine I.write (x:=p) (e:=p) (by rw[h];trivial) (.inl rfl) (fun b u hb q=>(SX _ _ (Ne.symm hb)).trans q) ⟨_,e⟩ ?_
 exact⟨hz,its',n',r,e⟩
noncomputable def JU:V→V→V→Hp→(Hp→Prop)→Prop:=fun o i v H Q=>∃ p xs k j,o = .ref p∧i = .int k∧H p=some (.lst xs)∧ixN xs.length k=some j∧Q (upd H p (.lst (xs.set j v)))
theorem yd:LC X JU:=by
 intro pins s σ H o i v ov iv u Q I ro ri rv h
 obtain⟨p,xs,k,j,rfl,rfl,hp,hj,q⟩:=h
 cases ro
 obtain⟨t,rfl⟩:=ri
 obtain⟨its,n,r,ho,hz⟩:=I.lst hp
 obtain⟨h1,h2,h3,h4⟩:=uz hj
 have hl:=r.length
 have hn:=lM
 have I':Inv X pins σ (upd H p (.lst (xs.set j v))) { s with heap:=s.heap.update p (Obj.mapSeq (·.setIfInBounds j u)) } :=
  I.lstUpd hp ho (qV its n j u) (r.set rv j) (by rw[Us];exact hz) s.toks
 by_cases h0:0≤k
 ·have hk:k.toNat=j:=by
   rw[seqIndex_of h0 h4]at h1
   exact Option.some.inj h1
  exact PySem.W.ki_setAt ho h0 (by omega) (by rw[PR,← hl];exact h4) (by rw[hk];exact⟨_,I',q⟩)
 ·have hk:(k+(its.toArray.size:Int)).toNat=j:=by
   rw[seqIndex_neg (by omega) h3]at h1
   rw[PR,← hl]
   exact Option.some.inj h1
  exact PySem.W.ki_setBack ho (by omega) (by rw[PR,← hl];exact h3) (by omega) (by rw[hk];exact⟨_,I',q⟩)
theorem jY(lo hi:Option Int)(n:Nat):(sliceBounds lo hi none n).1=((HT.sIx n 0 lo:Nat):Int)∧(sliceBounds lo hi none n).2.1=((HT.sIx n n hi:Nat):Int)∧(sliceBounds lo hi none n).2.2=1:=by
 refine⟨?_,?_,rfl⟩
 ·cases lo with
  | none=>simp[sliceBounds,HT.sIx]
  | some i =>
   simp only[sliceBounds,HT.sIx,Um,show(1:Int) > 0 by decide,if_true]
   by_cases h:i<0
   ·simp only[h,if_true]<;>omega
   ·simp only[h,if_false]<;>omega
 ·cases hi with
  | none=>simp[sliceBounds,HT.sIx]
  | some i =>
   simp only[sliceBounds,HT.sIx,Um,show(1:Int) > 0 by decide,if_true]
   by_cases h:i<0
   ·simp only[h,if_true]<;>omega
   ·simp only[h,if_false]<;>omega
theorem hJ(its:List Value)(lo hi:Option Int):slicePick its.toArray lo hi none=((its.drop (HT.sIx its.length 0 lo)).take (HT.sIx its.length its.length hi - HT.sIx its.length 0 lo)).toArray:=by
 obtain⟨h1,h2,h3⟩:=jY lo hi its.toArray.size
 unfold slicePick
 rw[h1,h2,h3]
 simp only[sliceRange_one,pick_run,PR]<;>rfl
noncomputable def LY(K:Pg):V→Option Int→Option Int→Hp→VK→Prop:=fun x lo hi H Q=>∃ a xs,x = .ref a∧SqL K H a xs∧∀ p,H p=none→Q (.ref p) (upd H p (.lst (pH xs lo hi)))
theorem tQ:SlR X (LY X.K):=by
 intro pins s σ H x v vl vu lo hi sl Q I rx hs pl pu h
 obtain⟨a,xs,rfl,hx,q⟩:=h
 cases rx
 obtain⟨its,r,ht,hz⟩:=I.list hx
 have hlen:=r.length
 refine⟨"list",_,slot_list_getitem.lookup,ht.isList.typeIs,?_⟩
 refine wpAny_getItem_list_slice ht.isList hs pl pu .none (by simp) ?_ (by rw[PR]<;>omega)
 rw[hJ,← hlen]
 refine⟨.ref s.heap.objs.size,_,I.laid (t':=s.toks) (o:=.lst (pH xs lo hi)) (fun b ob q=>Pl _ q) (Py _) ?_,rfl,q _ (I.hok.fresh (Py _))⟩
 exact⟨Pu (df xs lo hi) hz,_,0,(r.drop (HT.sIx xs.length 0 lo)).take (HT.sIx xs.length xs.length hi - HT.sIx xs.length 0 lo),PK _ rfl⟩
theorem mw:A4 X (.builtin "len") (fun xs H Q=>∃ p ys,xs=[.ref p]∧(SqL X.K H p ys∨SqT X.K H p ys)∧Q (.int ys.length) H):=by
 intro pins s σ H xs us Q I r h
 obtain⟨p,ys,rfl,hq,q⟩:=h
 obtain⟨u,rfl,rx⟩:=nE r
 cases rx
 have hn:=lM
 rcases hq with hq|hq
 ·obtain⟨its,r',pl,hz⟩:=I.list hq
  have hlen:=r'.length
  exact Calls.call_len_list pl.isList (by simp only[PR]<;>omega) ⟨.int ys.length,H,I.tok _,⟨s.toks+1,by rw[PR,hlen]⟩,q⟩
 ·obtain⟨its,r',pl,hz⟩:=I.tuple hq
  have hlen:=r'.length
  exact len_tuple pl (by simp only[PR]<;>omega) ⟨.int ys.length,H,I.tok _,⟨s.toks+1,by rw[PR,hlen]⟩,q⟩
theorem A4.or{f:Value}{r r':List V→Hp→VK→Prop}(h:A4 X f r)(h':A4 X f r'):A4 X f (fun xs H Q=>r xs H Q∨r' xs H Q):=by
 intro pins s σ H xs us Q I rs q
 rcases q with q|q
 ·exact h pins s σ H xs us Q I rs q
 ·exact h' pins s σ H xs us Q I rs q
theorem mv:A4 X (.type "list") (fun xs H Q=>∃ p ys,xs=[.ref p]∧(SqL X.K H p ys∨SqT X.K H p ys)∧∀ l,H l=none→Q (.ref l) (upd H l (.lst ys))):=by
 intro pins s σ H xs us Q I r h
 obtain⟨p,ys,rfl,hq,q⟩:=h
 obtain⟨u,rfl,rx⟩:=nE r
 cases rx
 have fin:∀(its:List Value),j0 ys its→ys.length≤sizeLine→∀(h':Heap) (c':Nat),(∀ b o',s.heap.get? b=some o'→h'.get? b=some o') →
   h'.get? s.heap.objs.size=some { cls:=.type "list",dict:=none,data:=.seq its.toArray c',slots:=#[] }→EP X pins σ Q (.ref s.heap.objs.size) { s with heap:=h' }:=fun its r' hz h' c' kp e =>
  ⟨.ref s.heap.objs.size,_,I.laid (t':=s.toks) kp (Py _) (show C1 X.prog X.w _ h' _ (.lst ys)from⟨hz,its,c',r',e⟩),rfl,q _ (I.hok.fresh (Py _))⟩
 rcases hq with hq|hq
 ·obtain⟨its,r',pl,hz⟩:=I.list hq
  have hlen:=r'.length
  obtain⟨o,ho,hc,n,hd⟩:=pl.isList
  exact call_list_seq p (.inl rfl) ho hc hd (fun h' c' kp e=>fin its r' hz h' c' kp e) (by simp only[PR]<;>omega)
 ·obtain⟨its,r',pl,hz⟩:=I.tuple hq
  have hlen:=r'.length
  obtain⟨o,ho,hc,n,hd⟩:=pl
  exact call_list_seq p (.inr rfl) ho hc hd (fun h' c' kp e=>fin its r' hz h' c' kp e) (by simp only[PR]<;>omega)
def tyV(K:Pg)(T:String)(x:V)(H:Hp):Prop:=match x with
 | .str _=>T = "str"
 | .int _=>T = "int"
 | .ref p=>(T = "list" ∧ ∃ xs,SqL K H p xs)∨(T = "tuple" ∧ ∃ o,K.lookup p=some o∧o.cls = .type "tuple" ∧ o.dict=none) ∨
   (T = "dict" ∧ ((∃ kvs,H p=some (.dK kvs)) ∨ ∃ kvs,H p=some (.dT kvs)))∨(T = "set" ∧ ∃ S n,H p=some (.set S n))
 | _=>False
theorem Gu{pins:List (Addr × Obj)}{σ:St}{H:Hp}{s:Shared}{T:String}{x:V}{v:Value}(I:Inv X pins σ H s)(r:p7 x v)(ty:tyV X.K T x H) :
  s.TypeIs v T∧∀ a,v = .ref a→∃ ob,s.heap.get? a=some ob∧ob.dict=none:=by
 cases x with
 | str z =>
  obtain⟨t,rfl⟩:=r
  cases(show T = "str" from ty)
  exact⟨typeIs_str s z t,fun _ e=>nomatch e⟩
 | int i =>
  obtain⟨t,rfl⟩:=r
  cases(show T = "int" from ty)
  exact⟨typeIs_int s i t,fun _ e=>nomatch e⟩
 | ref p =>
  cases r
  rcases ty with⟨rfl,xs,hq⟩|⟨rfl,o,hk,hc,hd⟩|⟨rfl,hk⟩|⟨rfl,S,n,hk⟩
  ·obtain⟨its,_,pl,_⟩:=I.list hq
   refine⟨pl.isList.typeIs,fun a e=>?_⟩
   cases e
   obtain⟨o,n,e,c,hd,_⟩:=pl
   exact⟨o,e,hd⟩
  ·refine⟨⟨o,I.kIn p o hk,hc⟩,fun a e=>?_⟩
   cases e
   exact⟨o,I.kIn _ o hk,hd⟩
  ·have z:∃ o,s.heap.get? p=some o∧o.ExactDict:=by
    rcases hk with⟨kvs,hk⟩|⟨kvs,hk⟩
    ·obtain⟨_,_,_,_,o,_,_,e,ex,_⟩:=I.hok p _ hk
     exact⟨o,e,ex⟩
    ·obtain⟨_,_,_,_,o,_,_,e,ex,_⟩:=I.hok p _ hk
     exact⟨o,e,ex⟩
   obtain⟨o,e,ex⟩:=z
   refine⟨⟨o,e,ex.1⟩,fun a e2=>?_⟩
   cases e2
   exact⟨o,e,ex.2.1⟩
  ·obtain⟨o,_,_,_,e,ex,_⟩:=I.hok p _ hk
   refine⟨⟨o,e,ex.1⟩,fun a e2=>?_⟩
   cases e2
   exact⟨o,e,ex.2.1⟩
 | _=>exact False.elim ty
def tBM(K:Pg)(T:String)(r:V→List V→Hp→VK→Prop)(to:TE)(t:TA):TE:=fun σ H Q=>to σ H fun x H1=>tyV K T x H1∧t σ H1 fun xs H2=>r x xs H2 Q
variable {o e:Expr} {es:List Expr} {to:TE} {t:TA} {name:Str} {apos cpos:Pos} {T id:String} {r:V→List V→Hp→VK→Prop}
theorem Kd(pa:PlainAttrs T)(slot:Slot T name id)(hty:typeOf (.builtin id)=pure (.type "method_descriptor"))(hm:MtR X id r)(ho:PE X o to)(ha:PA X (e :: es) t)
  (hbase:attributeBase o name X.env (eval o X.env)=eval o X.env:=by rfl)
  (hfew:((backTo cpos (starEach (e :: es) X.env)).all (fun x=>!x.1) && (backToKw cpos (keywordEach [] X.env)).all (fun x=>x.1.isSome)
   && decide ((e :: es).length+([]:List Keyword).length+(if ([]:List Keyword).isEmpty then 0 else 1)<30))=true:=by rfl)
  (hline:(apos.endLine == cpos.line)=true:=by rfl) (hs:starEach (e :: es) X.env=(false,eval e X.env) :: starEach es X.env:=by rfl) (hplain:(backTo cpos (starEach es X.env)).any (·.1)=false:=by rfl) :
  PE X (.Call (.Attribute o name apos) (e :: es) [] cpos) (tBM X.K T r to t):=by
 intro pins s σ H Q I h
 refine wpAny_Call_method_late hbase hfew hline rfl (thn (ho pins s σ H _ I h) fun v s1 zz=>?_)
 obtain⟨x,H1,I1,r1,ty,q1⟩:=zz
 obtain⟨h1,h2⟩:=Gu I1 r1 ty
 refine⟨T,id,pa,slot,hty,h1,h2,?_⟩
 have hA:=ha cpos pins s1 σ H1 _ I1 q1
 rw[hs]at hA ⊢
 refine Calls.callWith_builtin (by show(false || (backTo cpos (starEach es X.env)).any (·.1))=false;rw[hplain]<;>rfl) (Calls.evalArgs_plain ?_)
 exact thn hA fun us s2 ⟨vs,H2,I2,r2,q2⟩=>hm pins s2 σ H2 x vs v us Q I2 r1 r2 q2
end
def MtM(X:Cx)(id:String)(r:V→List V→Hp→VK→Prop):Prop :=
 ∀(pins:List (Addr × Obj)) (s:Shared) (σ:St) (H:Hp) (x:V) (xs:List V) (v:Value) (us:List Value) (Q:VK),Inv X pins σ H s→p7 x v→j0 xs us→r x xs H Q →
  wpAny (model X.prog X.w) X.A (call (.builtin id) (v :: us)) (EP X pins σ Q) X.xe s
theorem j0.one{x:V}{us:List Value}(h:j0 [x] us):∃ u,us=[u]∧p7 x u:=by
 cases h with|cons r t=>cases t;exact⟨_,rfl,r⟩
theorem j0.two{x y:V}{us:List Value}(h:j0 [x,y] us):∃ u v,us=[u,v]∧p7 x u∧p7 y v:=by
 cases h with|cons r t=>cases t with|cons q t2=>cases t2;exact⟨_,_,rfl,r,q⟩
theorem j0.zero:∀{us:List Value},j0 [] us→us=[]
 | _,.nil=>rfl
theorem j0.reverse{xs:List V}{us:List Value}(h:j0 xs us):j0 xs.reverse us.reverse:=by
 induction h with
 | nil=>exact .nil
 | cons r t ih=>rw[Ua,Ua];exact j0.append ih (.cons r .nil)
section
variable {X:Cx} {pins:List (Addr × Obj)} {σ:St} {H:Hp} {s:Shared} {l b:Addr} {xs ys zs:List V}
theorem Inv.lset{its its':List Value}{n:Nat}{f:Array Value→Array Value}{t':Nat}(I:Inv X pins σ H s)(hH:H l=some (.lst xs))
  (e:s.heap.get? l=some { cls:=.type "list",data:=.seq its.toArray n }) (hf:f its.toArray=its'.toArray) (hv:j0 ys its') (hz:ys.length≤sizeLine) :
  Inv X pins σ (upd H l (.lst ys)) { s with heap:=s.heap.update l (Obj.mapSeq f),toks:=t' }:=by
 have q:=PySem.IsL.update e f
 rw[hf]at q
 refine I.write (x:=l) (e:=l) (by rw[hH];exact trivial) (.inl rfl) (fun b' u hb hu=>(SX s.heap (Obj.mapSeq f) (Ne.symm hb)).trans hu) ⟨_,q⟩ ?_
 exact⟨hz,its',_,hv,q⟩
theorem Inv.lnew{its:List Value}{t':Nat}(I:Inv X pins σ H s)(hv:j0 ys its)(hz:ys.length≤sizeLine) :
  Inv X pins σ (upd H s.heap.objs.size (.lst ys)) { s with heap:=s.heap.push { cls:=.type "list",data:=.seq its.toArray },toks:=t' } :=
 I.laid (fun _ _ q=>Pl _ q) (Py _) ⟨hz,its,0,hv,PK _ rfl⟩
theorem Inv.fresh(I:Inv X pins σ H s):H s.heap.objs.size=none:=I.hok.fresh (Py _)
theorem Inv.lstM(I:Inv X pins σ H s)(hH:H l=some (.lst xs)):xs.length≤sizeLine∧∃(its:List Value) (n:Nat),j0 xs its∧xs.length=its.length∧s.heap.get? l=some { cls:=.type "list",data:=.seq its.toArray n }:=by
 obtain⟨z,its,n,r,e⟩:=I.hok l _ hH
 exact⟨z,its,n,r,r.length,e⟩
end
section
variable {X:Cx}
noncomputable def tZ:V→List V→Hp→VK→Prop:=fun x vs H Q=>∃ l xs y,x = .ref l∧vs=[y]∧H l=some (.lst xs)∧xs.length<sizeLine∧Q .non (upd H l (.lst (xs++[y])))
theorem jt:MtM X "list.append" tZ:=by
 intro pins s σ H x vs v us Q I rx rv h
 obtain⟨l,xs,y,rfl,rfl,hH,hz,q⟩:=h
 cases rx
 obtain⟨u,rfl,ru⟩:=rv.one
 obtain⟨z,its,n,r,hl,e⟩:=I.lstM hH
 refine call_meets F.slot_list_append ⟨_,e,rfl⟩ F.entry_list_append (F.args_list_append_2 _ _) (PySem.list_append l its.toArray n u (by rw[PR];omega)) ⟨e,?_⟩
 refine⟨.non,_,I.lset (its':=its++[u]) hH e (by simp) (r.append (.cons ru .nil)) ?_,rfl,q⟩
 rw[PB,Tf]
 omega
end
section
variable {prog:Program} {w:World} {A:Around} {E:Value→Shared→Prop} {s:Shared}
end
section
variable {X:Cx}
end
end L2
namespace Att
open PySem PySem.W PySem.Calls PyProof.Rows
theorem dE{P:Params}{h:Heap}:∀(ns:List Int) (vs:List Value),WellAll P h vs (ns.map WData.int)→IntsAre vs ns:=by
 intro ns
 induction ns with
 | nil =>
  intro vs w
  rw[QS]at w
  cases w
  exact .nil
 | cons n ns ih =>
  intro vs w
  rw[Qc]at w
  cases w with
  | cons a b =>
   cases a
   exact .cons _ _ (ih _ b)
theorem vp{l:OpenLaw}{n:Nat}(hn:l.most=some n){P:Params}{h:Heap}{args:List WData}{vals:List Value}
  (hpre:l.row.toRowW.claim.pre args=true) (hwl:WellAll P h vals args) :
  ∃ a vs ns,vals=[Value.ref a]∧args=[WData.list (ns.map WData.int)]∧h.get? a=some { cls:=.type "list",data:=.seq vs.toArray }∧IntsAre vs ns∧ns.length≤n:=by
 have hsh:WShape.hasAll [] args [.list .int]=true:=(pre_splitW hpre).1
 have hc:l.pre.holds [] { args:=args } = true:=(pre_splitW hpre).2
 obtain⟨d,r,rfl,h1,h2⟩:=hasAllW_cons hsh
 obtain rfl:=hasAllW_nil h2
 obtain⟨xs,rfl,h3⟩:=hasW_list h1
 obtain⟨ns,rfl⟩:=items_int h3
 have hlen:ns.length≤n:=by
  unfold OpenLaw.pre at hc
  have h4:(WTm.not (.lt (.lit (.int (n:Int))) (.len (.arg 0)))).holds [] { args:=[.list (ns.map .int)] } = true:=by
   have h4:=(holds_andW hc).1
   rw[hn]at h4
   exact h4
  have h5:=condW_of h4 (w_not (w_lt w_lit (w_len_list (w_arg rfl))))
  rw[Pj]at h5
  refine Nat.le_of_not_lt fun q=>?_
  have q':(n:Int)<((ns.length:Nat):Int):=by omega
  first
   | (rw[decide_eq_true q']at h5;exact absurd h5 (by decide))
   | (simp at h5;omega)
 cases hwl with
 | cons w1 w2 =>
  cases w2
  cases w1 with
  | list ho hall=>exact⟨_,_,ns,rfl,rfl,ho,dE ns _ hall,hlen⟩
theorem vD(l:OpenLaw)(args:List WData):l.row.toRowW.claim.post args (.bool true) args=true :=
 postW_of (r:=l.row.toRowW) (X:=(true == true))
  (show WShape.has [] (.bool true) .bool=true by first|rfl|decide|simp[WShape.has,WShape.arms,WShape.armsAll])
  (show(WTm.eq .res (.lit (.bool true))).value [] { args:=args,res:=some (.bool true),after:=args } = some (.bool (true == true))from w_eq_bool (w_res rfl) w_lit) rfl
theorem pU{l:OpenLaw}{n:Nat}{q:Program}{loose:List Str}{XP:(Str→Option Value)→Heap→Prop}{YP:World→Heap→Prop}{d:DefRec}
  (hn:l.most=some n) (hdf:d.params.defaults=[])
  (call:∀(w:World) (s₀ s₁:Shared) (mg mb:Str→Option Value) (fa:Addr) (o:Obj) (pm cd doc:Value) (a:Addr) (vs:List Value) (ns:List Int),
   Ground q loose [] XP w s₀ mg mb s₁.heap→YP w s₁.heap →
   s₁.heap.get? fa=some o→o.data = .func (docDef d.name d.params d.body d.scope pm cd doc)→s₁.heap.CodeRec cd d.name→mg d.name=some (.ref fa) →
   s₁.heap.get? a=some { cls:=.type "list",data:=.seq vs.toArray }→IntsAre vs ns→ns.length≤n→s₁.gens = #[] →
   codeAny (model l.prog w) callerA (.call (.ref fa) ⟨[.ref a],[]⟩) (fun r s'=>r = .ok (.ret (.bool true))∧OldK s₁.heap s'.heap∧s'.os=s₁.os∧AllBare s'.gens) s₁) :
  WalkO q loose XP YP l.row.toRowW d [] (fun f vs=>PySem.call f vs):=by
 intro w s₀ s₁ mg mb G Y fa o pm cd doc dV kV ho hd hcd hD hmg hg args vals as hpre hlay hrd hwl hlo
 obtain rfl:dV = .none:=Dflts.none hD hdf
 obtain rfl:kV = .none:=Dflts.noKw hD
 obtain⟨a,vs,ns,rfl,rfl,hobj,hints,hlen⟩:=vp hn hpre hwl
 refine enter_call (codeAny_mono (call w s₀ s₁ mg mb fa o pm cd doc a vs ns G Y ho (fd_plain hd) hcd hmg hobj hints hlen hg) fun r s' hq=>?_)
 obtain⟨rfl,h2,h3,h4⟩:=hq
 exact⟨.inl ⟨.bool true,.bool true,[],rfl,fun _=>rfl,.bool true,vD l _,fun _=>⟨List.Pairwise.nil,fun _ hm=>(nomatch hm)⟩⟩,h2,h3,h4⟩
section
variable {prog:Program} {w:World} {A:Around} {E:Value→Shared→Prop} {s:Shared} {K:Frag}
end
end Att
namespace L2
open PySem PySem.Spec PyProof.Rows
theorem jf:∀{vs:List Value} {ns:List Int},IntsAre vs ns→j0 (ns.map V.int) vs
 | _,_,.nil=>.nil
 | _,_,.cons n t h=>.cons ⟨t,rfl⟩ (jf h)
def wq(H:Hp):Prop:=∀ b,H b=none ∨ ∃ o xs,H b=some (.frz o (.lst xs))
theorem zK{P:Program}{w:World}{K:Pg}{mg mb:Str→Option Value}{CX:CXT}{k:Nat}{fa a:Addr}{fd:FuncData}{x:Str}{sp:Sp}{s₁:Shared}{vs:List Value}{ns:List Int}
  (KX:K.In s₁.heap) (hns:s₁.heap.Ns mainGlobals mg) (hb:s₁.heap.Ns builtinsNs mb) (hbb:∀ x:Str,x ≠ "__name__" → mb x=bootBuiltins x) (hlim:s₁.heap.NoLimit) (hsee:s₁.heap.NoSeer) (hg:s₁.gens = #[])
  (ha:s₁.heap.get? a=some { cls:=.type "list",data:=.seq vs.toArray }) (hi:IntsAre vs ns) (hl:ns.length≤sizeLine) (hr:K1 k callerA)
  (F:∀ base:Heap,K.In base→base.Ns mainGlobals mg→base.NoSeer→S8 P w K mg base CX k fa fd [x] sp) (hbind:∀(s:Shared) (u:Value),BindsTo s fd ⟨[u],[]⟩ [(x,u)])
  (hsp:∀ H:Hp,wq H→SqL K H a (ns.map V.int)→sp [.ref a] H (fun v _=>v = .bl true) fun _ _ _=>False)
  (hCX:∀ H e s',CX [] H s₁ (fun _ _ _=>False) e s'→False) :
  codeAny (model P w) callerA (.call (.ref fa) ⟨[.ref a],[]⟩) (fun r s'=>r = .ok (.ret (.bool true))∧OldK s₁.heap s'.heap∧s'.os=s₁.os∧AllBare s'.gens) s₁:=by
 have rv:=jf hi
 have lenV:=hi.length
 have core:∀ H:Hp,wq H→SqL K H a (ns.map V.int)→HOk P w H s₁.heap→(∀ b,H b≠none→b=a)→(H a≠none→K.lookup a=none) →
   codeAny (model P w) callerA (.call (.ref fa) ⟨[.ref a],[]⟩) (fun r s'=>r = .ok (.ret (.bool true))∧OldK s₁.heap s'.heap∧s'.os=s₁.os∧AllBare s'.gens) s₁:=by
  intro H hO hS hok hA hK
  have base_of:∀{b:Addr} {o:Obj},s₁.heap.get? b=some o→H b=none→(lP s₁.heap H).get? b=some o:=fun e n=>zU e n
  have noA:∀{b:Addr} {o:Obj} {es:Array DictEntry} {ep:Nat},s₁.heap.get? b=some o→o.data = .dict es ep→H b=none:=fun{b o es ep} e d=>by
   cases q:H b with
   | none=>rfl
   | some u =>
    have e':b=a:=hA b (by rw[q];simp)
    subst e'
    rw[ha]at e;cases e
    have d':Data.seq vs.toArray _=Data.dict es ep:=d
    cases d'
  have noM:∀{b:Addr} {o:Obj},s₁.heap.get? b=some o→o.cls = .type "module" → H b=none:=fun{b o} e d=>by
   cases q:H b with
   | none=>rfl
   | some u =>
    have e':b=a:=hA b (by rw[q];simp)
    subst e'
    rw[ha]at e;cases e
    have d':Value.type "list" = Value.type "module" := d
    exact absurd d' (by decide)
  have nsK:∀{b:Addr} {m:Str→Option Value},s₁.heap.Ns b m→(lP s₁.heap H).Ns b m:=fun{b m} ⟨o,es,ep,e,d,r⟩=>⟨o,es,ep,base_of e (noA e d),d,r⟩
  have hKb:K.In (lP s₁.heap H):=fun b o e=>base_of (KX b o e) (by
   cases q:H b with
   | none=>rfl
   | some u =>
    have e':b=a:=hA b (by rw[q];simp)
    subst e'
    rw[hK (by rw[q];simp)]at e;cases e)
  have hM:Mod K mg (lP s₁.heap H):=⟨hKb,nsK hns,⟨mb,nsK hb,hbb⟩,let ⟨mc,h1,h2⟩:=hlim;⟨mc,nsK h1,h2⟩⟩
  have e0:rQ P w K mg (lP s₁.heap H) callerA [] s₁ H:=⟨rfl,hM,fun b o e=>Dn e,Ug (vV _ _),trivial,fun b hb=>absurd (show b∈([]:List Addr)from hb) (by simp),hok,.of_eq hg⟩
  refine codeAny_mono ((F _ hKb (nsK hns) (let ⟨s1,s2,s3,s4⟩:=hsee;⟨let ⟨mc,h1,h2⟩:=s1;⟨mc,nsK h1,h2⟩,let ⟨mc,h1,h2⟩:=s2;⟨mc,nsK h1,h2⟩,let ⟨mc,h1,h2⟩:=s3;⟨mc,nsK h1,h2⟩,let ⟨mc,bm,ob,h1,h2,h3,h4,h5⟩:=s4;⟨mc,bm,ob,nsK h1,h2,base_of h3 (noM h3 h4),h4,h5⟩⟩)).run callerA [] s₁ H ⟨[.ref a],[]⟩ [.ref a] [.ref a] _ _ hr e0 (hbind s₁ (.ref a)) (.cons rfl .nil) (hsp H hO hS)) fun r s' h=>?_
  cases r with
  | error e=>exact(hCX H e s' h).elim
  | ok fl =>
   cases fl with
   | next=>exact False.elim h
   | brk=>exact False.elim h
   | cont=>exact False.elim h
   | ret u =>
    obtain⟨v,H',os,bare,un,hok',r',q⟩:=h
    have q':v = .bl true:=q
    subst q'
    obtain rfl:u=Value.bool true:=r'
    refine⟨rfl,OldK.of_keep fun b o e=>?_,os,bare⟩
    cases q:H b with
    | none=>exact un.keep b o e q (by intro z;exact absurd (show b∈([]:List Addr)from z) (by simp)) (by simp)
    | some u =>
     rcases hO b with z|⟨ob,xs,z⟩
     ·rw[q]at z;cases z
     ·have z2:=un.frzs b ob _ z
      obtain⟨e1,_⟩:=hok b _ z
      obtain⟨e2,_⟩:=hok' b _ z2
      rw[e]at e1;cases e1
      exact e2
 cases hk:K.lookup a with
 | some o =>
  have e:=KX a o hk
  rw[ha]at e
  cases e
  refine core (fun _=>none) (fun _=>.inl rfl) (.inr ⟨_,vs.toArray,_,hk,rfl,rfl,rfl,by rw[PR,lenV];exact hl,by simpa using rv⟩) (fun b u z=>by have z':(none:Option HO)=some u:=z;cases z') (fun b z=>absurd rfl z) fun z=>absurd rfl z
 | none =>
  refine core (fun b=>if b=a then some (.frz { cls:=.type "list",data:=.seq vs.toArray } (.lst (ns.map V.int)))else none) (fun b=>?_) (.inl (.inr ⟨{ cls:=.type "list",data:=.seq vs.toArray },if_pos rfl⟩)) (fun b u z=>?_) (fun b z=>?_) fun _=>hk
  ·by_cases hb:b=a
   ·exact .inr ⟨_,_,if_pos hb⟩
   ·exact .inl (if_neg hb)
  ·by_cases hb:b=a
   ·have z':=(if_pos hb).symm.trans z
    cases z'
    subst hb
    exact⟨ha,by rw[Pj];exact hl,vs,_,rv,ha⟩
   ·have z':=(if_neg hb).symm.trans z
    cases z'
  ·by_cases hb:b=a
   ·exact hb
   ·exact absurd (if_neg hb) z
theorem BZ{l:PySem.W.OpenLaw}{n k:Nat}{q:Program}{loose:List Str}{XP:(Str→Option Value)→Heap→Prop}{YP:World→Heap→Prop}{d:DefRec}{K:Params→Pg}{CX:World→CXT}{sp:World→Sp}{x:Str}
  (hq:PyProof.Rows.importsNone q=true) (hn:l.most=some n) (hn2:n≤sizeLine) (hdf:d.params.defaults=[]) (hr:K1 k callerA)
  (hY:∀(w:World) (h:Heap),YP w h→(K w.params).In h)
  (F:∀(w:World) (mg:Str→Option Value) (fa:Addr) (h:Heap),(K w.params).In h→h.Ns mainGlobals mg→mg d.name=some (.ref fa) →
   ∃ fd:FuncData,(∀(s:Shared) (u:Value),BindsTo s fd ⟨[u],[]⟩ [(x,u)]) ∧
    ∀ base:Heap,(K w.params).In base→base.Ns mainGlobals mg→base.NoSeer→S8 l.prog w (K w.params) mg base (CX w) k fa fd [x] (sp w))
  (hsp:∀(w:World) (H:Hp) (a:Addr) (ns:List Int),ns.length≤n→wq H→SqL (K w.params) H a (ns.map V.int)→sp w [.ref a] H (fun v _=>v = .bl true) fun _ _ _=>False)
  (hCX:∀(w:World) (H:Hp) (s:Shared) (e:Value) (s':Shared),CX w [] H s (fun _ _ _=>False) e s'→False) :
  PySem.W.WalkO q loose XP YP l.row.toRowW d [] (fun f vs=>PySem.call f vs):=by
 refine Att.pU hn hdf fun w s₀ s₁ mg mb fa o pm cd doc a vs ns G Y ho hd hcd hmg hobj hints hlen hg=>?_
 have KX:=hY w _ Y
 obtain⟨fd,hb,hF⟩:=F w mg fa _ KX G.T.g hmg
 exact zK KX G.T.g G.T.b G.T.builtins G.T.nolimit (G.T.seer hq) hg hobj hints (Pu hlen hn2) hr hF hb (fun H hO hS=>hsp w H a ns hlen hO hS) fun H e s'=>hCX w H s₁ e s'
theorem xM{l:PySem.W.OpenLaw}{n k:Nat}{q:Program}{loose:List Str}{XP:(Str→Option Value)→Heap→Prop}{YP:World→Heap→Prop}{d:DefRec}{K:Params→Pg}{CX:CXT}{sp:Pg→Sp}{x:Str}
  (hq:PyProof.Rows.importsNone q=true) (hn:l.most=some n) (hn2:n≤sizeLine) (hdf:d.params.defaults=[]) (hr:K1 k callerA)
  (hY:∀(w:World) (h:Heap),YP w h→(K w.params).In h)
  (F:∀(w:World) (mg:Str→Option Value) (fa:Addr) (h:Heap),(K w.params).In h→h.Ns mainGlobals mg→mg d.name=some (.ref fa) →
   ∃ fd:FuncData,(∀(s:Shared) (u:Value),BindsTo s fd ⟨[u],[]⟩ [(x,u)]) ∧
    ∀ base:Heap,(K w.params).In base→base.Ns mainGlobals mg→base.NoSeer→S8 l.prog w (K w.params) mg base CX k fa fd [x] (sp (K w.params)))
  (hsp:∀(K:Pg) (H:Hp) (a:Addr) (ns:List Int),ns.length≤n→wq H→SqL K H a (ns.map V.int)→sp K [.ref a] H (fun v _=>v = .bl true) fun _ _ _=>False)
  (hCX:∀(H:Hp) (s:Shared) (e:Value) (s':Shared),CX [] H s (fun _ _ _=>False) e s'→False) :
  PySem.W.WalkO q loose XP YP l.row.toRowW d [] (fun f vs=>PySem.call f vs) :=
 BZ (K:=K) (CX:=fun _=>CX) (sp:=fun w=>sp (K w.params)) hq hn hn2 hdf hr hY F (fun w H a ns h1 h2 h3=>hsp (K w.params) H a ns h1 h2 h3) fun _ H s e s'=>hCX H s e s'
noncomputable def S3(s:Stmt):Arguments:=match s with
 | .FunctionDef _ a _ _ _ _ _ _ _ _=>a
 | _=>{ posonlyargs:=[],args:=[],vararg:=none,kwonlyargs:=[],kw_defaults:=[],kwarg:=none,defaults:=[] }
noncomputable def L4(s:Stmt):List Stmt:=match s with
 | .FunctionDef _ _ b _ _ _ _ _ _ _=>b
 | _=>[]
noncomputable def e7(s:Stmt):Scope:=match s with
 | .FunctionDef _ _ _ _ _ _ sc _ _ _=>sc
 | _=>{ kind:=.function,names:=[],isGenerator:=false,isCoroutine:=false }
abbrev CX0:CXT:=fun _ _ _ _ _ _=>False
abbrev E0:XK:=fun _ _ _=>False
theorem Kf{X:Cx}:mD CX0 X E0:=fun _ _ _ _ _ _ _ h=>h.elim
section
variable {P:Program} {w:World} {K:Pg} {mg:Str→Option Value} {base:Heap}
end
section
variable {X:Cx}
theorem pv(i:Nat){x:Str}{pos:Pos}(hN:X.N[i]? = some x:=by rfl)(hv:Vis X.env.scope x:=by first|exact Or.inl rfl|exact Or.inr (Or.inl rfl)|exact Or.inr (Or.inr rfl))(hd:(x == ("__debug__" : Str))=false:=by decide)
  (hcd:(x == ("__classdict__" : Str))=false:=by decide):PE X (.Name x pos) (Ju i):=yR hN hv hd hcd
end
theorem Mj{A B:Prop}(h:A):if true=true then A else B:=by
 rw[if_pos rfl]
 exact h
end L2
end
namespace RM
open Rat
noncomputable def bl(n:Nat):Nat:=n.log2+1
theorem bI(n:Nat):n<2 ^ bl n:=Nat.lt_log2_self
theorem gR{n k:Nat}(h:n<2 ^ k)(hk:0<k):bl n≤k:=by
 unfold bl
 rcases TK n with h0|h0
 ·subst h0;rw[Nat.log2_zero];omega
 ·have:=(Tv (Tw.mp h0)).mpr h
  omega
theorem AQ(n:Nat):0<bl n:=Nat.succ_pos _
theorem my{m n:Nat}(h:m≤n):bl m≤bl n:=gR (PV h (bI n)) (AQ n)
theorem aK(m n:Nat):bl (m*n)≤bl m+bl n:=by
 refine gR ?_ (Nat.add_pos_left (AQ m) _)
 rw[QZ]
 exact QW (bI m) (bI n)
theorem Iu(m n:Nat):bl (m+n)≤max (bl m) (bl n)+1:=by
 refine gR ?_ (Nat.succ_pos _)
 have h1:=bI m
 have h2:=bI n
 have e1:2 ^ bl m≤2 ^ max (bl m) (bl n):=Qj (by decide) (Tg _ _)
 have e2:2 ^ bl n≤2 ^ max (bl m) (bl n):=Qj (by decide) (SU _ _)
 rw[RX]
 omega
noncomputable def sz(q:Rat):Nat:=max (bl q.num.natAbs) (bl q.den)
theorem T7(q:Rat):bl q.num.natAbs≤sz q:=Tg _ _
theorem O3(q:Rat):bl q.den≤sz q:=SU _ _
theorem JK{q:Rat}{n:Nat}(h1:bl q.num.natAbs≤n)(h2:bl q.den≤n):sz q≤n:=SG.mpr ⟨h1,h2⟩
theorem HC(a b:Int):(divInt a b).num.natAbs≤a.natAbs:=by
 rw[num_divInt]
 rcases Int.lt_trichotomy b 0 with h|h|h
 ·rw[Sx h]
  refine Pu (SA _ _) ?_
  simp
 ·subst h;simp
 ·rw[SY h,Int.one_mul]
  exact SA _ _
theorem Ia(a b:Int)(hb:b≠0):(divInt a b).den≤b.natAbs:=by
 rw[den_divInt,if_neg hb]
 exact QL _ _
theorem P6(a b:Int)(hb:b≠0):sz (divInt a b)≤max (bl a.natAbs) (bl b.natAbs) :=
 JK (Pu (my (HC a b)) (Tg _ _)) (Pu (my (Ia a b hb)) (SU _ _))
theorem A6(q:Rat):(q.den:Int)≠0:=by have:=q.den_nz;omega
theorem rL(q r:Rat):q+r=divInt (q.num*r.den+r.num*q.den) (q.den*r.den):=by
 conv=>lhs;rw[← num_divInt_den q,← num_divInt_den r]
 rw[divInt_add_divInt _ _ (A6 q) (A6 r)]
theorem qU(q r:Rat):q*r=divInt (q.num*r.num) (q.den*r.den):=by
 conv=>lhs;rw[← num_divInt_den q,← num_divInt_den r]
 rw[divInt_mul_divInt]
theorem An(q r:Rat):q / r=divInt (q.num*r.den) (q.den*r.num):=by
 rw[div_def]
 conv=>lhs;rw[← num_divInt_den q,← num_divInt_den r]
 rw[inv_divInt,divInt_mul_divInt]
theorem gy(a b:Int):(a+b).natAbs≤a.natAbs+b.natAbs:=Ub a b
theorem O4(q r:Rat):sz (q+r)≤sz q+sz r+1:=by
 rw[rL]
 have hb:((q.den:Int)*(r.den:Int))≠0:=Qv (A6 q) (A6 r)
 refine Pu (P6 _ _ hb) (SG.mpr ⟨?_,?_⟩)
 ·refine Pu (my (gy _ _)) (Pu (Iu _ _) ?_)
  rw[Qn,Qn]
  have h1:=aK q.num.natAbs (r.den:Int).natAbs
  have h2:=aK r.num.natAbs (q.den:Int).natAbs
  have a1:=T7 q
  have a2:=T7 r
  have a3:=O3 q
  have a4:=O3 r
  simp only[Pr]at h1 h2 ⊢
  omega
 ·rw[Qn]
  have h1:=aK (q.den:Int).natAbs (r.den:Int).natAbs
  have a3:=O3 q
  have a4:=O3 r
  simp only[Pr]at h1 ⊢
  omega
theorem u9(q r:Rat):sz (q*r)≤sz q+sz r:=by
 rw[qU]
 have hb:((q.den:Int)*(r.den:Int))≠0:=Qv (A6 q) (A6 r)
 refine Pu (P6 _ _ hb) (SG.mpr ⟨?_,?_⟩)
 ·rw[Qn]
  have h1:=aK q.num.natAbs r.num.natAbs
  have a1:=T7 q
  have a2:=T7 r
  omega
 ·rw[Qn]
  have h1:=aK (q.den:Int).natAbs (r.den:Int).natAbs
  have a3:=O3 q
  have a4:=O3 r
  simp only[Pr]at h1 ⊢
  omega
theorem F7(q:Rat):sz (-q)=sz q:=by
 unfold sz
 rw[SM,Tx,Qr]
theorem Q9(q r:Rat):sz (q - r)≤sz q+sz r+1:=by
 rw[TL]
 have:=O4 q (-r)
 rw[F7]at this
 exact this
theorem O2(q r:Rat)(hr:r≠0):sz (q / r)≤sz q+sz r:=by
 rw[An]
 have hn:r.num≠0:=fun h=>hr (Ut.mp h)
 have hb:((q.den:Int)*r.num)≠0:=Qv (A6 q) hn
 refine Pu (P6 _ _ hb) (SG.mpr ⟨?_,?_⟩)
 ·rw[Qn]
  have h1:=aK q.num.natAbs (r.den:Int).natAbs
  have a1:=T7 q
  have a4:=O3 r
  simp only[Pr]at h1 ⊢
  omega
 ·rw[Qn]
  have h1:=aK (q.den:Int).natAbs r.num.natAbs
  have a3:=O3 q
  have a2:=T7 r
  simp only[Pr]at h1 ⊢
  omega
theorem X3:sz 0=1:=by decide
theorem xV:sz 1=1:=by decide
theorem pz(a b:Nat)(h:b≠0):QD a b=QD b (a % b):=by
 rw[Uh,Nat.gcd_rec,Uh]
theorem S2{a g:Int}(h:g ∣ a):a.fdiv g=a / g:=by
 obtain⟨c,rfl⟩:=h
 by_cases hg:g=0
 ·subst hg;simp
 ·rw[Int.mul_fdiv_cancel_left _ hg,Int.mul_ediv_cancel_left _ hg]
theorem HH(a b:Int)(hb:b≠0)(share:Int)(hs:share=if b<0 then -((QD a.natAbs b.natAbs:Nat):Int)else((QD a.natAbs b.natAbs:Nat):Int)) :
  a.fdiv share=(divInt a b).num∧b.fdiv share=((divInt a b).den:Int):=by
 have hg:QD a.natAbs b.natAbs=UJ b a:=by unfold UJ;exact Uh _ _
 have da:((UJ b a:Nat):Int) ∣ a:=Int.gcd_dvd_right b a
 have db:((UJ b a:Nat):Int) ∣ b:=Int.gcd_dvd_left b a
 rw[hg]at hs
 rw[num_divInt,den_divInt,if_neg hb]
 by_cases h:b<0
 ·rw[if_pos h]at hs
  subst hs
  rw[S2 (Int.neg_dvd.mpr da),S2 (Int.neg_dvd.mpr db),Sx h]
  refine⟨?_,?_⟩
  ·rw[Int.ediv_neg,Int.neg_one_mul,Tz da]
  ·rw[Int.ediv_neg,← Tz db]
   have e:-b=((b.natAbs:Nat):Int):=by omega
   rw[e]
   norm_cast
 ·rw[if_neg h]at hs
  subst hs
  have hp:0<b:=by omega
  rw[S2 da,S2 db,SY hp,Int.one_mul]
  refine⟨rfl,?_⟩
  have e:b=((b.natAbs:Nat):Int):=by omega
  conv=>lhs;rw[e]
  norm_cast
theorem Kr(q r:Rat):decide (q.num*(r.den:Int)<r.num*(q.den:Int))=decide (q<r):=by
 by_cases h:q<r
 ·rw[decide_eq_true h,decide_eq_true ((Rat.lt_iff q r).mp h)]
 ·rw[decide_eq_false h,decide_eq_false (fun z=>h ((Rat.lt_iff q r).mpr z))]
end RM
namespace L2
open PySem PySem.Spec PyProof.Rows
section
variable {prog:Program} {w:World} {A:Around} {R:Result→Shared→Prop} {s:Shared}
noncomputable def tN(ifs:List Expr)(env:Env):Sem Bool:=forIn ifs true fun c r=>if r=true then do let ok ← isTrue c env (eval c env);pure (ForInStep.yield ok)else pure (ForInStep.yield r)
theorem mj{elt target iter:Expr}{ifs:List Expr}{scope:Scope}{pos:Pos}{it acc:Value}{env:Env}(I:Nat→Shared→Prop)
  (turn:∀ n s,I n s→wpAny (model prog w) A (pyNext it) (fun r s₁=>match r with
   | none=>R (.ok .next) s₁
   | some v=>wpAny (model prog w) A (letOwnedTupleGo target it v) (fun _ s₁'=>wpAny (model prog w) A (assign target env v) (fun _ s₂=>wpAny (model prog w) A (tN ifs env) (fun ok s₂'=>if ok=true then wpAny (model prog w) A (eval elt env) (fun x s₃ =>
     wpAny (model prog w) A (call (.builtin "list.append") [acc,x]) (fun _ s₄=>∃ m,m<n∧I m s₄) (notedBy (model prog w) A env fun e s'=>R (.error e) s') s₃)
     (notedBy (model prog w) A env fun e s'=>R (.error e) s') s₂' else ∃ m,m<n∧I m s₂') (notedBy (model prog w) A env fun e s'=>R (.error e) s') s₂) (notedBy (model prog w) A env fun e s'=>R (.error e) s') s₁') (notedBy (model prog w) A env fun e s'=>R (.error e) s') s₁) (notedBy (model prog w) A env fun e s'=>R (.error e) s') s)
  (n:Nat) (h:I n s) :
  codeAny (model prog w) A (.compLoop (.ListComp elt [⟨target,iter,ifs,0⟩] scope pos) 0 it acc env) R s:=by
 refine codeAny_loop rfl I (fun n s hI=>?_) n h
 show wpAny _ _ ((compTurn (.ListComp elt [⟨target,iter,ifs,0⟩] scope pos) 0 it acc env).onRaise (fun x=>do noteFrame x env;theTreesLotGoes x)) _ _ s
 refine wpAny_noted ?_
 rw[compTurn_list]
 refine Ph (wpAny_standAt (Ph (wpAny_mono (turn n s hI) (fun r s₁ h₁=>?_) fun _ _ h'=>h')))
 cases r with
 | none=>exact PD h₁
 | some v =>
  refine Ph (wpAny_mono h₁ (fun _ s₁' h₁'=>?_) fun _ _ h'=>h')
  refine Ph (wpAny_mono h₁' (fun _ s₂ h₂=>Ph (wpAny_mono h₂ (fun ok s₂' h₃=>?_) fun _ _ h'=>h')) fun _ _ h'=>h')
  cases ok with
  | true =>
   refine Ph (Ph (wpAny_mono h₃ (fun x s₃ h₄=>Ph (wpAny_mono h₄ (fun _ s₄ h₅=>PD (PD ⟨rfl,h₅⟩)) fun _ _ h'=>h')) fun _ _ h'=>h'))
  | false=>exact Ph (PD (PD ⟨rfl,h₃⟩))
end
def cJ(X:Cx)(ifs:List Expr)(t:TT):Prop :=
 ∀(pins:List (Addr × Obj)) (s:Shared) (σ:St) (H:Hp) (Q:Bool→Hp→Prop),Inv X pins σ H s→t σ H Q→wpAny (model X.prog X.w) X.A (tN ifs X.env) (TP X pins σ Q) X.xe s
def LK:TT:=fun _ H Q=>Q true H
theorem yO{X:Cx}:cJ X [] LK:=fun pins s σ H Q I q=>PD ⟨H,I,q⟩
theorem yN{X:Cx}{c:Expr}{t:TT}(h:PT X c t):cJ X [c] t:=fun pins s σ H Q I q=>wpAny_tests_one (h pins s σ H Q I q)
noncomputable def W9(cells:List (Str × Addr)):List (Str × NameKind)→List (Str × Addr)→List (Str × Addr)
 | [],acc=>acc
 | (n,k) :: r,acc=>if k == .free then W9 cells r ((n,(cells.lookup n).getD 0) :: acc)else W9 cells r acc
theorem aJ{env:Env}:∀(names:List (Str × NameKind)) (acc:List (Str × Addr)),(∀ n,(n,NameKind.free)∈names→∃ c,env.cells.lookup n=some c) →
  (forIn names acc (fun(x:Str × NameKind) (cs:List (Str × Addr))=>if (x.2 == NameKind.free)=true then(do let a ← cellOf env x.1;pure (ForInStep.yield ((x.1,a) :: cs)))else pure (ForInStep.yield cs)):Sem (List (Str × Addr)))=pure (W9 env.cells names acc)
 | [],acc,_=>rfl
 | (n,k) :: r,acc,h=>by
  rw[Th]
  unfold W9
  by_cases hk:(k == NameKind.free)=true
  ·have e:k = .free:=by cases k<;>first|rfl|(exact absurd hk (by decide))
   subst e
   obtain⟨c,hc⟩:=h n Po
   rw[if_pos hk,if_pos hk]
   have e1:cellOf env n=pure c:=by unfold cellOf;rw[hc]
   rw[e1,pure_bind,pure_bind,hc]
   exact aJ r _ fun m hm=>h m (Pk _ hm)
  ·rw[if_neg hk,if_neg hk,pure_bind]
   exact aJ r _ fun m hm=>h m (Pk _ hm)
theorem pP{scope:Scope}{env:Env}(h:∀ n,(n,NameKind.free)∈scope.names→∃ c,env.cells.lookup n=some c):closureFor scope env=pure (W9 env.cells scope.names []):=by
 have:=aJ (env:=env) scope.names [] h
 unfold closureFor
 first
  | (simp only[]at this ⊢;rw[← this];simp only[bind_pure];rfl)
  | (rw[← this];rfl)
  | (simp only[bind_pure,pure_bind];exact this)
theorem S6{cells:List (Str × Addr)}{x:Str}{c:Addr}:∀(names:List (Str × NameKind)) (acc:List (Str × Addr)),(∀ n,(n,NameKind.free)∈names→∃ c,cells.lookup n=some c)→(∀ y d,acc.lookup y=some d→cells.lookup y=some d)→(W9 cells names acc).lookup x=some c→cells.lookup x=some c
 | [],acc,_,ha,h=>ha x c h
 | (n,k) :: r,acc,hn,ha,h=>by
  unfold W9 at h
  by_cases hk:(k == NameKind.free)=true
  ·rw[if_pos hk]at h
   have e:k = .free:=by cases k<;>first|rfl|(exact absurd hk (by decide))
   subst e
   obtain⟨d,hd⟩:=hn n Po
   refine S6 r _ (fun m hm=>hn m (Pk _ hm)) (fun y e hy=>?_) h
   rw[Rx]at hy
   split at hy
   ·rename_i hz
    have hz':y=n:=by simpa using hz
    subst hz'
    rw[hd]at hy ⊢
    cases hy;rfl
   ·exact ha y e hy
  ·rw[if_neg hk]at h
   exact S6 r _ (fun m hm=>hn m (Pk _ hm)) ha h
theorem Y7{cells:List (Str × Addr)}{x:Str}:∀(names:List (Str × NameKind)) (acc:List (Str × Addr)),((x,NameKind.free)∈names ∨ ∃ c,acc.lookup x=some c)→∃ c,(W9 cells names acc).lookup x=some c
 | [],acc,h=>by
  rcases h with h|h
  ·cases h
  ·exact h
 | (n,k) :: r,acc,h=>by
  unfold W9
  by_cases hk:(k == NameKind.free)=true
  ·rw[if_pos hk]
   refine Y7 r _ ?_
   by_cases hx:x=n
   ·right;rw[Rx];simp[hx]
   ·rcases h with h|⟨c,h⟩
    ·rcases Pn.mp h with z|z
     ·injection z with z1 _;exact absurd z1 hx
     ·exact .inl z
    ·right
     refine⟨c,?_⟩
     rw[Rx]
     have:(x == n)=false:=by simpa using hx
     rw[this];exact h
  ·rw[if_neg hk]
   refine Y7 r _ ?_
   rcases h with h|h
   ·rcases Pn.mp h with z|z
    ·injection z with _ z2
     subst z2
     exact absurd rfl hk
    ·exact .inl z
   ·exact .inr h
theorem dc{scope:Scope}{env:Env}{x:Str}{k:NameKind}(h:(relabel scope env).names.lookup x=some k)(hk:k = .cell∨k = .free)(hcell:∀ y∈scope.names,y.2 ≠ .cell):(x,NameKind.free)∈scope.names:=by
 have go:∀(l:List (Str × NameKind)),(∀ y∈l,y.2 ≠ .cell)→(l.map fun(n,k)=>if (k == NameKind.free && env.scope.kind == .function && env.kindOf n == some .cell)=true then(n,NameKind.cell)else(n,k)).lookup x=some k→(x,NameKind.free)∈l:=by
  intro l
  induction l with
  | nil=>intro _ h;cases h
  | cons p r ih =>
   intro hl h
   obtain⟨n,j⟩:=p
   rw[Qc,Rx]at h
   by_cases hj:j = .free
   ·subst hj
    by_cases hx:x=n
    ·subst hx;exact Po
    ·refine Pk _ (ih (fun y hy=>hl y (Pk _ hy)) ?_)
     have e:∀ b:Bool,(x == (if b=true then(n,NameKind.cell)else(n,NameKind.free)).1)=false:=fun b=>by cases b<;>simpa using hx
     dsimp only at h
     rw[e]at h
     exact h
   ·have e:(j == NameKind.free)=false:=by simpa using hj
    have hc:=hl (n,j) Po
    dsimp only at h
    rw[e]at h
    simp only[UE,RI,if_false]at h
    by_cases hx:x=n
    ·have:(x == n)=true:=by simpa using hx
     rw[this]at h
     have h':j=k:=by simpa using h
     subst h'
     rcases hk with z|z
     ·exact absurd z hc
     ·exact absurd z hj
    ·have:(x == n)=false:=by simpa using hx
     rw[this]at h
     exact Pk _ (ih (fun y hy=>hl y (Pk _ hy)) h)
 exact go scope.names hcell h
noncomputable def cxF(X:Cx)(scope:Scope)(cl:List (Str × Addr))(N':List Str)(s3:Shared)(H3:Hp)(C:Addr)(fp:List Addr)(pins:List (Addr × Obj)):Cx :=
 { X with N:=N',s₀:=s3,H₀:=H3,env:=compEnvC scope cl C X.env,outer:=X.stack,ex:=fp,fn:=fun _=>false,pn:=X.pn++pins,xe:=fun _ _=>False }
noncomputable def mr(n:Nat)(caps:List Nat)(σ:St):St:=Ro n none++caps.map fun i=>(σ[i]?).getD none
def qq(n:Nat)(caps:List Nat)(wi:TI)(g:TG)(tc:TT)(te:TE):TE:=fun σ H Q=>wi σ H fun J H1=>∀ D,H1 D=none→∃ W:Nat→Nat→Hp→Prop,(∃ m,W 0 m (upd H1 D (.lst [])))∧∀ i m H,W i m H →
 (J.stop i H∧Q (.ref D) H)∨(J.go i H∧∀ x H',J.yld i H x H'→g x (mr n caps σ) H' fun σ2 H2=>tc σ2 H2 fun b H2'=>if b=true then te σ2 H2' fun v H3=>∃ ys,H3 D=some (.lst ys)∧ys.length<sizeLine∧∃ m',m'<m∧W (i+1) m' (upd H3 D (.lst (ys++[v])))else ∃ m',m'<m∧W (i+1) m' H2')
section
variable {X:Cx} {elt tg iter:Expr} {scope:Scope} {cl:List (Str × Addr)} {tgs cps:List Str} {caps:List Nat} {wi:TI} {g:TG} {tc:TT} {te:TE} {pos:Pos} {ifs:List Expr}
def Be(s3:Shared)(H3:Hp)(fp:List Addr)(cl:List (Str × Addr))(x:Str)(v:V):Prop :=
 ∃(u:Value) (c:Addr) (o:Obj),p7 v u∧cl.lookup x=some c∧s3.heap.get? c=some o∧o.data = .cell (some u)∧H3 c=none∧c∉fp
theorem Inv.reset{pins pins':List (Addr × Obj)}{σ0 σ':St}{H3 H':Hp}{s3 s':Shared}{fp:List Addr}{C:Addr}(I:Inv (cxF X scope cl (tgs++cps) s3 H3 C fp pins) pins' σ' H' s')
  (hsc:∀ x∈cps,(relabel scope X.env).names.lookup x=some .cell∨(relabel scope X.env).names.lookup x=some .free) (hl:caps.length=cps.length)
  (hc:∀(j:Nat) (x:Str) (v:V),cps[j]? = some x→(caps.map fun i=>(σ0[i]?).getD none)[j]? = some (some v)→Be s3 H3 fp cl x v) :
  Inv (cxF X scope cl (tgs++cps) s3 H3 C fp pins) pins' (mr tgs.length caps σ0) H' s':=by
 obtain⟨m,hn,_⟩:=I.loc
 refine⟨I.ok,I.os,I.bare,I.base,⟨m,hn,fun i x v e1 e2 e3=>?_⟩,I.cell,I.free,I.freeC,I.pin,I.hok,by simp[mr,cxF,hl]⟩
 have e1:(tgs++cps)[i]? = some x:=e1
 unfold mr at e2
 rw[Sf]at e1 e2
 rw[RW]at e2
 by_cases hi:i<tgs.length
 ·rw[if_pos hi]at e2
  rw[QQ]at e2
  split at e2<;>cases e2
 ·rw[if_neg hi]at e1 e2
  obtain⟨u,c,o,r,h1,h2,h3,h4,h5⟩:=hc (i - tgs.length) x v e1 e2
  obtain⟨sl,k⟩:=I.base.any h2 h4 h5
  refine⟨u,r,.inr ⟨?_,c,h1,_,k,h3⟩⟩
  rcases hsc x (Px e1)with z|z
  ·exact .inl z
  ·exact .inr z
theorem pO{pins:List (Addr × Obj)}{σ0:St}{σ:St}{H3:Hp}{s3:Shared}{fp:List Addr}{it D C:Addr}{tn:Nat→Heap→Prop}{J:It}{h₁:Heap}{tk:Nat}{m:Str→Option Value}{R:Result→Shared→Prop}{Qd:Hp→Prop}
  (hc:X.calm=true) (hcell:∀ x∈scope.names,x.2 ≠ .cell) (hkind:scope.kind = .function)
  (hcl:∀ x c,cl.lookup x=some c→X.env.cells.lookup x=some c) (hhas:∀ x,(x,NameKind.free)∈scope.names→∃ c,cl.lookup x=some c)
  (hsc:∀ x∈cps,(relabel scope X.env).names.lookup x=some .cell∨(relabel scope X.env).names.lookup x=some .free) (hl:caps.length=cps.length)
  (hcap:∀(j:Nat) (x:Str) (v:V),cps[j]? = some x→(caps.map fun i=>(σ0[i]?).getD none)[j]? = some (some v)→Be s3 H3 fp cl x v)
  (hg:∀ cl s3 H3 C fp pins,PG (cxF X scope cl (tgs++cps) s3 H3 C fp pins) tg g) (hq:∀ cl s3 H3 C fp pins,cJ (cxF X scope cl (tgs++cps) s3 H3 C fp pins) ifs tc) (he:∀ cl s3 H3 C fp pins,PE (cxF X scope cl (tgs++cps) s3 H3 C fp pins) elt te)
  (I3:Inv X pins σ H3 s3) (T:rM X.prog X.w X.K tg J fp it tn) (st3:tn 0 s3.heap) (f3:∀ b∈fp,aN X pins H3 b) (hC:C=s3.heap.objs.size) (hn:h₁.Ns C m) (hk:∀ b o,s3.heap.get? b=some o→h₁.get? b=some o)
  (W:Nat→Nat→Hp→Prop) (m0:Nat) (w0:W 0 m0 H3)
  (turn:∀ i m H,W i m H→(J.stop i H∧Qd H)∨(J.go i H∧∀ x H',J.yld i H x H'→g x (mr tgs.length caps σ0) H' fun σ2 H2=>tc σ2 H2 fun b H2'=>if b=true then te σ2 H2' fun v H3=>∃ ys,H3 D=some (.lst ys)∧ys.length<sizeLine∧∃ m',m'<m∧W (i+1) m' (upd H3 D (.lst (ys++[v])))else ∃ m',m'<m∧W (i+1) m' H2'))
  (hR:∀ s' H' σ',Inv (cxF X scope cl (tgs++cps) s3 H3 C fp pins) [] σ' H' s'→Qd H'→R (.ok .next) s') :
  codeAny (model X.prog X.w) X.A (.compStart (.ListComp elt [⟨tg,iter,ifs,0⟩] scope pos) 0 (.ref it) (.ref D) (compEnvC scope cl C X.env)) R { s3 with heap:=h₁,toks:=tk }:=by
 have lt3:∀ b∈fp,b<s3.heap.objs.size:=fun b hb=>by
  obtain⟨o,e,_⟩:=T.obj 0 _ st3 b hb
  exact Pz e
 have ok':(cxF X scope cl (tgs++cps) s3 H3 C fp pins).Ok:={
  mod:=I3.ok.mod
  kind:=hkind
  glob:=I3.ok.glob
  blt:=I3.ok.blt
  above:=Ug hC.symm
  inj:=fun x y c e e'=>I3.ok.inj x y c (hcl x c e) (hcl y c e')
  has:=fun x h=>by
   rcases h with h|h
   ·exact hhas x (dc h (.inl rfl) hcell)
   ·exact hhas x (dc h (.inr rfl) hcell)
  cab:=fun x c h=>by cases h
  hd:=fun _=>I3.ok.hd hc
  frames:=I3.ok.frames
  stk:=.inl rfl
  exf:=fun b hb=>⟨fun z=>by
   have z':b=C:=z
   have h1:=lt3 b hb
   rw[z',hC]at h1
   exact QP _ h1,fun x c e=>(f3 b hb).2.2.2.2.1 x c (hcl x c e)⟩
  bs:=fun b o e=>I3.bs b o e
  bsz:=Pu I3.ok.bsz I3.sz
  noex:=fun b o e hb=>by
   obtain⟨_,_,_,q,_⟩:=f3 b hb
   rcases q with q|q
   ·exact I3.ok.noex b o e q
   ·have h1:=Pz e
    exact absurd (Pt (Pt h1 I3.ok.bsz) q) (QP _)
  exfs:=fun b hb z=>by
   obtain⟨_,q1,q2,_⟩:=f3 b hb
   rcases Pn.mp (I3.stkSub b z)with y|y
   ·exact q1 y
   ·exact q2 y
  funs:=I3.stack
  frf:=I3.stkFree }
 have J0:Inv (cxF X scope cl (tgs++cps) s3 H3 C fp pins) [] (Ro (tgs++cps).length none) H3 { s3 with heap:=h₁,toks:=tk }:={
  ok:=ok'
  os:=rfl
  bare:=I3.bare
  base:=Un.kept hk
  loc:=⟨m,hn,fun i x v _ e _=>by
   rw[QQ]at e
   split at e<;>cases e⟩
  cell:=fun x c e=>by
   obtain⟨v,o,ho,hd⟩:=I3.cell x c (hcl x c e)
   exact⟨v,o,hk c o ho,hd⟩
  free:=I3.hok.fresh (Ug hC.symm)
  freeC:=fun x c e=>I3.freeC x c (hcl x c e)
  pin:=fun p hp=>by
   have hp':p∈X.pn++pins:=by simpa[cxF]using hp
   obtain⟨a1,a2,a3,a4,a5⟩:=I3.pin p hp'
   refine⟨hk _ _ a1,a2,fun z=>?_,fun z=>?_,a5⟩
   ·have z':p.1=C:=z
    have h1:=Pz a1
    rw[z',hC]at h1
    exact QP _ h1
   ·rcases Pn.mp (I3.stkSub _ z)with y|y
    ·exact a3 y
    ·exact a4 y
  hok:=I3.hok.kept hk
  len:=by simp[cxF] }
 have stat:∀{H':Hp},(∀ b∈fp,H' b=none)→∀ b∈fp,aN (cxF X scope cl (tgs++cps) s3 H3 C fp pins) [] H' b:=fun hn b hb=>by
  obtain⟨_,_,_,_,_,q⟩:=f3 b hb
  exact⟨hn b hb,(ok'.exf b hb).1,ok'.exfs b hb,.inl hb,(ok'.exf b hb).2,fun p hp=>q p (by simpa[cxF]using hp)⟩
 have loop:codeAny (model X.prog X.w) X.A (.compLoop (.ListComp elt [⟨tg,iter,ifs,0⟩] scope pos) 0 (.ref it) (.ref D) (compEnvC scope cl C X.env)) R { s3 with heap:=h₁,toks:=tk }:=by
  refine mj (fun n s'=>∃ i σ' H',Inv (cxF X scope cl (tgs++cps) s3 H3 C fp pins) [] σ' H' s'∧tn i s'.heap∧(∀ b∈fp,H' b=none)∧W i n H') ?_ m0
   ⟨0,_,H3,J0,T.keep _ _ _ st3 fun b hb o e=>hk b o e,fun b hb=>(f3 b hb).1,w0⟩
  rintro n s4 ⟨i,σ4,H4,I4,st4,fr4,w4⟩
  rcases turn i n H4 w4 with⟨stop,qn⟩|⟨go,step⟩
  ·refine thn (T.done (cxF X scope cl (tgs++cps) s3 H3 C fp pins) rfl rfl rfl hc i [] s4 σ4 H4 _ I4 (stat fr4) st4 stop) fun r s5 zz=>?_
   obtain⟨hr,I5⟩:=zz
   subst hr
   exact hR s5 H4 σ4 I5 qn
  ·refine thn (T.item (cxF X scope cl (tgs++cps) s3 H3 C fp pins) rfl rfl rfl hc i [] s4 σ4 H4 _ I4 (stat fr4) st4 go) fun r s5 zz=>?_
   obtain⟨u,hr,h5⟩:=zz
   subst hr
   refine thn h5 fun _ s6 zz=>?_
   obtain⟨x,H6,I6,r6,y6,st6,fr6⟩:=zz
   have I6w:=I6.reset hsc hl hcap
   have I6':=I6w.pinned (stat fr6) (T.obj _ _ st6)
   refine wpAny_mono (hg cl s3 H3 C fp pins _ s6 _ H6 x u _ I6' r6 (step x H6 y6)) (fun _ s7 ⟨σ7,H7,I7,q7⟩=>?_) fun _ _ z=>z.elim
   refine wpAny_mono (hq cl s3 H3 C fp pins _ s7 σ7 H7 _ I7 q7) (fun b s7' ⟨H7',I7',q7'⟩=>?_) fun _ _ z=>z.elim
   cases b with
   | false =>
    obtain⟨m',hm,w8⟩:=q7'
    refine⟨m',hm,i+1,σ7,H7',I7'.unpinned,T.keep _ _ _ st6 fun b hb o e=>(I7'.pin (b,o) (PN _ (PN _ (J2 hb e)))).1,fun b hb=>?_,w8⟩
    obtain⟨o,e,d⟩:=T.obj _ _ st6 b hb
    exact(I7'.pin (b,o) (PN _ (PN _ (J2 hb e)))).2.1
   | true =>
    refine wpAny_mono (he cl s3 H3 C fp pins _ s7' σ7 H7' _ I7' q7') (fun v s8 ⟨y,H8,I8,r8,q8⟩=>?_) fun _ _ z=>z.elim
    obtain⟨ys,hy,hz,m',hm,w8⟩:=q8
    refine wpAny_mono (jt (X:=cxF X scope cl (tgs++cps) s3 H3 C fp pins) _ s8 σ7 H8 (.ref D) [y] (.ref D) [v] (fun _ H9=>W (i+1) m' H9) I8 rfl (.cons r8 .nil) ⟨D,ys,y,rfl,rfl,hy,hz,w8⟩) (fun _ s9 ⟨_,H9,I9,_,w9⟩=>?_) fun _ _ z=>z.elim
    refine⟨m',hm,i+1,σ7,H9,I9.unpinned,T.keep _ _ _ st6 fun b hb o e=>(I9.pin (b,o) (PN _ (PN _ (J2 hb e)))).1,fun b hb=>?_,w9⟩
    obtain⟨o,e,d⟩:=T.obj _ _ st6 b hb
    exact(I9.pin (b,o) (PN _ (PN _ (J2 hb e)))).2.1
 exact codeAny_compStart_list loop (T.self _ 0 _ _ _ (T.keep _ _ _ st3 fun b hb o e=>hk b o e) loop)
theorem jG(hc:X.calm=true)(hcell:∀ x∈scope.names,x.2 ≠ .cell)(hkind:scope.kind = .function)(hnames:∀ x∈scope.names,x.2 = .local→scope.names.lookup x.1=some .local)
  (hfr:∀ x∈scope.names,x.2 = .free→x.1∈cps) (hN:caps.map (fun i=>X.N[i]?)=cps.map some) (hX:∀ x∈cps,X.env.scope.names.lookup x=some .cell∧scope.names.lookup x=some .free)
  (hsc:∀ x∈cps,(relabel scope X.env).names.lookup x=some .cell∨(relabel scope X.env).names.lookup x=some .free)
  (hi:PI X tg iter wi) (hg:∀ cl s3 H3 C fp pins,PG (cxF X scope cl (tgs++cps) s3 H3 C fp pins) tg g) (hq:∀ cl s3 H3 C fp pins,cJ (cxF X scope cl (tgs++cps) s3 H3 C fp pins) ifs tc) (he:∀ cl s3 H3 C fp pins,PE (cxF X scope cl (tgs++cps) s3 H3 C fp pins) elt te)
  (hs:∀ x,foldedSetIterable iter X.env x=pure x) {use:Option (Value→Sem Unit)} {Qf:Value→Shared→Prop} {pins:List (Addr × Obj)} {s:Shared} {σ:St} {H:Hp} {Q:VK} (I:Inv X pins σ H s) (h:qq tgs.length caps wi g tc te σ H Q)
  (hU:∀(D C:Addr) (s':Shared) (H4:Hp) (m4:Str→Option Value),s'.heap.Ns C m4→aN X pins H4 C→(∀ h',Heap.SameBut C s'.heap h'→Inv X pins σ H4 { s' with heap:=h' })→Q (.ref D) H4→compPost (model X.prog X.w) X.A X.xe use Qf (.ref D) C (.ok .next) s') :
  wpAny (model X.prog X.w) X.A (comprehension (.ListComp elt [⟨tg,iter,ifs,0⟩] scope pos) scope X.env (firstIterPos [⟨tg,iter,ifs,0⟩] pos) (newList []) false (eval iter X.env) use) Qf X.xe s:=by
 have hl:caps.length=cps.length:=by
  have:=congrArg SK hN
  simpa using this
 have hcells:∀ n,(n,NameKind.free)∈scope.names→∃ c,X.env.cells.lookup n=some c:=fun n hn=>I.ok.has n (.inl (hX n (hfr _ hn rfl)).1)
 refine wpAny_comprehension_free (use:=use) rfl hs (pP hcells) hkind hnames (thn (hi pins s σ H _ I h) fun v s1 h1=>thn h1 fun itv s2 h2=>?_)
 obtain⟨it,fp,tn,J,H',e,I2,T,st2,f2,hW⟩:=h2
 subst e
 refine wpAny_newObj_type (hd:=by size_fits) (wpAny_newFunctionEnv hcell (by intro y hy;simp at hy) (fun h₁ hns₁ hsb₁=>?_) hkind)
 dsimp only at hns₁ hsb₁ ⊢
 have I3:=I2.lnew (ys:=[]) (its:=[]) (t':=s2.toks) .nil (Qs _)
 obtain⟨W,⟨m0,w0⟩,turn⟩:=hW _ I2.fresh
 have st3:tn 0 (s2.heap.push { cls:=.type "list",data:=.seq ([]:List Value).toArray }):=T.keep _ _ _ st2 fun b hb o e=>Pl _ e
 have f3:∀ b∈fp,aN X pins (upd H' s2.heap.objs.size (.lst [])) b:=fun b hb=>by
  obtain⟨q0,q⟩:=f2 b hb
  obtain⟨o,e,_⟩:=T.obj 0 _ st2 b hb
  exact⟨by rw[g9 (Qi (Pz e))];exact q0,q⟩
 have old:∀ b o,(s2.heap.push { cls:=.type "list",data:=.seq ([]:List Value).toArray }).get? b=some o→h₁.get? b=some o:=fun b o e =>
  hsb₁.extBut b o (Qi (Pz e)) (Pl _ e)
 have hcap:∀(j:Nat) (x:Str) (v:V),cps[j]? = some x→(caps.map fun i=>(σ[i]?).getD none)[j]? = some (some v) →
   Be { s2 with heap:=s2.heap.push { cls:=.type "list",data:=.seq ([]:List Value).toArray },toks:=s2.toks } (upd H' s2.heap.objs.size (.lst [])) fp (W9 X.env.cells scope.names []) x v:=fun j x v ex ev=>by
  have hx:=hX x (Px ex)
  have hj:(caps.map (fun i=>X.N[i]?))[j]? = some (some x):=by rw[hN,PJ,ex];rfl
  rw[PJ]at ev hj
  cases hcj:caps[j]? with
  | none=>rw[hcj]at ev;cases ev
  | some i =>
   rw[hcj]at ev hj
   have ev':(σ[i]?).getD none=some v:=by simpa using ev
   have hj':X.N[i]? = some x:=by simpa using hj
   have es:σ[i]? = some (some v):=by
    cases q:σ[i]? with
    | none=>rw[q]at ev';cases ev'
    | some w=>rw[q]at ev';rw[show w=some v by simpa using ev']
   obtain⟨m,hn,hlook⟩:=I3.loc
   obtain⟨u,ru,lk⟩:=hlook i x v hj' es (.inr (.inl hx.1))
   rcases lk with⟨k1,_⟩|⟨_,c,hc1,o,ho,hd⟩
   ·have k1':X.env.scope.names.lookup x=some .local:=k1
    rw[hx.1]at k1';cases k1'
   ·have hmem:(x,NameKind.free)∈scope.names:=by
     have hlk:=hx.2
     have go:∀ l:List (Str × NameKind),l.lookup x=some .free→(x,NameKind.free)∈l:=by
      intro l
      induction l with
      | nil=>intro z;cases z
      | cons p r ih =>
       intro z
       obtain⟨n,k⟩:=p
       rw[Rx]at z
       split at z
       ·rename_i q;have q':x=n:=by simpa using q
        have z':k = .free:=by simpa using z
        rw[q',z'];exact Po
       ·exact Pk _ (ih z)
     exact go _ hlk
    obtain⟨c',hc'⟩:=Y7 (cells:=X.env.cells) scope.names [] (.inl hmem)
    have:=S6 scope.names [] hcells (fun y d z=>by cases z) hc'
    rw[hc1]at this
    cases this
    refine⟨u,c,o,ru,hc',ho,hd,I3.freeC x c hc1,fun hb=>?_⟩
    exact(f3 c hb).2.2.2.2.1 x c hc1 rfl
 refine pO (s3:={ s2 with heap:=s2.heap.push { cls:=.type "list",data:=.seq ([]:List Value).toArray },toks:=s2.toks }) (Qd:=fun H=>Q (.ref s2.heap.objs.size) H) (tk:=s2.toks+([]:List (Str × Value)).length) (cl:=W9 X.env.cells scope.names [])
  hc hcell hkind (fun x c z=>S6 scope.names [] hcells (fun y d z=>by cases z) z) (fun x z=>Y7 scope.names [] (.inl z)) hsc hl hcap hg hq he I3 T st3 f3 rfl hns₁ old W m0 w0 turn fun s' H4 σ4 I4 q4=>?_
 obtain⟨m4,hn4,_⟩:=I4.loc
 have hCfree:H4 _=none:=I4.free
 have nC:∀ b u,H4 b=some u→b≠(s2.heap.push { cls:=.type "list",data:=.seq ([]:List Value).toArray }).objs.size:=fun b u e z=>by
  rw[z]at e
  have:=e.symm.trans hCfree
  cases this
 have lt:∀ b o,(s2.heap.push { cls:=.type "list",data:=.seq ([]:List Value).toArray }).get? b=some o→b≠(s2.heap.push { cls:=.type "list",data:=.seq ([]:List Value).toArray }).objs.size:=fun b o e=>Qi (Pz e)
 have ub:=I4.base
 have fC:aN X pins H4 (s2.heap.push { cls:=.type "list",data:=.seq ([]:List Value).toArray }).objs.size:=I3.fpOk (Py _) hCfree
 refine hU _ _ s' H4 m4 hn4 fC (fun h' hsb=>?_) q4
 have un:Un (frs X.stack) fp (upd H' s2.heap.objs.size (.lst [])) H4 (s2.heap.push { cls:=.type "list",data:=.seq ([]:List Value).toArray }) h':={
  keep:=fun b o e n x y=>(hsb.2 b (lt b o e)).trans (ub.keep b o e n x y)
  slot:=fun b o e n x y=>let ⟨q,z⟩:=ub.slot b o e n x y;⟨q,(hsb.2 b (lt b o e)).trans z⟩
  free:=ub.free
  there:=fun b o e y=>let ⟨q,z⟩:=ub.there b o e y;⟨q,(hsb.2 b (lt b o e)).trans z⟩
  tups:=ub.tups
  frzs:=ub.frzs
  tbls:=ub.tbls }
 refine I3.call' (s':={ s' with heap:=h' }) I4.os un (fun b u e=>?_) I4.bare fun b hb=>?_
 ·refine(I4.hok b u e).stay (fun c v hcv q=>(hsb.2 c ?_).trans q) (fun _ q=>q) fun _ _ q=>q
  rcases hcv with z|z
  ·rw[z];exact nC b u e
  ·exact nC c _ z
 ·obtain⟨q0,q1,q2,q3,q4,q5⟩:=f3 b hb
  exact⟨q3,q1,q4,q5⟩
theorem yU(hc:X.calm=true)(hcell:∀ x∈scope.names,x.2 ≠ .cell)(hkind:scope.kind = .function)(hnames:∀ x∈scope.names,x.2 = .local→scope.names.lookup x.1=some .local)
  (hfr:∀ x∈scope.names,x.2 = .free→x.1∈cps) (hN:caps.map (fun i=>X.N[i]?)=cps.map some) (hX:∀ x∈cps,X.env.scope.names.lookup x=some .cell∧scope.names.lookup x=some .free)
  (hsc:∀ x∈cps,(relabel scope X.env).names.lookup x=some .cell∨(relabel scope X.env).names.lookup x=some .free)
  (hi:PI X tg iter wi) (hg:∀ cl s3 H3 C fp pins,PG (cxF X scope cl (tgs++cps) s3 H3 C fp pins) tg g) (hq:∀ cl s3 H3 C fp pins,cJ (cxF X scope cl (tgs++cps) s3 H3 C fp pins) ifs tc) (he:∀ cl s3 H3 C fp pins,PE (cxF X scope cl (tgs++cps) s3 H3 C fp pins) elt te)
  (hs:∀ x,foldedSetIterable iter X.env x=pure x:=by intro _;rfl):PE X (.ListComp elt [⟨tg,iter,ifs,0⟩] scope pos) (qq tgs.length caps wi g tc te):=by
 intro pins s σ H Q I h
 rw[eval_ListComp]
 exact jG hc hcell hkind hnames hfr hN hX hsc hi hg hq he hs I h fun D C s' H4 m4 hn4 fC hI q4=>⟨m4,hn4,fun h' hsb=>⟨.ref D,H4,hI h' hsb,rfl,q4⟩⟩
def PU(X:Cx)(i:Nat)(x:Str)(pos':Pos)(e:Expr)(te:TE):Prop:=∀(pins:List (Addr × Obj)) (s:Shared) (σ:St) (H:Hp) (Q:VK),Inv X pins σ H s→te σ H Q →
 wpAny (model X.prog X.w) X.A (evalThenUse e X.env (assign (.Name x pos') X.env)) (fun _ s'=>∃ v H',Inv X pins (σ.set i (some v)) H' s'∧Q v H') X.xe s
theorem PU.imp{X:Cx}{i:Nat}{x:Str}{pos':Pos}{e:Expr}{t t':TE}(h:PU X i x pos' e t)(f:∀ σ H Q,t' σ H Q→t σ H Q):PU X i x pos' e t':=fun pins s σ H Q I q=>h pins s σ H Q I (f σ H Q q)
theorem CC{i:Nat}{x:Str}{pos' pos:Pos}{e:Expr}{te:TE}(h:PU X i x pos' e te)(hs:swapsWith e (some (.Name x pos')) pos.line X.env=pure true):PS X (.Assign [.Name x pos'] e pos) (Gz te (zZ i)):=by
 intro pins s σ H D I q
 rw[exec_Assign_Name_used _ _ _ _ hs]
 refine Ph (wpAny_standAt (Ph (thn (h pins s σ H _ I q) fun _ s1 ⟨v,H1,I1,q1⟩=>PD ?_)))
 exact⟨_,H1,I1,q1⟩
theorem yK(hc:X.calm=true)(hcell:∀ x∈scope.names,x.2 ≠ .cell)(hkind:scope.kind = .function)(hnames:∀ x∈scope.names,x.2 = .local→scope.names.lookup x.1=some .local)
  (hfr:∀ x∈scope.names,x.2 = .free→x.1∈cps) (hN:caps.map (fun i=>X.N[i]?)=cps.map some) (hX:∀ x∈cps,X.env.scope.names.lookup x=some .cell∧scope.names.lookup x=some .free)
  (hsc:∀ x∈cps,(relabel scope X.env).names.lookup x=some .cell∨(relabel scope X.env).names.lookup x=some .free)
  (hi:PI X tg iter wi) (hg:∀ cl s3 H3 C fp pins,PG (cxF X scope cl (tgs++cps) s3 H3 C fp pins) tg g) (hq:∀ cl s3 H3 C fp pins,cJ (cxF X scope cl (tgs++cps) s3 H3 C fp pins) ifs tc) (he:∀ cl s3 H3 C fp pins,PE (cxF X scope cl (tgs++cps) s3 H3 C fp pins) elt te)
  {i:Nat} {x:Str} {pos':Pos} (hNd:X.N.Nodup) (hxi:X.N[i]? = some x) (hx:Loc X.env.scope x) (hf:X.fn x=true∨X.env.scope.names.lookup x=some .local)
  (hs:∀ x,foldedSetIterable iter X.env x=pure x:=by intro _;rfl):PU X i x pos' (.ListComp elt [⟨tg,iter,ifs,0⟩] scope pos) (qq tgs.length caps wi g tc te):=by
 intro pins s σ H Q I h
 refine Ph (thn (jG (use:=some (assign (.Name x pos') X.env)) (Qf:=fun _ s'=>∃ v H',Inv X pins (σ.set i (some v)) H' s'∧Q v H') hc hcell hkind hnames hfr hN hX hsc hi hg hq he hs I h fun D C s' H4 m4 hn4 fC hI q4=>?_) fun _ s1 z=>PD z)
 have I4:Inv X pins σ H4 s':=hI s'.heap (Heap.SameBut.refl _ _)
 show wpAny _ _ (assign (.Name x pos') X.env (.ref D)) _ _ s'
 refine wpAny_assign_Name (jg (v:=.ref D) I4 hNd hxi hx rfl (fun s2 I2 ⟨a,hsb,ha⟩=>?_) hf)
 have hac:C≠a:=by
  rcases ha with ha|ha
  ·rw[ha];exact fC.2.1
  ·exact Ne.symm (fC.2.2.2.2.1 x a ha)
 refine⟨m4,hn4.sameBut hsb hac,fun h' hs'=>⟨.ref D,H4,?_,q4⟩⟩
 exact I2.turned (t':=s2.toks) (fun b o hb e=>hs'.extBut b o hb e) fC.1 fC.2.1 fC.2.2.2.1 fC.2.2.2.2.1 fC.2.2.2.2.2
end
end L2
namespace L2
open PySem
noncomputable def SI:Bool→Heap→Addr→Addr→Nat→Prop
 | true,h,it,a,i=>h.IsListIter it a i
 | false,h,it,a,i=>h.IsTupleIter it a i
noncomputable def SS:Bool→Heap→Addr→Array Value→Prop
 | true,h,a,xs=>h.IsList a xs
 | false,h,a,xs=>h.IsTuple a xs
theorem SI.at{k:Bool}{h h':Heap}{it a:Addr}{i:Nat}(x:SI k h it a i)(f:∀ o,h.get? it=some o→h'.get? it=some o):SI k h' it a i:=by
 cases k<;>(obtain⟨o,e,r⟩:=x;exact⟨o,f o e,r⟩)
theorem SS.at{k:Bool}{h h':Heap}{a:Addr}{xs:Array Value}(x:SS k h a xs)(f:∀ o,h.get? a=some o→h'.get? a=some o):SS k h' a xs:=by
 cases k<;>(obtain⟨o,e,r⟩:=x;exact⟨o,f o e,r⟩)
theorem SI.obj{k:Bool}{h:Heap}{it a:Addr}{i:Nat}(x:SI k h it a i):∃ o,h.get? it=some o∧∀ v,o.data ≠ .cell v:=by
 cases k<;>(obtain⟨o,e,c,d⟩:=x;exact⟨o,e,fun v z=>by rw[d]at z;cases z⟩)
theorem SS.obj{k:Bool}{h:Heap}{a:Addr}{xs:Array Value}(x:SS k h a xs):∃ o,h.get? a=some o:=by
 cases k<;>(obtain⟨o,e,_⟩:=x;exact⟨o,e⟩)
section
variable {prog:Program} {w:World} {A:Around} {E:Value→Shared→Prop} {s:Shared}
theorem vk{p t:Addr}{n:Nat}{xs:Array Value}{v:Value}{Q:Value→Shared→Prop}(hp:s.heap.IsTupleIter p t n)(ht:s.heap.IsTuple t xs)(hv:xs[n]? = some v)
  (q:∀ h',h'.IsTupleIter p t (n+1)→Heap.SameBut p s.heap h'→Q v { s with heap:=h' }):wpAny (model prog w) A (Builtin.SmallTypes.nextOf (.ref p)) Q E s:=by
 obtain⟨ob,e1,e2,e3⟩:=id hp
 obtain⟨ot,f1,_,cap,f2⟩:=ht
 unfold Builtin.SmallTypes.nextOf
 refine Ph (wpAny_callSpecial?_slot (name:=Str.ofString "__next__") hp.typeIs F.slot_tuple_iterator_next (wpAny_call_entry F.slot_tuple_iterator_next hp.typeIs F.entry_tuple_iterator_next ?_ (F.args_tuple_iterator_next_1 _)))
 show wpAny _ _ (field (.ref p) 0 >>= _) _ _ s
 refine Ph (wpAny_field e1 e3 (x:=.ref t) rfl ?_)
 show wpAny _ _ (if (Value.ref t == Value.none)=true then _ else _) _ _ s
 rw[if_neg (fun z:(Value.ref t == Value.none)=true=>nomatch z)]
 show wpAny _ _ (field (.ref p) 1 >>= _) _ _ s
 refine Ph (wpAny_field e1 e3 (x:=.int n 0) rfl ?_)
 show wpAny _ _ (seqItems? (.ref t) >>= _) _ _ s
 refine Ph (wpAny_seqItems f1 f2 ?_)
 simp only[Rq,hv]
 refine Ph (wpAny_setField e1 e3 (by simp) (PD ⟨v,rfl,PD (q _ ⟨_,Te _ e1 (Obj.isFreed_of_fields (Obj.data_mapFields e3 _)),(Obj.cls_mapFields ..).trans e2,?_⟩ (Heap.SameBut.update ..))⟩))
 rw[Obj.data_mapFields e3];simp[rawInt]
theorem xR{p t:Addr}{n:Nat}{xs:Array Value}{Q:Value→Shared→Prop}(hA:A.handled=none)(hp:s.heap.IsTupleIter p t n)(ht:s.heap.IsTuple t xs)(hv:xs[n]? = none)
  (q:∀ h' e,Heap.ExtBut p s.heap h'→(∃ o,h'.get? e=some o∧o.cls = .type "StopIteration")→E (.ref e) { s with heap:=h' }):wpAny (model prog w) A (Builtin.SmallTypes.nextOf (.ref p)) Q E s:=by
 obtain⟨ob,e1,e2,e3⟩:=id hp
 obtain⟨ot,f1,_,cap,f2⟩:=ht
 unfold Builtin.SmallTypes.nextOf
 refine Ph (wpAny_callSpecial?_slot (name:=Str.ofString "__next__") hp.typeIs F.slot_tuple_iterator_next (wpAny_call_entry F.slot_tuple_iterator_next hp.typeIs F.entry_tuple_iterator_next ?_ (F.args_tuple_iterator_next_1 _)))
 show wpAny _ _ (field (.ref p) 0 >>= _) _ _ s
 refine Ph (wpAny_field e1 e3 (x:=.ref t) rfl ?_)
 show wpAny _ _ (if (Value.ref t == Value.none)=true then _ else _) _ _ s
 rw[if_neg (fun z:(Value.ref t == Value.none)=true=>nomatch z)]
 show wpAny _ _ (field (.ref p) 1 >>= _) _ _ s
 refine Ph (wpAny_field e1 e3 (x:=.int n 0) rfl ?_)
 show wpAny _ _ (seqItems? (.ref t) >>= _) _ _ s
 refine Ph (wpAny_seqItems f1 f2 ?_)
 simp only[Rq,hv]
 refine Ph (wpAny_rule (Ph (wpAny_setField e1 e3 (by simp) ?_)))
 show wpAny _ _ (newExc (.type "StopIteration") [] >>= _) _ _ _
 refine Ph ?_;simp only[newExc,newTuple]
 refine Ph (wpAny_newObj_type ?_ (by size_fits));refine Ph (m:=firstArgMember _ _) (wpAny_of_eq (a:=Value.none) (by first|rfl|(simp only[firstArgMember];rfl)) ?_)
 refine wpAny_newObj_type ?_ (by size_fits);simp only[raiseNew];refine Ph (wpAny_handled ?_)
 first|rw[show A.in1.handled=none from hA]|rw[hA]
 refine Ph (PD (wpAny_throw (q _ _ (((Heap.SameBut.update ..).extBut.push _).push _) ⟨_,PK _ rfl,rfl⟩)))
theorem dO{k:Bool}{p a:Addr}{n:Nat}{xs:Array Value}{v:Value}{Q:Value→Shared→Prop}(hp:SI k s.heap p a n)(ha:SS k s.heap a xs)(hv:xs[n]? = some v)
  (q:∀ h',SI k h' p a (n+1)→Heap.SameBut p s.heap h'→Q v { s with heap:=h' }):wpAny (model prog w) A (Builtin.SmallTypes.nextOf (.ref p)) Q E s:=by
 cases k with
 | true=>exact wpAny_nextOf_list_item hp ha hv q
 | false=>exact vk hp ha hv q
theorem qv{k:Bool}{p a:Addr}{n:Nat}{xs:Array Value}{Q:Value→Shared→Prop}(hA:A.handled=none)(hp:SI k s.heap p a n)(ha:SS k s.heap a xs)(hv:xs[n]? = none)
  (q:∀ h' e,Heap.ExtBut p s.heap h'→(∃ o,h'.get? e=some o∧o.cls = .type "StopIteration")→E (.ref e) { s with heap:=h' }):wpAny (model prog w) A (Builtin.SmallTypes.nextOf (.ref p)) Q E s:=by
 cases k with
 | true=>exact wpAny_nextOf_list_end hA hp ha hv q
 | false=>exact xR hA hp ha hv q
theorem SI.but{k:Bool}{h h':Heap}{it a b:Addr}{i:Nat}(x:SI k h it a i)(e:Heap.ExtBut b h h')(n:it≠b):SI k h' it a i:=x.at fun o z=>e it o n z
theorem SS.but{k:Bool}{h h':Heap}{a b:Addr}{xs:Array Value}(x:SS k h a xs)(e:Heap.ExtBut b h h')(n:a≠b):SS k h' a xs:=x.at fun o z=>e a o n z
theorem Bg{z TI TO p1 p2 l1 l2:Addr}{c1 c2:Bool}{n1 n2:Nat}{xs ys:Array Value}{v1 v2 u1 u2:Value}{Q:Option Value→Shared→Prop}(D:ZipApart z TI TO p1 p2 l1 l2)
  (iz:IsZip s.heap z TI TO .none) (iI:IsPair s.heap TI (.ref p1) (.ref p2)) (iO:IsPair s.heap TO u1 u2) (g1:SI c1 s.heap p1 l1 n1) (g2:SI c2 s.heap p2 l2 n2) (m1:SS c1 s.heap l1 xs) (m2:SS c2 s.heap l2 ys) (w1:xs[n1]? = some v1) (w2:ys[n2]? = some v2)
  (q:∀ h',IsZip h' z TI TO (rawInt s.heap.objs.size)→IsPair h' TO v1 v2→SI c1 h' p1 l1 (n1+1)→SI c2 h' p2 l2 (n2+1)→IsPair h' s.heap.objs.size v1 v2→h'.objs.size=s.heap.objs.size+1 →
   (∀ b o,b≠z→b≠TO→b≠p1→b≠p2→s.heap.get? b=some o→h'.get? b=some o)→Q (some (.ref s.heap.objs.size)) { s with heap:=h' }):wpAny (model prog w) A (pyNext (.ref z)) Q E s:=by
 have ty:s.TypeIs (.ref z) "zip" := ⟨_,iz,rfl⟩
 unfold pyNext
 refine Ph (wpAny_attempt (wpAny_callSpecial?_slot (name:=Str.ofString "__next__") ty F.slot_zip_next (wpAny_call_entry F.slot_zip_next ty F.entry_zip_next ?_ (F.args_zip_next_1 _))))
 show wpAny _ _ (field (.ref z) 2 >>= _) _ _ _
 refine Ph (wpAny_field iz rfl (x:=.bool false) rfl ?_)
 show wpAny _ _ (field (.ref z) 3 >>= _) _ _ _
 refine Ph (wpAny_field iz rfl (x:=.ref TI) rfl (Ph (wpAny_seqItems iI rfl ?_)))
 show wpAny _ _ (Builtin.SmallTypes.ownedTupleIsFree (.ref z) >>= _) _ _ _
 refine Ph ?_;unfold Builtin.SmallTypes.ownedTupleIsFree
 refine Ph (wpAny_field iz rfl (x:=.none) rfl (PD ?_));simp only[if_true]
 refine Ph (wpAny_rule (Ph (wpAny_field iz rfl (x:=.ref TO) rfl (Ph (wpAny_setField_rec iz (by simp) fun ha za sa=>?_)))))
 replace za:IsZip ha z TI TO .ellipsis:=za
 refine Ph ?_;simp only[Uo,Uu,Th,UG]
 refine Ph (Ph (wpAny_onRaise ?_))
 show wpAny _ _ (Builtin.SmallTypes.nextOf (.ref p1) >>= _) _ _ _
 refine Ph (dO (g1.but sa.extBut D.i1z) (m1.but sa.extBut D.l1z) w1 fun hb gb sb=>PD ?_)
 have oB:IsPair hb TO u1 u2:=sb.extBut _ _ D.TOi1 (sa.extBut _ _ D.TOz iO)
 refine Ph (wpAny_seqItems oB rfl (Ph (wpAny_updateSeq_pair oB fun hc oC sc=>?_)))
 replace oC:IsPair hc TO v1 u2:=oC
 refine Ph (wpAny_letGo (PD (Ph (Ph (wpAny_onRaise ?_)))))
 show wpAny _ _ (Builtin.SmallTypes.nextOf (.ref p2) >>= _) _ _ _
 refine Ph (dO (((g2.but sa.extBut D.i2z).but sb.extBut D.i12.symm).but sc.extBut D.TOi2.symm) (((m2.but sa.extBut D.l2z).but sb.extBut D.l2i1).but sc.extBut D.l2TO) w2 fun hd gd sd=>PD ?_)
 have oD:IsPair hd TO v1 u2:=sd.extBut _ _ D.TOi2 oC
 refine Ph (wpAny_seqItems oD rfl (Ph (wpAny_updateSeq_pair oD fun he oE se=>?_)))
 replace oE:IsPair he TO v1 v2:=oE
 refine Ph (wpAny_letGo (PD (PD (Ph (wpAny_seqItems oE rfl (Ph (wpAny_newTuple ?_)))))))
 have zs:he.objs.size=s.heap.objs.size:=by rw[se.1,sd.1,sc.1,sb.1,sa.1]
 have zE:IsZip he z TI TO .ellipsis:=se.extBut _ _ D.TOz.symm (sd.extBut _ _ D.i2z.symm (sc.extBut _ _ D.TOz.symm (sb.extBut _ _ D.i1z.symm za)))
 have kE:∀ b o,b≠z→b≠TO→b≠p1→b≠p2→s.heap.get? b=some o→he.get? b=some o:=fun b o b1 b2 b3 b4 e=>se.extBut _ _ b2 (sd.extBut _ _ b4 (sc.extBut _ _ b2 (sb.extBut _ _ b3 (sa.extBut _ _ b1 e))))
 have gE1:SI c1 he p1 l1 (n1+1):=((gb.but sc.extBut D.TOi1.symm).but sd.extBut D.i12).but se.extBut D.TOi1.symm
 have gE2:SI c2 he p2 l2 (n2+1):=gd.but se.extBut D.TOi2.symm
 have ltz:z<he.objs.size:=Pz zE
 show wpAny _ _ (Builtin.SmallTypes.ownedTupleHandOut (.ref z) (.ref he.objs.size) >>= _) _ _ _
 refine Ph ?_;unfold Builtin.SmallTypes.ownedTupleHandOut
 refine Ph (wpAny_setField_rec (Pl _ zE) (by simp) fun hf zf sf=>?_)
 replace zf:IsZip hf z TI TO (rawInt he.objs.size):=zf
 refine wpAny_setField_rec zf (by simp) fun hg zg sg=>?_
 replace zg:IsZip hg z TI TO (rawInt he.objs.size):=zg
 have lift:∀ b o,b≠z→he.get? b=some o→hg.get? b=some o:=fun b o b1 e=>sg.extBut _ _ b1 (sf.extBut _ _ b1 (Pl _ e))
 have tG:IsPair hg he.objs.size v1 v2:=sg.extBut _ _ (QR ltz) (sf.extBut _ _ (QR ltz) (PK _ rfl))
 have zz:hg.objs.size=he.objs.size+1:=by rw[sg.1,sf.1,QK]
 rw[zs]at zg tG zz
 refine PD ⟨_,rfl,PD ?_⟩
 show Q (some (.ref he.objs.size)) _
 rw[zs]
 exact q hg zg (lift _ _ D.TOz oE) (gE1.at fun o e=>lift _ o D.i1z e) (gE2.at fun o e=>lift _ o D.i2z e) tG zz fun b o b1 b2 b3 b4 e=>lift b o b1 (kE b o b1 b2 b3 b4 e)
theorem Gg{z TI TO p1 p2 l1 l2:Addr}{c1 c2:Bool}{n1 n2:Nat}{xs ys:Array Value}{u1 u2:Value}{Q:Option Value→Shared→Prop}(hA:A.handled=none)(D:ZipApart z TI TO p1 p2 l1 l2)
  (iz:IsZip s.heap z TI TO .none) (iI:IsPair s.heap TI (.ref p1) (.ref p2)) (iO:IsPair s.heap TO u1 u2) (g1:SI c1 s.heap p1 l1 n1) (g2:SI c2 s.heap p2 l2 n2) (m1:SS c1 s.heap l1 xs) (m2:SS c2 s.heap l2 ys) (fin:xs[n1]? = none∨ys[n2]? = none)
  (q:∀ h',(∀ b o,b≠z→b≠TO→b≠p1→b≠p2→s.heap.get? b=some o→h'.get? b=some o)→Q none { s with heap:=h' }):wpAny (model prog w) A (pyNext (.ref z)) Q E s:=by
 have ty:s.TypeIs (.ref z) "zip" := ⟨_,iz,rfl⟩
 unfold pyNext
 have out:∀(h':Heap) (e:Addr),(∀ b o,b≠z→b≠TO→b≠p1→b≠p2→s.heap.get? b=some o→h'.get? b=some o)→(∃ o,h'.get? e=some o∧o.cls = .type "StopIteration") →
   wpAny (model prog w) A (do if ← isInstance (.ref e) (.type "StopIteration")then pure none else throw (.ref e):Sem (Option Value)) Q E { s with heap:=h' }:=fun h' e k ⟨o,e1,e2⟩ =>
  Ph (wpAny_isInstance (T := "StopIteration") (b:=true) ⟨o,e1,e2⟩ isSubtype_stop (PD (q h' k)))
 refine Ph (wpAny_attempt (wpAny_callSpecial?_slot (name:=Str.ofString "__next__") ty F.slot_zip_next (wpAny_call_entry F.slot_zip_next ty F.entry_zip_next ?_ (F.args_zip_next_1 _))))
 show wpAny _ _ (field (.ref z) 2 >>= _) _ _ _
 refine Ph (wpAny_field iz rfl (x:=.bool false) rfl ?_)
 show wpAny _ _ (field (.ref z) 3 >>= _) _ _ _
 refine Ph (wpAny_field iz rfl (x:=.ref TI) rfl (Ph (wpAny_seqItems iI rfl ?_)))
 show wpAny _ _ (Builtin.SmallTypes.ownedTupleIsFree (.ref z) >>= _) _ _ _
 refine Ph ?_;unfold Builtin.SmallTypes.ownedTupleIsFree
 refine Ph (wpAny_field iz rfl (x:=.none) rfl (PD ?_));simp only[if_true]
 refine Ph (wpAny_rule (Ph (wpAny_field iz rfl (x:=.ref TO) rfl (Ph (wpAny_setField_rec iz (by simp) fun ha za sa=>?_)))))
 replace za:IsZip ha z TI TO .ellipsis:=za
 refine Ph ?_;simp only[Uo,Uu,Th,UG]
 refine Ph (Ph (wpAny_onRaise ?_))
 show wpAny _ _ (Builtin.SmallTypes.nextOf (.ref p1) >>= _) _ _ _
 cases w1:xs[n1]? with
 | none =>
  refine Ph (qv hA (g1.but sa.extBut D.i1z) (m1.but sa.extBut D.l1z) w1 fun hb e sb zz=>?_)
  obtain⟨oe,oe1,oe2⟩:=zz
  have zb:IsZip hb z TI TO .ellipsis:=sb _ _ D.i1z.symm za
  have nz:e≠z:=fun y=>by subst y;rw[zb]at oe1;cases oe1;simp at oe2
  refine wpAny_setField_rec zb (by simp) fun hc _ sc=>out hc e (fun b o b1 _ b3 _ y=>sc.extBut _ _ b1 (sb _ _ b3 (sa.extBut _ _ b1 y))) ⟨oe,sc.extBut _ _ nz oe1,oe2⟩
 | some v1 =>
  have w2:ys[n2]? = none:=fin.resolve_left (by rw[w1];exact fun y=>nomatch y)
  refine Ph (dO (g1.but sa.extBut D.i1z) (m1.but sa.extBut D.l1z) w1 fun hb gb sb=>PD ?_)
  have oB:IsPair hb TO u1 u2:=sb.extBut _ _ D.TOi1 (sa.extBut _ _ D.TOz iO)
  refine Ph (wpAny_seqItems oB rfl (Ph (wpAny_updateSeq_pair oB fun hc oC sc=>?_)))
  refine Ph (wpAny_letGo (PD (Ph (Ph (wpAny_onRaise ?_)))))
  show wpAny _ _ (Builtin.SmallTypes.nextOf (.ref p2) >>= _) _ _ _
  refine Ph (qv hA (((g2.but sa.extBut D.i2z).but sb.extBut D.i12.symm).but sc.extBut D.TOi2.symm) (((m2.but sa.extBut D.l2z).but sb.extBut D.l2i1).but sc.extBut D.l2TO) w2 fun hd e sd zz=>?_)
  obtain⟨oe,oe1,oe2⟩:=zz
  have zd:IsZip hd z TI TO .ellipsis:=sd _ _ D.i2z.symm (sc.extBut _ _ D.TOz.symm (sb.extBut _ _ D.i1z.symm za))
  have nz:e≠z:=fun y=>by subst y;rw[zd]at oe1;cases oe1;simp at oe2
  refine wpAny_setField_rec zd (by simp) fun he _ se=>out he e (fun b o b1 b2 b3 b4 y=>se.extBut _ _ b1 (sd _ _ b4 (sc.extBut _ _ b2 (sb.extBut _ _ b3 (sa.extBut _ _ b1 y))))) ⟨oe,se.extBut _ _ nz oe1,oe2⟩
end
noncomputable abbrev itO(k:Bool)(a:Addr):Obj:={ cls:=.type (if k then "list_iterator" else "tuple_iterator"),data:=.fields #[.ref a,.int 0 0] }
noncomputable abbrev zA(k1:Bool)(h:Heap)(l1:Addr):Heap:=h.push (itO k1 l1)
noncomputable abbrev zB(k1 k2:Bool)(h:Heap)(l1 l2:Addr):Heap:=(zA k1 h l1).push (itO k2 l2)
noncomputable abbrev zC(k1 k2:Bool)(h:Heap)(l1 l2:Addr):Heap:=(zB k1 k2 h l1 l2).push { cls:=.type "tuple",data:=.seq #[.ref h.objs.size,.ref (zA k1 h l1).objs.size] }
noncomputable abbrev zD(k1 k2:Bool)(h:Heap)(l1 l2:Addr):Heap:=(zC k1 k2 h l1 l2).push { cls:=.type "tuple",data:=.seq #[.none,.none] }
noncomputable abbrev zE(k1 k2:Bool)(h:Heap)(l1 l2:Addr):Heap:=(zD k1 k2 h l1 l2).push { cls:=.type "zip",data:=.fields #[.none,.bool false,.bool false,.ref (zB k1 k2 h l1 l2).objs.size,.ref (zC k1 k2 h l1 l2).objs.size] }
set_option maxHeartbeats 2000000 in
theorem Gf(k1 k2:Bool)(l1 l2:Addr)(xs ys:Array Value) :
  Meets (Builtin.«zip.__new__» ⟨[.type "zip",.ref l1,.ref l2],[]⟩) (fun _ R s=>SS k1 s.heap l1 xs∧SS k2 s.heap l2 ys∧R (.ok (.ret (.ref (zD k1 k2 s.heap l1 l2).objs.size))) { s with heap:=zE k1 k2 s.heap l1 l2 }) :=
 .of_wp fun prog w A R s h=>by
  obtain⟨hp,g,d,tk,os⟩:=s
  obtain⟨ha,hb,h⟩:=h
  have hsub:=sub_zip
  cases k1 with
  | true =>
   have a1:Heap.IsList (Shared.heap ⟨hp,g,d,tk,os⟩) l1 xs:=ha
   cases k2 with
   | true =>
    have a2:Heap.IsList (Shared.heap ⟨hp.push { cls:=.type "list_iterator",data:=.fields #[.ref l1,.int 0 0] },g,d,tk,os⟩) l2 ys:=Heap.IsList.push hb _
    wp_walk using wpAny_pyIter_list a1,wpAny_pyIter_list a2
    exact⟨_,rfl,h⟩
   | false =>
    have a2:Heap.IsTuple (Shared.heap ⟨hp.push { cls:=.type "list_iterator",data:=.fields #[.ref l1,.int 0 0] },g,d,tk,os⟩) l2 ys:=Heap.IsTuple.push hb _
    wp_walk using wpAny_pyIter_list a1,wpAny_pyIter_tuple a2
    exact⟨_,rfl,h⟩
  | false =>
   have a1:Heap.IsTuple (Shared.heap ⟨hp,g,d,tk,os⟩) l1 xs:=ha
   cases k2 with
   | true =>
    have a2:Heap.IsList (Shared.heap ⟨hp.push { cls:=.type "tuple_iterator",data:=.fields #[.ref l1,.int 0 0] },g,d,tk,os⟩) l2 ys:=Heap.IsList.push hb _
    wp_walk using wpAny_pyIter_tuple a1,wpAny_pyIter_list a2
    exact⟨_,rfl,h⟩
   | false =>
    have a2:Heap.IsTuple (Shared.heap ⟨hp.push { cls:=.type "tuple_iterator",data:=.fields #[.ref l1,.int 0 0] },g,d,tk,os⟩) l2 ys:=Heap.IsTuple.push hb _
    wp_walk using wpAny_pyIter_tuple a1,wpAny_pyIter_tuple a2
    exact⟨_,rfl,h⟩
section
variable {prog:Program} {w:World} {A:Around} {E:Value→Shared→Prop} {s:Shared}
theorem DT{k1 k2:Bool}{l1 l2:Addr}{xs ys:Array Value}{Q:Value→Shared→Prop}(ha:SS k1 s.heap l1 xs)(hb:SS k2 s.heap l2 ys)
  (q:∀ h',IsZip h' (s.heap.objs.size+4) (s.heap.objs.size+2) (s.heap.objs.size+3) .none→IsPair h' (s.heap.objs.size+2) (.ref s.heap.objs.size) (.ref (s.heap.objs.size+1))→IsPair h' (s.heap.objs.size+3) .none .none →
   SI k1 h' s.heap.objs.size l1 0→SI k2 h' (s.heap.objs.size+1) l2 0→h'.objs.size=s.heap.objs.size+5→(∀ b o,s.heap.get? b=some o→h'.get? b=some o)→Q (.ref (s.heap.objs.size+4)) { s with heap:=h' }) :
  wpAny (model prog w) A (call (.type "zip") [.ref l1,.ref l2]) Q E s:=by
 refine callType_new F.called_zip (by decide) (F.typeCall_zip_2 _ _) (F.newCall_zip_2 _ _) (fun obj=>F.args_object_init_3 obj _ _) F.entry_zip_new (Gf k1 k2 l1 l2 xs ys) ⟨ha,hb,?_⟩
 have s1:(zA k1 s.heap l1).objs.size=s.heap.objs.size+1:=QK ..
 have s2:(zB k1 k2 s.heap l1 l2).objs.size=s.heap.objs.size+2:=(QK ..).trans (by rw[s1])
 have s3:(zC k1 k2 s.heap l1 l2).objs.size=s.heap.objs.size+3:=(QK ..).trans (by rw[s2])
 have s4:(zD k1 k2 s.heap l1 l2).objs.size=s.heap.objs.size+4:=(QK ..).trans (by rw[s3])
 have s5:(zE k1 k2 s.heap l1 l2).objs.size=s.heap.objs.size+5:=(QK ..).trans (by rw[s4])
 have o5:(zE k1 k2 s.heap l1 l2).get? (zD k1 k2 s.heap l1 l2).objs.size=some _:=PK _ rfl
 have up1:∀ b o,(zD k1 k2 s.heap l1 l2).get? b=some o→(zE k1 k2 s.heap l1 l2).get? b=some o:=fun b o e=>Pl _ e
 have o4:(zE k1 k2 s.heap l1 l2).get? (zC k1 k2 s.heap l1 l2).objs.size=some _:=up1 _ _ (PK _ rfl)
 have up2:∀ b o,(zC k1 k2 s.heap l1 l2).get? b=some o→(zE k1 k2 s.heap l1 l2).get? b=some o:=fun b o e=>up1 b o (Pl _ e)
 have o3:(zE k1 k2 s.heap l1 l2).get? (zB k1 k2 s.heap l1 l2).objs.size=some _:=up2 _ _ (PK _ rfl)
 have up3:∀ b o,(zB k1 k2 s.heap l1 l2).get? b=some o→(zE k1 k2 s.heap l1 l2).get? b=some o:=fun b o e=>up2 b o (Pl _ e)
 have o2:(zE k1 k2 s.heap l1 l2).get? (zA k1 s.heap l1).objs.size=some (itO k2 l2):=up3 _ _ (PK _ rfl)
 have up4:∀ b o,(zA k1 s.heap l1).get? b=some o→(zE k1 k2 s.heap l1 l2).get? b=some o:=fun b o e=>up3 b o (Pl _ e)
 have o1:(zE k1 k2 s.heap l1 l2).get? s.heap.objs.size=some (itO k1 l1):=up4 _ _ (PK _ rfl)
 have mk:∀(k:Bool) (b a:Addr),(zE k1 k2 s.heap l1 l2).get? b=some (itO k a)→SI k (zE k1 k2 s.heap l1 l2) b a 0:=fun k b a e=>by cases k<;>exact⟨_,e,rfl,rfl⟩
 show _∧_
 rw[s2,s3,s4]at o5
 rw[s1,s2]at o3
 rw[s3]at o4
 rw[s1]at o2
 rw[s4]
 exact⟨⟨_,o5,rfl⟩,q _ o5 o3 o4 (mk _ _ _ o1) (mk _ _ _ o2) s5 fun b o e=>up4 b o (Pl _ e)⟩
end
end L2
namespace L2
open PySem PySem.Spec PyProof.Rows
section
variable {X:Cx} {pins:List (Addr × Obj)} {σ:St} {H:Hp} {s:Shared} {h':Heap}
theorem Inv.turnedN{t':Nat}{ch:List Addr}(I:Inv X pins σ H s)(k:∀ b o,b∉ch→s.heap.get? b=some o→h'.get? b=some o)(hf:∀ b∈ch,aN X pins H b):Inv X pins σ H { s with heap:=h',toks:=t' }:=by
 have nit:∀ b u,H b=some u→b∉ch:=fun b u e z=>by rw[(hf b z).1]at e;cases e
 refine I.step (g':=s.gens) (d':=s.drawn) (ch:=ch) (fun b hb=>?_) (fun b o _ _ hc e _=>k b o hc e) (fun b o _ _ hc e _=>⟨o.slots,k b o hc e⟩) (fun _ _ _ _ n=>n)
  (fun b o hc e=>⟨o,k b o hc e⟩) (fun _ _ e=>e) (fun _ _ _ e=>e) (fun b ps e=>⟨#[],by rw[e];simp⟩) (fun m hm=>?_) (fun b u e=>?_) I.bare
 ·obtain⟨_,q1,_,q3,q4,q5⟩:=hf b hb
  exact⟨q3,q1,q4,q5⟩
 ·obtain⟨o,es,ep,ho,r⟩:=hm
  exact⟨o,es,ep,k _ o (fun z=>(hf _ z).2.1 rfl) ho,r⟩
 ·refine(I.hok b u e).stay (fun c v hc q=>k c v ?_ q) (fun _ q=>q) fun _ _ q=>q
  rcases hc with z|z
  ·rw[z];exact nit b u e
  ·exact nit c _ z
end
def SqK(K:Pg)(k:Bool)(H:Hp)(a:Addr)(xs:List V):Prop:=if k=true then SqL K H a xs else SqT K H a xs
theorem Inv.sqk{X:Cx}{pins:List (Addr × Obj)}{σ:St}{H:Hp}{s:Shared}(I:Inv X pins σ H s){k:Bool}{a:Addr}{xs:List V}(h:SqK X.K k H a xs):∃ its:List Value,j0 xs its∧SS k s.heap a its.toArray:=by
 cases k with
 | true =>
  obtain⟨its,r,p,_⟩:=I.list (show SqL X.K H a xs from h)
  exact⟨its,r,p.isList⟩
 | false =>
  obtain⟨its,r,p,_⟩:=I.tuple (show SqT X.K H a xs from h)
  exact⟨its,r,p⟩
theorem Inv.sqk_inj{X:Cx}{pins:List (Addr × Obj)}{σ:St}{H:Hp}{s:Shared}(I:Inv X pins σ H s){k:Bool}{a:Addr}{xs ys:List V}(h:SqK X.K k H a xs)(h2:SqK X.K k H a ys):xs=ys:=by
 cases k with
 | true=>exact I.list_inj (show SqL X.K H a xs from h) (show SqL X.K H a ys from h2)
 | false=>exact I.tuple_inj (show SqT X.K H a xs from h) (show SqT X.K H a ys from h2)
noncomputable def Itz(K:Pg)(k1 k2:Bool)(l1 l2:Addr):It :=
 ⟨fun i H=>∃ xs ys x y,SqK K k1 H l1 xs∧SqK K k2 H l2 ys∧xs[i]? = some x∧ys[i]? = some y,
  fun i H v H'=>∃ T x y,H T=none∧v = .ref T∧H'=upd H T (.tup [x,y])∧(∀ xs,SqK K k1 H l1 xs→xs[i]? = some x)∧∀ ys,SqK K k2 H l2 ys→ys[i]? = some y,
  fun i H=>∃ xs ys,SqK K k1 H l1 xs∧SqK K k2 H l2 ys∧(xs.length≤i∨ys.length≤i)⟩
def Ly(k1 k2:Bool)(z TI TO p1 p2 l1 l2:Addr)(i:Nat)(h:Heap):Prop:=IsZip h z TI TO .none∧IsPair h TI (.ref p1) (.ref p2)∧(∃ a b,IsPair h TO a b)∧SI k1 h p1 l1 i∧SI k2 h p2 l2 i
theorem xQ{P:Program}{w:World}{K:Pg}{elts:List Expr}{kx:Nat}{tp:Pos}{k1 k2:Bool}{z TI TO p1 p2 l1 l2:Addr}(D:ZipApart z TI TO p1 p2 l1 l2) :
  rM P w K (.Tuple elts kx tp) (Itz K k1 k2 l1 l2) [z,TI,TO,p1,p2] z (Ly k1 k2 z TI TO p1 p2 l1 l2) where
 mem:=by simp
 obj:=fun i h ⟨iz,iI,⟨a,b,iO⟩,g1,g2⟩ c hc=>by
  simp only[Pn,Qb,or_false]at hc
  rcases hc with rfl|rfl|rfl|rfl|rfl
  ·exact⟨_,iz,fun v e=>by cases e⟩
  ·exact⟨_,iI,fun v e=>by cases e⟩
  ·exact⟨_,iO,fun v e=>by cases e⟩
  ·exact g1.obj
  ·exact g2.obj
 keep:=fun i h h' ⟨iz,iI,⟨a,b,iO⟩,g1,g2⟩ k=>⟨k z (by simp) _ iz,k TI (by simp) _ iI,⟨a,b,k TO (by simp) _ iO⟩,g1.at fun o e=>k p1 (by simp) o e,g2.at fun o e=>k p2 (by simp) o e⟩
 item:=by
  intro X hP hw hK hc i pins s σ H E I hf st hg
  subst hP hw hK
  obtain⟨iz,iI,⟨a,b,iO⟩,g1,g2⟩:=st
  obtain⟨xs,ys,x,y,q1,q2,hx,hy⟩:=hg
  obtain⟨is1,r1,m1⟩:=I.sqk q1
  obtain⟨is2,r2,m2⟩:=I.sqk q2
  obtain⟨u1,hu1,ru1⟩:=r1.get hx
  obtain⟨u2,hu2,ru2⟩:=r2.get hy
  refine Bg D iz iI iO g1 g2 m1 m2 (v1:=u1) (v2:=u2) (by simpa using hu1) (by simpa using hu2) fun h' a1 a2 a3 a4 a5 a6 kk=>?_
  refine⟨_,rfl,?_⟩
  refine wpAny_letOwnedTupleGo_zip (s:={ s with heap:=h' }) a1 fun h2 b1 b2=>?_
  have lt:∀{c o},s.heap.get? c=some o→c≠s.heap.objs.size:=fun e=>Qi (Pz e)
  have nz:s.heap.objs.size≠z:=Ne.symm (lt iz)
  have I1:Inv X pins σ (upd H s.heap.objs.size (.tup [x,y])) { s with heap:=s.heap.push { cls:=.type "tuple",data:=.seq #[u1,u2] },toks:=s.toks } :=
   I.laid (o:=.tup [x,y]) (fun b ob q=>Pl _ q) (Py _) ⟨(show 2≤sizeLine by decide),[u1,u2],.cons ru1 (.cons ru2 .nil),IsTup.new _ _⟩
  have nfp:∀ c∈[z,TI,TO,p1,p2],c≠s.heap.objs.size:=fun c hc=>by
   simp only[Pn,Qb,or_false]at hc
   rcases hc with rfl|rfl|rfl|rfl|rfl
   ·exact lt iz
   ·exact lt iI
   ·exact lt iO
   ·obtain⟨o,e,_⟩:=g1.obj;exact lt e
   ·obtain⟨o,e,_⟩:=g2.obj;exact lt e
  have hf':∀ c∈[z,TI,TO,p1,p2],aN X pins (upd H s.heap.objs.size (.tup [x,y])) c:=fun c hc=>by
   obtain⟨f0,f1⟩:=hf c hc
   exact⟨by rw[g9 (nfp c hc)];exact f0,f1⟩
  have I2:Inv X pins σ (upd H s.heap.objs.size (.tup [x,y])) { s with heap:=h2,toks:=s.toks }:=by
   refine Inv.turnedN (s:={ s with heap:=s.heap.push { cls:=.type "tuple",data:=.seq #[u1,u2] },toks:=s.toks }) (t':=s.toks) (h':=h2) (ch:=[z,TI,TO,p1,p2]) I1 (fun c o hcn e=>?_) hf'
   simp only[Pn,Qb,or_false,not_or]at hcn
   obtain⟨n1,n2,n3,n4,n5⟩:=hcn
   refine b2.extBut c o n1 ?_
   by_cases hcs:c=s.heap.objs.size
   ·subst hcs
    have e':(s.heap.push { cls:=.type "tuple",data:=.seq #[u1,u2] }).get? s.heap.objs.size=some o:=e
    rw[PK _ rfl]at e'
    cases e'
    exact a5
   ·have e':(s.heap.push { cls:=.type "tuple",data:=.seq #[u1,u2] }).get? c=some o:=e
    have hlt:c<s.heap.objs.size:=by
     have:=Pz e'
     rw[QK]at this
     exact Nat.lt_of_le_of_ne (Nat.le_of_lt_succ this) hcs
    have hold:s.heap.get? c=some o:=by
     have:∃ o',s.heap.get? c=some o':=by
      cases q:s.heap.get? c with
      | some o'=>exact⟨o',rfl⟩
      | none=>exact absurd e' (by rw[Uc _ _ _ hcs];rw[q];exact fun z=>nomatch z)
     obtain⟨o',ho'⟩:=this
     have:=Pl { cls:=.type "tuple",data:=.seq #[u1,u2] } ho'
     rw[e']at this
     cases this;exact ho'
    exact kk c o n1 n3 n4 n5 hold
  refine⟨.ref s.heap.objs.size,_,I2,rfl,⟨_,x,y,I.hok.fresh (Py _),rfl,rfl,fun zs hz=>by rw[I.sqk_inj hz q1];exact hx,fun zs hz=>by rw[I.sqk_inj hz q2];exact hy⟩,?_,fun c hc=>(hf' c hc).1⟩
  have lift:∀ c o,c≠z→h'.get? c=some o→h2.get? c=some o:=fun c o n e=>b2.extBut c o n e
  exact⟨b1,lift _ _ D.TIz (kk _ _ D.TIz D.TITO D.TIi1 D.TIi2 iI),⟨_,_,lift _ _ D.TOz a2⟩,a3.at fun o e=>lift _ o D.i1z e,a4.at fun o e=>lift _ o D.i2z e⟩
 done:=by
  intro X hP hw hK hc i pins s σ H E I hf st hg
  subst hP hw hK
  obtain⟨iz,iI,⟨a,b,iO⟩,g1,g2⟩:=st
  obtain⟨xs,ys,q1,q2,hx⟩:=hg
  obtain⟨is1,r1,m1⟩:=I.sqk q1
  obtain⟨is2,r2,m2⟩:=I.sqk q2
  have e1:=r1.length
  have e2:=r2.length
  refine Gg (I.ok.hd hc) D iz iI iO g1 g2 m1 m2 (hx.elim (fun h=>.inl (by simp;omega)) fun h=>.inr (by simp;omega)) fun h' kk=>⟨rfl,?_⟩
  refine I.turnedN (t':=s.toks) (ch:=[z,TI,TO,p1,p2]) (fun c o hcn e=>?_) hf
  simp only[Pn,Qb,or_false,not_or]at hcn
  obtain⟨n1,n2,n3,n4,n5⟩:=hcn
  exact kk c o n1 n3 n4 n5 e
 self:=fun _ _ _ _ _ st h=>wpAny_pyIter_zip st.1 h
def Ml(K:Pg)(ta:TA):TI:=fun σ H R=>ta σ H fun vs H1=>∃ k1 k2 l1 l2,vs=[.ref l1,.ref l2]∧(∃ xs,SqK K k1 H1 l1 xs)∧(∃ ys,SqK K k2 H1 l2 ys)∧R (Itz K k1 k2 l1 l2) H1
theorem Hg{X:Cx}{elts:List Expr}{kx:Nat}{tp:Pos}{a b:Expr}{ta:TA}{p pos:Pos}(hg:Gl X "zip")(hm:X.mg "zip" = none)(ha:PA X [a,b] ta)
  (hs:starEach [a,b] X.env=[(false,eval a X.env),(false,eval b X.env)]:=by rfl) (hs2:starEach [b] X.env=[(false,eval b X.env)]:=by rfl):PI X (.Tuple elts kx tp) (.Call (.Name "zip" p) [a,b] [] pos) (Ml X.K ta):=by
 intro pins s σ H R I h
 refine Call_ (aD I hg hm PyProof.Rows.boot_zip (PyProof.Rows.callWith_type1 (thn (ha pos pins s σ H _ I h) fun us s1 ⟨vs,H1,I1,r1,q1⟩=>?_) (by rw[hs,hs2]) (by rw[hs2];rfl)))
 obtain⟨k1,k2,l1,l2,e,⟨xs,q2⟩,⟨ys,q3⟩,q⟩:=q1
 subst e
 cases r1 with
 | cons r rr =>
  cases rr with
  | cons r' rr =>
   cases rr
   cases r
   cases r'
   obtain⟨is1,_,m1⟩:=I1.sqk q2
   obtain⟨is2,_,m2⟩:=I1.sqk q3
   have lt1:l1<s1.heap.objs.size:=by obtain⟨o,e⟩:=m1.obj;exact Pz e
   have lt2:l2<s1.heap.objs.size:=by obtain⟨o,e⟩:=m2.obj;exact Pz e
   refine DT m1 m2 fun h' a1 a2 a3 a4 a5 a6 kk=>?_
   refine wpAny_pyIter_zip (s:={ s1 with heap:=h' }) a1 ?_
   have D:ZipApart (s1.heap.objs.size+4) (s1.heap.objs.size+2) (s1.heap.objs.size+3) s1.heap.objs.size (s1.heap.objs.size+1) l1 l2:=PyProof.Rows.zipApart_new lt1 lt2
   refine⟨s1.heap.objs.size+4,_,_,_,H1,rfl,I1.kept (t':=s1.toks) kk,xQ D,⟨a1,a2,⟨_,_,a3⟩,a4,a5⟩,fun c hc=>?_,q⟩
   have hge:s1.heap.objs.size≤c:=by
    simp only[Pn,Qb,or_false]at hc
    rcases hc with rfl|rfl|rfl|rfl|rfl
    ·exact Ry _ _
    ·exact Ry _ _
    ·exact Ry _ _
    ·exact Py _
    ·exact Ry _ _
   exact I1.fpOk hge (I1.hok.fresh hge)
section
variable {X:Cx} {pins:List (Addr × Obj)} {σ:St} {H:Hp} {s:Shared} {p:Addr}
theorem Inv.swap{a b:HO}(I:Inv X pins σ H s)(hp:H p=some a)(ha:(∀ x,a ≠ .own x)∧∀ xs,a ≠ .tup xs)(h1:∀ xs,X.H₀ p≠some (.tup xs))(h2:∀ o u,X.H₀ p≠some (.frz o u))(h3:∀ ps,X.H₀ p≠some (.tbl ps))
  (new:C1 X.prog X.w H s.heap p b):Inv X pins σ (upd H p b) s:=by
 have ne:∀{c:Addr},H c=none→c≠p:=fun{c} q z=>by subst z;rw[hp]at q;cases q
 have st:∀{c:Addr} {o:HO},C1 X.prog X.w H s.heap c o→C1 X.prog X.w (upd H p b) s.heap c o:=fun{c o} x =>
  x.stay (fun _ _ _ q=>q) (fun d q=>by
   have:d≠p:=by intro z;subst z;rw[hp]at q;cases q;exact ha.1 _ rfl
   rw[g9 this];exact q) fun d xs q=>by
   have:d≠p:=by intro z;subst z;rw[hp]at q;cases q;exact ha.2 _ rfl
   rw[g9 this];exact q
 refine⟨I.ok,I.os,I.bare,⟨I.base.keep,I.base.slot,fun c o e n x=>?_,I.base.there,fun c xs q=>?_,fun c o u q=>?_,fun c ps q=>?_⟩,I.loc,I.cell,?_,fun x c e=>?_,fun q hq=>?_,fun c o q=>?_,I.len⟩
 ·have:=I.base.free c o e n x
  rw[g9 (ne this)];exact this
 ·have:c≠p:=by intro z;subst z;exact h1 xs q
  rw[g9 this];exact I.base.tups c xs q
 ·have:c≠p:=by intro z;subst z;exact h2 o u q
  rw[g9 this];exact I.base.frzs c o u q
 ·have:c≠p:=by intro z;subst z;exact h3 ps q
  rw[g9 this];exact I.base.tbls c ps q
 ·rw[g9 (ne I.free)];exact I.free
 ·rw[g9 (ne (I.freeC x c e))];exact I.freeC x c e
 ·obtain⟨a1,a2,a3,a4,a5⟩:=I.pin q hq
  exact⟨a1,by rw[g9 (ne a2)];exact a2,a3,a4,a5⟩
 ·by_cases z:c=p
  ·subst z;rw[j4]at q;cases q;exact st new
  ·rw[g9 z]at q;exact st (I.hok c o q)
theorem Inv.freeze{xs:List V}(I:Inv X pins σ H s)(hp:H p=some (.lst xs)):∃ o,Inv X pins σ (upd H p (.frz o (.lst xs))) s:=by
 have k:=I.hok p _ hp
 obtain⟨z,its,n,r,e⟩:=id k
 refine⟨_,I.swap hp ⟨fun _ q=>(nomatch q),fun _ q=>(nomatch q)⟩ (fun ys q=>?_) (fun o u q=>?_) (fun ps q=>?_) ⟨e,k⟩⟩
 ·rw[I.base.tups p ys q]at hp;cases hp
 ·rw[I.base.frzs p o u q]at hp;cases hp
 ·obtain⟨more,q⟩:=I.base.tbls p ps q;rw[q]at hp;cases hp
structure Ga(X:Cx)(p:Addr):Prop where
 t:∀ xs,X.H₀ p≠some (.tup xs)
 f:∀ o u,X.H₀ p≠some (.frz o u)
 b:∀ ps,X.H₀ p≠some (.tbl ps)
theorem Inv.loose{xs:List V}(I:Inv X pins σ H s)(hp:H p=some (.lst xs)):Ga X p :=
 ⟨fun ys q=>(by rw[I.base.tups p ys q]at hp;cases hp),fun o u q=>(by rw[I.base.frzs p o u q]at hp;cases hp),fun ps q=>(by obtain⟨more,q⟩:=I.base.tbls p ps q;rw[q]at hp;cases hp)⟩
def JC(t:TE):TE:=fun σ H Q=>t σ H fun v H1=>∃ p xs,v = .ref p∧H1 p=some (.lst xs)∧∀ o,Q v (upd H1 p (.frz o (.lst xs)))
theorem gk{x:Expr}{t:TE}(h:PE X x t):PE X x (JC t):=fun pins s σ H Q I q =>
 wpAny_mono (h pins s σ H _ I q) (fun u s1 zz=>by
  obtain⟨v,H1,I1,r,p,xs,e,hp,q1⟩:=zz
  obtain⟨o,I2⟩:=I1.freeze hp
  exact⟨v,_,I2,r,q1 o⟩) fun _ _ z=>z
theorem GX{i:Nat}{y:Str}{pos':Pos}{x:Expr}{t:TE}(h:PU X i y pos' x t):PU X i y pos' x (JC t):=fun pins s σ H Q I q =>
 wpAny_mono (h pins s σ H _ I q) (fun u s1 zz=>by
  obtain⟨v,H1,I1,p,xs,e,hp,q1⟩:=zz
  obtain⟨o,I2⟩:=I1.freeze hp
  exact⟨v,_,I2,q1 o⟩) fun _ _ z=>z
def Jz(t:TE):TE:=fun σ H Q=>t σ H fun v H1=>(∃ p xs,v = .ref p∧H1 p=some (.lst xs)∧∀ o,Q v (upd H1 p (.frz o (.lst xs))))∨Q v H1
theorem CO{x:Expr}{t:TE}(h:PE X x t):PE X x (Jz t):=fun pins s σ H Q I q =>
 wpAny_mono (h pins s σ H _ I q) (fun u s1 zz=>by
  obtain⟨v,H1,I1,r,z⟩:=zz
  rcases z with⟨p,xs,e,hp,q1⟩|q1
  ·obtain⟨o,I2⟩:=I1.freeze hp
   exact⟨v,_,I2,r,q1 o⟩
  ·exact⟨v,H1,I1,r,q1⟩) fun _ _ z=>z
noncomputable def bN(p:Addr)(xs:List V):HO:=.ext fun h=>xs.length≤sizeLine∧∃(its:List Value) (n:Nat),j0 xs its∧h.get? p=some { cls:=.type "list",data:=.seq its.toArray n }
theorem Inv.hide{xs:List V}(I:Inv X pins σ H s)(hp:H p=some (.lst xs)):Inv X pins σ (upd H p (bN p xs)) s:=by
 have k:=I.hok p _ hp
 have l:=I.loose hp
 obtain⟨z,its,n,r,e⟩:=id k
 exact I.swap hp ⟨fun _ q=>(nomatch q),fun _ q=>(nomatch q)⟩ l.t l.f l.b ⟨⟨z,its,n,r,e⟩,⟨_,e⟩,fun h1 h2 ⟨z,its,n,r,e⟩ k=>⟨z,its,n,r,k _ e⟩⟩
theorem Inv.show'{xs:List V}(I:Inv X pins σ H s)(l:Ga X p)(hp:H p=some (bN p xs)):Inv X pins σ (upd H p (.lst xs)) s:=by
 obtain⟨k,_,_⟩:=I.hok p _ hp
 exact I.swap hp ⟨fun _ q=>(nomatch q),fun _ q=>(nomatch q)⟩ l.t l.f l.b k
def xU(p:Addr)(t:TE):TE:=fun σ H Q=>∃ xs,H p=some (.lst xs)∧t σ (upd H p (bN p xs)) fun v H1=>H1 p=some (bN p xs)∧Q v (upd H1 p (.lst xs))
theorem uf{x:Expr}{t:TE}(h:PE X x t):PE X x fun σ H Q=>∃ p,xU p t σ H Q:=fun pins s σ H Q I ⟨p,xs,hp,q⟩ =>
 wpAny_mono (h pins s σ _ _ (I.hide hp) q) (fun u s1 ⟨v,H1,I2,r,hp1,q1⟩=>⟨v,_,I2.show' (I.loose hp) hp1,r,q1⟩) fun _ _ z=>z
def xS(p:Addr)(t:TT):TT:=fun σ H Q=>∃ xs,H p=some (.lst xs)∧t σ (upd H p (bN p xs)) fun v H1=>H1 p=some (bN p xs)∧Q v (upd H1 p (.lst xs))
theorem jl{ifs:List Expr}{t:TT}(h:cJ X ifs t):cJ X ifs fun σ H Q=>∃ p,xS p t σ H Q:=fun pins s σ H Q I ⟨p,xs,hp,q⟩ =>
 wpAny_mono (h pins s σ _ _ (I.hide hp) q) (fun u s1 ⟨H1,I2,hp1,q1⟩=>⟨_,I2.show' (I.loose hp) hp1,q1⟩) fun _ _ z=>z
def xT(p:Addr)(g:TG):TG:=fun v σ H Q=>∃ xs,H p=some (.lst xs)∧g v σ (upd H p (bN p xs)) fun σ1 H1=>H1 p=some (bN p xs)∧Q σ1 (upd H1 p (.lst xs))
theorem ue{tg:Expr}{g:TG}(h:PG X tg g):PG X tg fun v σ H Q=>∃ p,xT p g v σ H Q:=fun pins s σ H v u Q I r ⟨p,xs,hp,q⟩ =>
 wpAny_mono (h pins s σ _ v u _ (I.hide hp) r q) (fun u s1 ⟨σ1,H1,I2,hp1,q1⟩=>⟨σ1,_,I2.show' (I.loose hp) hp1,q1⟩) fun _ _ z=>z
end
section
variable {X:Cx} {pos:Pos}
end
section
variable {X:Cx} {e:Expr} {te:TE} {st:Expr} {ts:TO} {pos p2:Pos}
end
section
variable {prog:Program} {w:World} {A:Around} {E:Value→Shared→Prop} {s:Shared}
end
section
variable {X:Cx}
end
section
variable {X:Cx}
end
section
variable {prog:Program} {w:World} {A:Around} {E:Value→Shared→Prop} {s:Shared}
end
section
variable {prog:Program} {w:World} {A:Around} {E:Value→Shared→Prop} {s:Shared}
end
section
variable {X:Cx}
end
section
variable {prog:Program} {w:World} {A:Around} {E:Value→Shared→Prop} {s:Shared}
end
section
variable {X:Cx}
end
section
variable {prog:Program} {w:World} {A:Around} {E:Value→Shared→Prop} {s:Shared}
theorem uo{h h2:Heap}{a b:Addr}{its:Array Value}(x:h.IsList a its)(hs:Heap.ExtBut b h h2)(ne:a≠b):h2.IsList a its:=x.at fun o e=>hs a o ne e
theorem pD{it l:Addr}{its:Array Value}(hne:l≠it):∀(n i:Nat) (s:Shared) (Q:List Value→Shared→Prop),s.heap.IsListIter it l i→s.heap.IsList l its→i+n≤its.size →
  (∀ h2,h2.IsListIter it l (i+n)→Heap.SameBut it s.heap h2→Q ((its.toList.drop i).take n) { s with heap:=h2 })→wpAny (model prog w) A (draw (.ref it) n) Q E s
 | 0,i,s,Q,hi,_,_,k=>by
  show wpAny _ _ (pure []) Q E s
  refine PD ?_
  simpa using k s.heap hi (Heap.SameBut.refl ..)
 | n+1,i,s,Q,hi,hl,hle,k=>by
  have lt:i<its.size:=by omega
  show wpAny _ _ (pyNext (.ref it) >>= _) Q E s
  refine Ph (wpAny_pyNext_list_item hi hl (x:=its[i]) (by simp[lt]) fun h1 hi1 hs1=>Ph (wpAny_holding ?_))
  refine pD hne n (i+1) _ _ hi1 (uo hl hs1.extBut hne) (by omega) fun h2 hi2 hs2=>PD ?_
  have e:its.toList.drop i=its[i] :: its.toList.drop (i+1):=by simp[SD,lt]
  have z:=k h2 (by rw[show i+(n+1)=i+1+n by omega];exact hi2) (hs1.trans hs2)
  rw[e,So]at z
  exact z
theorem qi{l:Addr}{its:Array Value}{ts:List (Bool × (Value→Sem Unit))}{Q:Unit→Shared→Prop}(hh:A.handled=none)(hl:s.heap.IsList l its)(hn:ts.length=its.size)(hst:ts.findIdx? (·.1)=none)
  (k:∀ h2,Heap.ExtBut s.heap.objs.size s.heap h2→wpAny (model prog w) A (assignInOrder (ts.map (·.2)) its.toList) Q E { s with heap:=h2 }):wpAny (model prog w) A (unpack (.ref l) ts) Q E s:=by
 have ne:l≠s.heap.objs.size:=by obtain⟨o,ho,_⟩:=hl;exact Qi (Pz ho)
 unfold unpack
 rw[hn,hst]
 refine Ph (wpAny_holding ?_)
 unfold unpackItems
 refine Ph ?_
 unfold notIterableAtAll
 refine Ph (wpAny_specialOf hl.typeIs F.slot_list_iter.lookup (PD ?_))
 simp only[RI,if_false]
 refine Ph (wpAny_holding (wpAny_pyIter_list hl ?_))
 refine Ph (wpAny_holding (pD ne its.size 0 _ _ ⟨_,PK _ rfl,rfl,rfl⟩ (hl.at fun o e=>Pl _ e) (by omega) fun h1 hi1 hs1=>?_))
 have all:List.take its.size (List.drop 0 its.toList)=its.toList:=by
  rw[UH];exact QI (by simp)
 rw[all,if_neg (by simp)]
 have hl1:h1.IsList l its:=uo (hl.at fun o e=>Pl _ e) hs1.extBut ne
 refine Ph (wpAny_holding (wpAny_pyNext_list_end hh hi1 hl1 (by simp) fun h2 he=>?_))
 simp only[Option.isSome_none,RI,if_false]
 exact PD (k h2 fun b o hb e=>he b o hb (hs1.extBut b o hb (Pl _ e)))
end
section
variable {X:Cx} {pos:Pos}
def HU(K:Pg)(n:Nat)(t:TGs):TG:=fun v σ H Q=>∃ a xs,v = .ref a∧SqL K H a xs∧xs.length=n∧t xs σ H Q
theorem CL{es:List Expr}{k:Nat}{t:TGs}{n:Nat}(hc:X.calm=true)(h:PGs X es t)(hn:(assignEach es X.env).length=n:=by rfl)
  (hst:(assignEach es X.env).findIdx? (·.1)=none:=by rfl):PG X (.Tuple es k pos) (HU X.K n t):=by
 intro pins s σ H v u Q I r hw
 obtain⟨a,xs,e1,hq,hl,hw⟩:=hw
 subst e1
 cases r
 obtain⟨its,rv,ht,hz⟩:=I.list hq
 rw[assign_Tuple]
 refine Ph (wpAny_standAt (qi (I.ok.hd hc) ht.isList (by simp[hn,← hl,rv.length]) hst fun h2 hx=>?_))
 have I1:Inv X pins σ H { s with heap:=h2 }:=I.kept (t':=s.toks) fun b o e=>hx b o (Qi (Pz e)) e
 exact h pins _ σ H xs _ Q I1 (by simpa using rv) hw
end
section
variable {X:Cx}
end
section
variable {prog:Program} {w:World} {A:Around} {E:Value→Shared→Prop} {s:Shared}
end
end L2
namespace L2
open PySem
section
variable {prog:Program} {w:World} {A:Around} {E:Value→Shared→Prop} {s:Shared}
theorem Aj{k:Bool}{e p l:Addr}{n:Nat}{xs:Array Value}{v old:Value}{Q:Option Value→Shared→Prop}(ie:IsEnum s.heap e p n old)(g:SI k s.heap p l n)(m:SS k s.heap l xs)(hv:xs[n]? = some v)(hne:e≠p)
  (q:∀ h',IsEnumOut h' e p ((n:Int)+1) v s.heap.objs.size→SI k h' p l (n+1)→h'.get? s.heap.objs.size=some { cls:=.type "tuple",data:=.seq #[.int n s.toks,v] }→h'.objs.size=s.heap.objs.size+1 →
   (∀ b o,b≠e→b≠p→s.heap.get? b=some o→h'.get? b=some o)→Q (some (.ref s.heap.objs.size)) { s with heap:=h',toks:=s.toks+1 }):wpAny (model prog w) A (pyNext (.ref e)) Q E s:=by
 have ty:s.TypeIs (.ref e) "enumerate" := ⟨_,ie,rfl⟩
 unfold pyNext
 refine Ph (wpAny_attempt (wpAny_callSpecial?_slot (name:=Str.ofString "__next__") ty F.slot_enumerate_next (wpAny_call_entry F.slot_enumerate_next ty F.entry_enumerate_next ?_ (F.args_enumerate_next_1 _))))
 obtain⟨hp,gs,dr,tk,os⟩:=s
 show wpAny _ _ (field (.ref e) 2 >>= _) _ _ _
 refine Ph (wpAny_field ie rfl (x:=.ref p) rfl (Ph (dO g m hv fun ha ga sa=>?_)))
 replace sa:Heap.SameBut p hp ha:=sa
 have ea:IsEnum ha e p n old:=(sa.2 e hne).trans ie
 show wpAny _ _ (field (.ref e) 3 >>= _) _ _ ⟨ha,gs,dr,tk,os⟩
 refine Ph (wpAny_field ea rfl (x:=rawInt n) rfl ?_)
 show wpAny _ _ (field (.ref e) 4 >>= _) _ _ ⟨ha,gs,dr,tk,os⟩
 refine Ph (wpAny_field ea rfl (x:=.none) rfl ?_)
 show wpAny _ _ (mkInt n >>= _) _ _ ⟨ha,gs,dr,tk,os⟩
 refine Ph (wpAny_mkInt ?_)
 show wpAny _ _ (setField (.ref e) 3 (rawInt ((n:Int)+1)) >>= _) _ _ ⟨ha,gs,dr,tk+1,os⟩
 refine Ph (wpAny_setField_rec ea (by simp) fun hb eb sb=>?_)
 replace sb:Heap.SameBut e ha hb:=sb
 replace eb:IsEnum hb e p ((n:Int)+1) old:=eb
 show wpAny _ _ (setField (.ref e) 4 .none >>= _) _ _ ⟨hb,gs,dr,tk+1,os⟩
 refine Ph (wpAny_setField_rec eb (by simp) fun hc ec sc=>?_)
 replace sc:Heap.SameBut e hb hc:=sc
 replace ec:IsEnum hc e p ((n:Int)+1) old:=ec
 show wpAny _ _ (newTuple [.int n tk,v] >>= _) _ _ ⟨hc,gs,dr,tk+1,os⟩
 refine Ph (wpAny_newTuple ?_)
 have zc:hc.objs.size=hp.objs.size:=by rw[sc.1,sb.1,sa.1]
 have ltE:e<hp.objs.size:=Pz ie
 obtain⟨hd,hhd⟩:∃ hd,hd=hc.push { cls:=.type "tuple",data:=.seq #[.int n tk,v] }:=⟨_,rfl⟩
 have ed:IsEnum hd e p ((n:Int)+1) old:=by rw[hhd];exact Pl _ ec
 have td:hd.get? hp.objs.size=some { cls:=.type "tuple",data:=.seq #[.int n tk,v] }:=by rw[hhd,← zc];exact PK _ rfl
 have zd:hd.objs.size=hp.objs.size+1:=by rw[hhd,QK,zc]
 have kd:∀ b o,b≠e→b≠p→hp.get? b=some o→hd.get? b=some o:=fun b o b1 b2 z=>by rw[hhd];exact Pl _ (sc.extBut b o b1 (sb.extBut b o b1 (sa.extBut b o b2 z)))
 have gd:SI k hd p l (n+1):=((ga.but sb.extBut (Ne.symm hne)).but sc.extBut (Ne.symm hne)).at fun o z=>by rw[hhd];exact Pl _ z
 show wpAny _ _ (Builtin.SmallTypes.ownedTupleIsFree (.ref e) >>= _) _ _ ⟨hc.push { cls:=.type "tuple",data:=.seq #[.int n tk,v] },gs,dr,tk+1,os⟩
 rw[← hhd,zc]
 refine Ph ?_;unfold Builtin.SmallTypes.ownedTupleIsFree
 refine Ph (wpAny_field ed rfl (x:=.none) rfl (PD ?_));simp only[if_true]
 refine Ph (wpAny_rule (Ph (wpAny_field ed rfl (x:=old) rfl (Ph (wpAny_setField_rec ed (by simp) fun hf ef sf=>?_)))))
 replace sf:Heap.SameBut e hd hf:=sf
 replace ef:IsEnum hf e p ((n:Int)+1) v:=ef
 show wpAny _ _ (Builtin.SmallTypes.ownedTupleHandOut (.ref e) (.ref hp.objs.size) >>= _) _ _ ⟨hf,gs,dr,tk+1,os⟩
 refine Ph ?_;unfold Builtin.SmallTypes.ownedTupleHandOut
 refine Ph (wpAny_setField_rec ef (by simp) fun hg eg sg=>?_)
 replace sg:Heap.SameBut e hf hg:=sg
 replace eg:IsEnumOut hg e p ((n:Int)+1) v hp.objs.size:=eg
 refine wpAny_setField_rec eg (by simp) fun hh eh sh=>?_
 replace sh:Heap.SameBut e hg hh:=sh
 replace eh:IsEnumOut hh e p ((n:Int)+1) v hp.objs.size:=eh
 refine Ph (wpAny_letGo (PD ⟨_,rfl,PD (q hh eh ?_ ?_ ?_ ?_)⟩))
 ·exact((gd.but sf.extBut (Ne.symm hne)).but sg.extBut (Ne.symm hne)).but sh.extBut (Ne.symm hne)
 ·exact sh.extBut _ _ (QR ltE) (sg.extBut _ _ (QR ltE) (sf.extBut _ _ (QR ltE) td))
 ·show hh.objs.size=hp.objs.size+1
  rw[sh.1,sg.1,sf.1,zd]
 ·exact fun b o b1 b2 z=>sh.extBut b o b1 (sg.extBut b o b1 (sf.extBut b o b1 (kd b o b1 b2 z)))
theorem DM{k:Bool}{e p l:Addr}{n:Nat}{xs:Array Value}{old:Value}{Q:Option Value→Shared→Prop}(hA:A.handled=none)(ie:IsEnum s.heap e p n old)(g:SI k s.heap p l n)(m:SS k s.heap l xs)(hv:xs[n]? = none)
  (q:∀ h',Heap.ExtBut p s.heap h'→Q none { s with heap:=h' }):wpAny (model prog w) A (pyNext (.ref e)) Q E s:=by
 have ty:s.TypeIs (.ref e) "enumerate" := ⟨_,ie,rfl⟩
 unfold pyNext
 refine Ph (wpAny_attempt (wpAny_callSpecial?_slot (name:=Str.ofString "__next__") ty F.slot_enumerate_next (wpAny_call_entry F.slot_enumerate_next ty F.entry_enumerate_next ?_ (F.args_enumerate_next_1 _))))
 show wpAny _ _ (field (.ref e) 2 >>= _) _ _ _
 refine Ph (wpAny_field ie rfl (x:=.ref p) rfl (Ph (qv hA g m hv fun h' x he' zz=>?_)))
 obtain⟨o,ho,hc⟩:=zz
 exact Ph (wpAny_isInstance (T := "StopIteration") (b:=true) ⟨o,ho,hc⟩ isSubtype_stop (PD (q _ he')))
end
set_option maxHeartbeats 2000000 in
theorem Ak(l:Addr)(xs:Array Value)(n:Nat)(dct:Option Addr)(sl:Array (Option Value)) :
  Meets (Builtin.«enumerate.__new__» ⟨[.type "enumerate",.ref l],[]⟩) (fun _ R s=>s.heap.get? l=some { cls:=.type "tuple",dict:=dct,data:=.seq xs n,slots:=sl } ∧
   R (.ok (.ret (.ref (zA false s.heap l).objs.size))) { s with heap:=(zA false s.heap l).push { cls:=.type "enumerate",data:=.fields #[.none,.bool false,.ref s.heap.objs.size,rawInt 0,.none,.none] } }) :=
 .of_wp fun prog w A R s h=>by
  obtain⟨hp,g,d,tk,os⟩:=s
  obtain⟨hl,h⟩:=h
  have hsub:=sub_enumerate
  have hT:Heap.IsTuple (Shared.heap ⟨hp,g,d,tk,os⟩) l xs:=⟨_,hl,rfl,n,rfl⟩
  wp_walk using AutoSeq1.wpAny_loadPart' hl
  refine wpAny_stack_any fun st=>PD ?_
  split
  ·rename_i c _ _ _ _ _
   cases(c == Value.type "enumerate")
   ·wp_walk using AutoSeq1.wpAny_loadPart' hl,wpAny_pyIter_tuple hT
    exact⟨_,rfl,h⟩
   ·wp_walk using AutoSeq1.wpAny_loadPart' hl,wpAny_pyIter_tuple hT
    exact⟨_,rfl,h⟩
  ·wp_walk using AutoSeq1.wpAny_loadPart' hl,wpAny_pyIter_tuple hT
   exact⟨_,rfl,h⟩
section
variable {prog:Program} {w:World} {A:Around} {E:Value→Shared→Prop} {s:Shared}
theorem AK{k:Bool}{l:Addr}{xs:Array Value}{Q:Value→Shared→Prop}(m:SS k s.heap l xs)
  (q:∀ h',IsEnum h' (s.heap.objs.size+1) s.heap.objs.size 0 .none→SI k h' s.heap.objs.size l 0→h'.objs.size=s.heap.objs.size+2→(∀ b o,s.heap.get? b=some o→h'.get? b=some o)→Q (.ref (s.heap.objs.size+1)) { s with heap:=h' }) :
  wpAny (model prog w) A (call (.type "enumerate") [.ref l]) Q E s:=by
 cases k with
 | true=>exact call_enumerate_list m q
 | false =>
  obtain⟨⟨c,dct,dt,sl⟩,hl,hc,n,hd⟩:=m
  simp only at hc hd
  subst hc;subst hd
  refine callType_new F.called_enumerate (by decide) (F.typeCall_enumerate_1 _) (F.newCall_enumerate_1 _) (fun obj=>F.args_object_init_2 obj _) F.entry_enumerate_new (Ak l xs n dct sl) ⟨hl,?_⟩
  have s1:(zA false s.heap l).objs.size=s.heap.objs.size+1:=QK ..
  have o1:((zA false s.heap l).push { cls:=.type "enumerate",data:=.fields #[.none,.bool false,.ref s.heap.objs.size,rawInt 0,.none,.none] }).get? (zA false s.heap l).objs.size=some _:=PK _ rfl
  show _∧_
  rw[s1]at o1 ⊢
  exact⟨⟨_,o1,rfl⟩,q _ o1 ⟨_,Pl _ (PK _ rfl),rfl,rfl⟩ (by rw[QK,s1]) fun b o e=>Pl _ (Pl _ e)⟩
end
end L2
namespace L2
open PySem PySem.Spec PyProof.Rows
noncomputable def Ite(K:Pg)(k:Bool)(l:Addr):It :=
 ⟨fun i H=>∃ xs x,SqK K k H l xs∧xs[i]? = some x,
  fun i H v H'=>∃ T x,H T=none∧v = .ref T∧H'=upd H T (.tup [.int i,x])∧∀ xs,SqK K k H l xs→xs[i]? = some x,
  fun i H=>∃ xs,SqK K k H l xs∧xs.length≤i⟩
def IJ(k:Bool)(e p l:Addr)(i:Nat)(h:Heap):Prop:=(∃ old,IsEnum h e p i old)∧SI k h p l i
theorem vj{P:Program}{w:World}{K:Pg}{elts:List Expr}{kx:Nat}{tp:Pos}{k:Bool}{e p l:Addr}(hne:e≠p):rM P w K (.Tuple elts kx tp) (Ite K k l) [e,p] e (IJ k e p l) where
 mem:=by simp
 obj:=fun i h ⟨⟨old,ie⟩,g⟩ c hc=>by
  simp only[Pn,Qb,or_false]at hc
  rcases hc with rfl|rfl
  ·exact⟨_,ie,fun v z=>by cases z⟩
  ·exact g.obj
 keep:=fun i h h' ⟨⟨old,ie⟩,g⟩ kk=>⟨⟨old,kk e (by simp) _ ie⟩,g.at fun o z=>kk p (by simp) o z⟩
 item:=by
  intro X hP hw hK hc i pins s σ H E I hf st hg
  subst hP hw hK
  obtain⟨⟨old,ie⟩,g⟩:=st
  obtain⟨xs,x,q1,hx⟩:=hg
  obtain⟨is1,r1,m1⟩:=I.sqk q1
  obtain⟨u1,hu1,ru1⟩:=r1.get hx
  refine Aj ie g m1 (v:=u1) (by simpa using hu1) hne fun h' a1 a2 a3 a4 kk=>?_
  refine⟨_,rfl,?_⟩
  refine wpAny_letOwnedTupleGo_enum (s:={ s with heap:=h',toks:=s.toks+1 }) a1 fun h2 b1 b2=>?_
  have lt:∀{c o},s.heap.get? c=some o→c≠s.heap.objs.size:=fun z=>Qi (Pz z)
  have I1:Inv X pins σ (upd H s.heap.objs.size (.tup [.int i,x])) { s with heap:=s.heap.push { cls:=.type "tuple",data:=.seq #[.int i s.toks,u1] },toks:=s.toks+1 } :=
   I.laid (o:=.tup [.int i,x]) (fun b ob q=>Pl _ q) (Py _) ⟨(show 2≤sizeLine by decide),[.int i s.toks,u1],.cons ⟨_,rfl⟩ (.cons ru1 .nil),IsTup.new _ _⟩
  have nfp:∀ c∈[e,p],c≠s.heap.objs.size:=fun c hc=>by
   simp only[Pn,Qb,or_false]at hc
   rcases hc with rfl|rfl
   ·exact lt ie
   ·obtain⟨o,z,_⟩:=g.obj;exact lt z
  have hf':∀ c∈[e,p],aN X pins (upd H s.heap.objs.size (.tup [.int i,x])) c:=fun c hc=>by
   obtain⟨f0,f1⟩:=hf c hc
   exact⟨by rw[g9 (nfp c hc)];exact f0,f1⟩
  have I2:Inv X pins σ (upd H s.heap.objs.size (.tup [.int i,x])) { s with heap:=h2,toks:=s.toks+1 }:=by
   refine Inv.turnedN (s:={ s with heap:=s.heap.push { cls:=.type "tuple",data:=.seq #[.int i s.toks,u1] },toks:=s.toks+1 }) (t':=s.toks+1) (h':=h2) (ch:=[e,p]) I1 (fun c o hcn z=>?_) hf'
   simp only[Pn,Qb,or_false,not_or]at hcn
   obtain⟨n1,n2⟩:=hcn
   refine b2.extBut c o n1 ?_
   have z':(s.heap.push { cls:=.type "tuple",data:=.seq #[.int i s.toks,u1] }).get? c=some o:=z
   by_cases hcs:c=s.heap.objs.size
   ·subst hcs
    rw[PK _ rfl]at z'
    cases z'
    exact a3
   ·rw[Uc _ _ _ hcs]at z'
    exact kk c o n1 n2 z'
  refine⟨.ref s.heap.objs.size,_,I2,rfl,⟨_,x,I.hok.fresh (Py _),rfl,rfl,fun zs hz=>by rw[I.sqk_inj hz q1];exact hx⟩,?_,fun c hc=>(hf' c hc).1⟩
  have ec:((i+1:Nat):Int)=(i:Int)+1:=by omega
  exact⟨⟨u1,by rw[ec];exact b1⟩,a2.at fun o z=>b2.extBut p o (Ne.symm hne) z⟩
 done:=by
  intro X hP hw hK hc i pins s σ H E I hf st hg
  subst hP hw hK
  obtain⟨⟨old,ie⟩,g⟩:=st
  obtain⟨xs,q1,hx⟩:=hg
  obtain⟨is1,r1,m1⟩:=I.sqk q1
  have e1:=r1.length
  refine DM (I.ok.hd hc) ie g m1 (by simp;omega) fun h' kk=>⟨rfl,?_⟩
  refine I.turnedN (t':=s.toks) (ch:=[e,p]) (fun c o hcn z=>?_) hf
  simp only[Pn,Qb,or_false,not_or]at hcn
  exact kk c o hcn.2 z
 self:=fun _ _ _ _ _ st h=>let ⟨⟨_,ie⟩,_⟩:=st;wpAny_pyIter_enum ie h
def KG(K:Pg)(ta:TA):TI:=fun σ H R=>ta σ H fun vs H1=>∃ k l,vs=[.ref l]∧(∃ xs,SqK K k H1 l xs)∧R (Ite K k l) H1
theorem CJ{X:Cx}{elts:List Expr}{kx:Nat}{tp:Pos}{a:Expr}{ta:TA}{p pos:Pos}(hg:Gl X "enumerate")(hm:X.mg "enumerate" = none)(ha:PA X [a] ta)(hs:starEach [a] X.env=[(false,eval a X.env)]:=by rfl) :
  PI X (.Tuple elts kx tp) (.Call (.Name "enumerate" p) [a] [] pos) (KG X.K ta):=by
 intro pins s σ H R I h
 refine Call_ (aD I hg hm PyProof.Rows.boot_enumerate (PyProof.Rows.callWith_type1 (thn (ha pos pins s σ H _ I h) fun us s1 ⟨vs,H1,I1,r1,q1⟩=>?_) hs rfl))
 obtain⟨k,l,e,⟨xs,q2⟩,q⟩:=q1
 subst e
 cases r1 with
 | cons r rr =>
  cases rr
  cases r
  obtain⟨is1,_,m1⟩:=I1.sqk q2
  refine AK m1 fun h' a1 a2 a3 kk=>?_
  refine wpAny_pyIter_enum (s:={ s1 with heap:=h' }) a1 ?_
  refine⟨s1.heap.objs.size+1,_,_,_,H1,rfl,I1.kept (t':=s1.toks) kk,vj (Nat.succ_ne_self _),⟨⟨_,a1⟩,a2⟩,fun c hc=>?_,q⟩
  have hge:s1.heap.objs.size≤c:=by
   simp only[Pn,Qb,or_false]at hc
   rcases hc with rfl|rfl
   ·exact Ry _ _
   ·exact Py _
  exact I1.fpOk hge (I1.hok.fresh hge)
end L2
namespace L2
open PySem
theorem PE.imp{X:Cx}{x:Expr}{t t':TE}(h:PE X x t)(i:∀ σ H Q,t' σ H Q→t σ H Q):PE X x t':=fun pins s σ H Q I q=>h pins s σ H Q I (i σ H Q q)
theorem PT.imp{X:Cx}{x:Expr}{t t':TT}(h:PT X x t)(i:∀ σ H Q,t' σ H Q→t σ H Q):PT X x t':=fun pins s σ H Q I q=>h pins s σ H Q I (i σ H Q q)
theorem PW.imp{X:Cx}{x:Expr}{t t':TT}(h:PW X x t)(i:∀ σ H Q,t' σ H Q→t σ H Q):PW X x t':=fun wh pins s σ H Q I q=>h wh pins s σ H Q I (i σ H Q q)
theorem PA.imp{X:Cx}{x:List Expr}{t t':TA}(h:PA X x t)(i:∀ σ H Q,t' σ H Q→t σ H Q):PA X x t':=fun pos pins s σ H Q I q=>h pos pins s σ H Q I (i σ H Q q)
theorem PS.imp{X:Cx}{x:Stmt}{t t':TS}(h:PS X x t)(i:∀ E σ H,t' E σ H→t E σ H):PS X x t':=fun pins s σ H D I q=>h pins s σ H D I (i D σ H q)
theorem PSs.imp{X:Cx}{x:List Stmt}{t t':TS}(h:PSs X x t)(i:∀ E σ H,t' E σ H→t E σ H):PSs X x t':=fun pins s σ H D I q=>h pins s σ H D I (i D σ H q)
theorem OpR.imp{X:Cx}{f:Value→Value→Sem Value}{r r':R2}(h:OpR X f r)(i:∀ x y H Q,r' x y H Q→r x y H Q):OpR X f r':=fun pins s σ H x y v u Q I rx ry q=>h pins s σ H x y v u Q I rx ry (i x y H Q q)
theorem IxR.imp{X:Cx}{r r':R2}(h:IxR X r)(i:∀ x y H Q,r' x y H Q→r x y H Q):IxR X r':=fun va sl pins s σ H x y v u Q I rx ry q=>h va sl pins s σ H x y v u Q I rx ry (i x y H Q q)
theorem PG.imp{X:Cx}{x:Expr}{t t':TG}(h:PG X x t)(i:∀ v σ H Q,t' v σ H Q→t v σ H Q):PG X x t':=fun pins s σ H v u Q I r q=>h pins s σ H v u Q I r (i v σ H Q q)
theorem PGs.imp{X:Cx}{x:List Expr}{t t':TGs}(h:PGs X x t)(i:∀ v σ H Q,t' v σ H Q→t v σ H Q):PGs X x t':=fun pins s σ H v u Q I r q=>h pins s σ H v u Q I r (i v σ H Q q)
end L2
namespace DL
open PySem PySem.Spec L2
open PyProof.Rows hiding St
inductive D where
 | non|bl (b:Bool)|int (i:Int)|str (x:Str)|ref (a:Addr)|tup (ds:List D)|vl (ds:List D)|ty (n:String)|dic|exc (c:Str)
def KL(K:Pg)(a:Addr)(xs:List V):Prop:=∀ H:Hp,SqL K H a xs
mutual
inductive Has (K:Pg) (H:Hp):V→D→Prop
 | non:Has K H .non .non
 | bl (b:Bool):Has K H (.bl b) (.bl b)
 | int (i:Int):Has K H (.int i) (.int i)
 | str (x:Str):Has K H (.str x) (.str x)
 | ref (a:Addr):Has K H (.ref a) (.ref a)
 | ty (n:String):Has K H (.ty n) (.ty n)
 | tup {a:Addr} {xs:List V} {ds:List D}:SqT K H a xs→HasL K H xs ds→Has K H (.ref a) (.tup ds)
 | vl {a:Addr} {xs:List V} {ds:List D}:((∃ o,H a=some (.frz o (.lst xs)))∨KL K a xs)→HasL K H xs ds→Has K H (.ref a) (.vl ds)
 | dic {a:Addr}:(∃ o:Obj,H a=some (.frz o (.own 0))∧o.cls = .type "dict")→Has K H (.ref a) .dic
 | exc {a:Addr} {c:Str}:(∃(o:Obj) (C:Addr),H a=some (.frz o (.own 0))∧o.cls = .ref C∧PySem.W.nsIn K mainGlobals c=some (some (.ref C)))→Has K H (.ref a) (.exc c)
inductive HasL (K:Pg) (H:Hp):List V→List D→Prop
 | nil:HasL K H [] []
 | cons {v:V} {d:D} {vs:List V} {ds:List D}:Has K H v d→HasL K H vs ds→HasL K H (v :: vs) (d :: ds)
end
structure KT0(H H':Hp):Prop where
 tp:∀ a xs,Rd H a (.tup xs)→Rd H' a (.tup xs)
 fz:∀ a o u,H a=some (.frz o u)→H' a=some (.frz o u)
structure KT(H H':Hp):Prop extends KT0 H H' where
 ex:∀ a φ,H a=some (.ext φ)→H' a=some (.ext φ)
theorem KT.refl(H:Hp):KT H H:=⟨⟨fun _ _ h=>h,fun _ _ _ h=>h⟩,fun _ _ h=>h⟩
theorem KT.trans{H H1 H2:Hp}(a:KT H H1)(b:KT H1 H2):KT H H2:=⟨⟨fun p xs h=>b.tp p xs (a.tp p xs h),fun p o xs h=>b.fz p o xs (a.fz p o xs h)⟩,fun p φ h=>b.ex p φ (a.ex p φ h)⟩
theorem KT0.sq{K:Pg}{H H':Hp}(k:KT0 H H'){a:Addr}{xs:List V}(h:SqT K H a xs):SqT K H' a xs:=h.elim (fun z=>.inl (k.tp a xs z)) .inr
theorem KT.sq{K:Pg}{H H':Hp}(k:KT H H'){a:Addr}{xs:List V}(h:SqT K H a xs):SqT K H' a xs:=k.toKT0.sq h
theorem KT0.at{H:Hp}{p:Addr}{o:HO}(h1:∀ xs,¬ Rd H p (.tup xs))(h2:∀ q u,H p≠some (.frz q u)):KT0 H (upd H p o) where
 tp:=fun a xs r=>by
  have hn:a≠p:=by intro e;subst e;exact h1 xs r
  rcases r with r|⟨q,r⟩
  ·exact .inl (by rw[g9 hn];exact r)
  ·exact .inr ⟨q,by rw[g9 hn];exact r⟩
 fz:=fun a q xs r=>by
  have hn:a≠p:=by intro e;subst e;exact h2 q xs r
  rw[g9 hn];exact r
theorem KT.at{H:Hp}{p:Addr}{o:HO}(h1:∀ xs,¬ Rd H p (.tup xs))(h2:∀ q u,H p≠some (.frz q u))(h3:∀ φ,H p≠some (.ext φ)):KT H (upd H p o):=⟨KT0.at h1 h2,fun a φ r=>by
  have hn:a≠p:=by intro e;subst e;exact h3 φ r
  rw[g9 hn];exact r⟩
theorem KT.alloc{H:Hp}{p:Addr}{o:HO}(h:H p=none):KT H (upd H p o):=KT.at (fun xs r=>by rcases r with r|⟨_,r⟩<;>(rw[h]at r;cases r)) (fun q xs r=>by rw[h]at r;cases r) fun φ r=>by rw[h]at r;cases r
theorem KT.any{H:Hp}{p:Addr}{xs:List V}{o:HO}(h:H p=some (.lst xs)):KT H (upd H p o):=KT.at (fun xs r=>by rcases r with r|⟨_,r⟩<;>(rw[h]at r;cases r)) (fun q xs r=>by rw[h]at r;cases r) fun φ r=>by rw[h]at r;cases r
theorem KT.write{H:Hp}{p:Addr}{xs ys:List V}(h:H p=some (.lst xs)):KT H (upd H p (.lst ys)):=KT.any h
theorem KT0.ext{H:Hp}{p:Addr}{φ:Heap→Prop}{o:HO}(h:H p=some (.ext φ)):KT0 H (upd H p o):=KT0.at (fun xs r=>by rcases r with r|⟨_,r⟩<;>(rw[h]at r;cases r)) fun q xs r=>by rw[h]at r;cases r
theorem KT.new{H H':Hp}{p:Addr}{o:HO}(k:KT H H')(h:H p=none):KT H (upd H' p o) where
 tp:=fun a xs r=>by
  have hn:a≠p:=by intro e;subst e;rcases r with r|⟨_,r⟩<;>(rw[h]at r;cases r)
  rcases k.tp a xs r with r|⟨q,r⟩
  ·exact .inl (by rw[g9 hn];exact r)
  ·exact .inr ⟨q,by rw[g9 hn];exact r⟩
 fz:=fun a q xs r=>by
  have hn:a≠p:=by intro e;subst e;rw[h]at r;cases r
  rw[g9 hn];exact k.fz a q xs r
 ex:=fun a φ r=>by
  have hn:a≠p:=by intro e;subst e;rw[h]at r;cases r
  rw[g9 hn];exact k.ex a φ r
mutual
theorem Has.mono0{K:Pg}{H H':Hp}(k:KT0 H H'):∀{v:V} {d:D},Has K H v d→Has K H' v d
 | _,_,.non=>.non
 | _,_,.bl b=>.bl b
 | _,_,.int i=>.int i
 | _,_,.str x=>.str x
 | _,_,.ref a=>.ref a
 | _,_,.ty n=>.ty n
 | _,_,.tup s l=>.tup (k.sq s) (HasL.mono0 k l)
 | _,_,.vl h l=>.vl (h.elim (fun⟨o,e⟩=>.inl ⟨o,k.fz _ _ _ e⟩) .inr) (HasL.mono0 k l)
 | _,_,.dic h=>.dic (let ⟨o,e,c⟩:=h;⟨o,k.fz _ _ _ e,c⟩)
 | _,_,.exc h=>.exc (let ⟨o,C,e,c⟩:=h;⟨o,C,k.fz _ _ _ e,c⟩)
theorem HasL.mono0{K:Pg}{H H':Hp}(k:KT0 H H'):∀{v:List V} {d:List D},HasL K H v d→HasL K H' v d
 | _,_,.nil=>.nil
 | _,_,.cons a b=>.cons (Has.mono0 k a) (HasL.mono0 k b)
end
theorem Has.mono{K:Pg}{H H':Hp}(k:KT H H'){v:V}{d:D}(h:Has K H v d):Has K H' v d:=h.mono0 k.toKT0
theorem HasL.mono{K:Pg}{H H':Hp}(k:KT H H'){v:List V}{d:List D}(h:HasL K H v d):HasL K H' v d:=h.mono0 k.toKT0
section
variable {K:Pg} {H H':Hp}
theorem HasL.length:∀{vs:List V} {ds:List D},HasL K H vs ds→vs.length=ds.length
 | _,_,.nil=>rfl
 | _,_,.cons _ b=>congrArg Nat.succ (HasL.length b)
theorem HasL.get:∀{vs:List V} {ds:List D} {i:Nat} {d:D},HasL K H vs ds→ds[i]? = some d→∃ v,vs[i]? = some v∧Has K H v d
 | _,_,_,_,.nil,e=>by simp at e
 | _,_,0,_,.cons a _,e=>by simp at e;subst e;exact⟨_,rfl,a⟩
 | _,_,i+1,d,.cons _ b,e=>by
  obtain⟨v,h1,h2⟩:=HasL.get (i:=i) (d:=d) b (by simpa using e)
  exact⟨v,by simpa using h1,h2⟩
theorem HasL.getV:∀{vs:List V} {ds:List D} {i:Nat} {v:V},HasL K H vs ds→vs[i]? = some v→∃ d,ds[i]? = some d∧Has K H v d
 | _,_,_,_,.nil,e=>by simp at e
 | _,_,0,_,.cons a _,e=>by simp at e;subst e;exact⟨_,rfl,a⟩
 | _,_,i+1,d,.cons _ b,e=>by
  obtain⟨v,h1,h2⟩:=HasL.getV (i:=i) (v:=d) b (by simpa using e)
  exact⟨v,by simpa using h1,h2⟩
theorem HasL.set{v:V}{d:D}(r:Has K H v d):∀{vs:List V} {ds:List D} (i:Nat),HasL K H vs ds→HasL K H (vs.set i v) (ds.set i d)
 | _,_,_,.nil=>.nil
 | _,_,0,.cons _ t=>.cons r t
 | _,_,i+1,.cons q t=>.cons q (HasL.set r i t)
theorem HasL.append:∀{xs ys:List V} {us ws:List D},HasL K H xs us→HasL K H ys ws→HasL K H (xs++ys) (us++ws)
 | _,_,_,_,.nil,s=>s
 | _,_,_,_,.cons r t,s=>.cons r (HasL.append t s)
theorem HasL.take:∀{xs:List V} {us:List D} (n:Nat),HasL K H xs us→HasL K H (xs.take n) (us.take n)
 | _,_,0,_=>.nil
 | _,_,_+1,.nil=>.nil
 | _,_,n+1,.cons r t=>.cons r (HasL.take n t)
theorem HasL.drop:∀{xs:List V} {us:List D} (n:Nat),HasL K H xs us→HasL K H (xs.drop n) (us.drop n)
 | _,_,0,r=>r
 | _,_,_+1,.nil=>.nil
 | _,_,n+1,.cons _ t=>HasL.drop n t
theorem HasL.ints:∀(ns:List Int),HasL K H (ns.map V.int) (ns.map D.int)
 | []=>.nil
 | n :: r=>.cons (.int n) (HasL.ints r)
end
inductive MO where
 | lst (ds:List D)
 | ins (c:Str) (fs:List (Str × D))
noncomputable abbrev Mem:=Addr→Option MO
noncomputable def A8(M:Mem)(a:Addr)(o:MO):Mem:=fun b=>if b=a then some o else M b
theorem f8{M:Mem}{a:Addr}{o:MO}:A8 M a o a=some o:=by unfold A8;rw[if_pos rfl]
theorem J3{M:Mem}{a b:Addr}{o:MO}(h:b≠a):A8 M a o b=M b:=by unfold A8;rw[if_neg h]
theorem L9{M:Mem}{a:Addr}{o u:MO}:A8 (A8 M a o) a u=A8 M a u:=by
 funext b;unfold A8;by_cases h:b=a<;>simp[h]
structure rP(K:Pg)(H:Hp)(ys:List (Str × V))(fs:List (Str × D)):Prop where
 names:ys.map (·.1)=fs.map (·.1)
 has:HasL K H (ys.map (·.2)) (fs.map (·.2))
theorem rP.mono{K:Pg}{H H':Hp}(k:KT H H'){ys:List (Str × V)}{fs:List (Str × D)}(h:rP K H ys fs):rP K H' ys fs:=⟨h.names,h.has.mono k⟩
theorem rP.mono0{K:Pg}{H H':Hp}(k:KT0 H H'){ys:List (Str × V)}{fs:List (Str × D)}(h:rP K H ys fs):rP K H' ys fs:=⟨h.names,h.has.mono0 k⟩
noncomputable def MOk(K:Pg)(H:Hp)(a:Addr):MO→Prop
 | .lst ds=>∃ xs,H a=some (.lst xs)∧HasL K H xs ds
 | .ins c fs=>∃ C dx ys,H a=some (.ins C dx ys)∧rP K H ys fs∧PySem.W.nsIn K mainGlobals c=some (some (.ref C))
def o9(K:Pg)(H:Hp)(M:Mem):Prop:=∀ a o,M a=some o→MOk K H a o
section
variable {K:Pg} {H H':Hp} {M:Mem}
theorem o9.fresh(h:o9 K H M){p:Addr}(e:H p=none):M p=none:=by
 cases q:M p with
 | none=>rfl
 | some o =>
  cases o with
  | lst ds=>obtain⟨xs,z,_⟩:=h p _ q;rw[e]at z;cases z
  | ins C fs=>obtain⟨_,dx,ys,z,_⟩:=h p _ q;rw[e]at z;cases z
theorem o9.alloc(h:o9 K H M){p:Addr}{u:HO}(e:H p=none):o9 K (upd H p u) M:=fun a o m=>by
 have k:KT H (upd H p u):=KT.alloc e
 cases o with
 | lst ds =>
  obtain⟨xs,z,l⟩:=h a _ m
  have hn:a≠p:=E9 z e
  exact⟨xs,by rw[g9 hn];exact z,l.mono k⟩
 | ins C fs =>
  obtain⟨C0,dx,ys,z,l,hc⟩:=h a _ m
  have hn:a≠p:=E9 z e
  exact⟨C0,dx,ys,by rw[g9 hn];exact z,l.mono k,hc⟩
theorem o9.new(h:o9 K H M){p:Addr}{xs:List V}{ds:List D}(e:H p=none)(l:HasL K H xs ds):o9 K (upd H p (.lst xs)) (A8 M p (.lst ds)):=fun a o m=>by
 by_cases q:a=p
 ·subst q
  rw[f8]at m;cases m
  exact⟨xs,j4,l.mono (KT.alloc e)⟩
 ·rw[J3 q]at m
  exact h.alloc e a o m
theorem o9.write(h:o9 K H M){p:Addr}{xs ys:List V}{ds:List D}(e:H p=some (.lst xs))(l:HasL K H ys ds):o9 K (upd H p (.lst ys)) (A8 M p (.lst ds)):=fun a o m=>by
 have k:KT H (upd H p (.lst ys)):=KT.write e
 by_cases q:a=p
 ·subst q
  rw[f8]at m;cases m
  exact⟨ys,j4,l.mono k⟩
 ·rw[J3 q]at m
  cases o with
  | lst es =>
   obtain⟨zs,z,l⟩:=h a _ m
   exact⟨zs,by rw[g9 q];exact z,l.mono k⟩
  | ins C fs =>
   obtain⟨C0,dx,zs,z,l,hc⟩:=h a _ m
   exact⟨C0,dx,zs,by rw[g9 q];exact z,l.mono k,hc⟩
theorem o9.lst(h:o9 K H M){a:Addr}{ds:List D}(m:M a=some (.lst ds)):∃ xs,H a=some (.lst xs)∧HasL K H xs ds:=h a _ m
end
noncomputable abbrev Ev:=List (Option D)
structure A7(K:Pg)(H:Hp)(σ:St)(e:Ev):Prop where
 len:σ.length=e.length
 has:∀(i:Nat) (d:D),e[i]? = some (some d)→∃ v,σ[i]? = some (some v)∧Has K H v d
section
variable {K:Pg} {H H':Hp} {σ:St} {e:Ev}
theorem A7.mono(k:KT H H')(h:A7 K H σ e):A7 K H' σ e:=⟨h.len,fun i d z=>let ⟨v,a,b⟩:=h.has i d z;⟨v,a,b.mono k⟩⟩
theorem A7.set(h:A7 K H σ e){v:V}{d:D}(r:Has K H v d)(i:Nat):A7 K H (σ.set i (some v)) (e.set i (some d)):=by
 refine⟨by simp[h.len],fun j x z=>?_⟩
 rw[List.getElem?_set]at z ⊢
 by_cases q:i=j
 ·subst q
  rw[if_pos rfl]at z ⊢
  by_cases l:i<e.length
  ·rw[if_pos l]at z
   rw[if_pos (by rw[h.len];exact l)]
   cases z
   exact⟨v,rfl,r⟩
  ·rw[if_neg l]at z;cases z
 ·rw[if_neg q]at z ⊢
  exact h.has j x z
end
noncomputable def aH(N:List Str)(ds:List D):Ev:=ds.map some++Ro (N.length - ds.length) none
theorem A7.start0{K:Pg}{H:Hp}{N:List Str}{vs:List V}{ds:List D}(h:HasL K H vs ds):A7 K H (L2.start N vs) (aH N ds):=by
 have hl:=h.length
 refine⟨by simp[L2.start,aH,hl],fun i d z=>?_⟩
 unfold aH at z
 unfold L2.start
 rw[Sf]at z ⊢
 simp only[Pj]at z ⊢
 rw[hl]
 by_cases q:i<ds.length
 ·rw[if_pos q]at z ⊢
  rw[PJ]at z ⊢
  cases e:ds[i]? with
  | none=>rw[e]at z;cases z
  | some x =>
   rw[e]at z
   have z':x=d:=by simpa using z
   subst z'
   obtain⟨v,a,b⟩:=h.get e
   exact⟨v,by rw[a];rfl,b⟩
 ·rw[if_neg q]at z
  rw[QQ]at z
  split at z<;>cases z
noncomputable abbrev DK:=D→Mem→Prop
noncomputable abbrev DTE:=Ev→Mem→DK→Prop
noncomputable abbrev DTT:=Ev→Mem→(Bool→Mem→Prop)→Prop
noncomputable abbrev DTA:=Ev→Mem→(List D→Mem→Prop)→Prop
structure bY where
 nx:Ev→Mem→Prop
 rt:DK
 bk:Ev→Mem→Prop:=fun _ _=>False
 ct:Ev→Mem→Prop:=fun _ _=>False
noncomputable abbrev DTS:=bY→Ev→Mem→Prop
def gT(K:Pg)(H:Hp)(R:DK)(Q:VK):Prop:=∀ d M',R d M'→∀ v H',KT H H'→o9 K H' M'→Has K H' v d→Q v H'
def Bb(K:Pg)(H:Hp)(R:Bool→Mem→Prop)(Q:Bool→Hp→Prop):Prop:=∀ b M',R b M'→∀ H',KT H H'→o9 K H' M'→Q b H'
def Ej(K:Pg)(H:Hp)(R:List D→Mem→Prop)(Q:List V→Hp→Prop):Prop:=∀ ds M',R ds M'→∀ vs H',KT H H'→o9 K H' M'→HasL K H' vs ds→Q vs H'
def qc(K:Pg)(H:Hp)(R:Ev→Mem→Prop)(Q:St→Hp→Prop):Prop:=∀ e M',R e M'→∀ σ H',KT H H'→o9 K H' M'→A7 K H' σ e→Q σ H'
structure Fit(K:Pg)(H:Hp)(F:bY)(E:qd):Prop where
 nx:qc K H F.nx E.nx
 rt:gT K H F.rt E.rt
 bk:qc K H F.bk E.bk
 ct:qc K H F.ct E.ct
section
variable {K:Pg} {H H':Hp}
theorem gT.mono{R:DK}{Q:VK}(h:gT K H R Q)(k:KT H H'):gT K H' R Q:=fun d M r v H2 k2 a b=>h d M r v H2 (k.trans k2) a b
theorem Bb.mono{R:Bool→Mem→Prop}{Q:Bool→Hp→Prop}(h:Bb K H R Q)(k:KT H H'):Bb K H' R Q:=fun d M r H2 k2 a=>h d M r H2 (k.trans k2) a
theorem Ej.mono{R:List D→Mem→Prop}{Q:List V→Hp→Prop}(h:Ej K H R Q)(k:KT H H'):Ej K H' R Q:=fun d M r v H2 k2 a b=>h d M r v H2 (k.trans k2) a b
theorem qc.mono{R:Ev→Mem→Prop}{Q:St→Hp→Prop}(h:qc K H R Q)(k:KT H H'):qc K H' R Q:=fun d M r v H2 k2 a b=>h d M r v H2 (k.trans k2) a b
theorem Fit.mono{F:bY}{E:qd}(h:Fit K H F E)(k:KT H H'):Fit K H' F E:=⟨h.nx.mono k,h.rt.mono k,h.bk.mono k,h.ct.mono k⟩
end
def up(K:Pg)(t:DTE):TE:=fun σ H Q=>∃ e M R,A7 K H σ e∧o9 K H M∧t e M R∧gT K H R Q
def upT(K:Pg)(t:DTT):TT:=fun σ H Q=>∃ e M R,A7 K H σ e∧o9 K H M∧t e M R∧Bb K H R Q
def upA(K:Pg)(t:DTA):TA:=fun σ H Q=>∃ e M R,A7 K H σ e∧o9 K H M∧t e M R∧Ej K H R Q
def upS(K:Pg)(t:DTS):TS:=fun E σ H=>∃ e M F,A7 K H σ e∧o9 K H M∧t F e M∧Fit K H F E
abbrev DPE(X:Cx)(x:Expr)(t:DTE):Prop:=PE X x (up X.K t)
abbrev DPT(X:Cx)(x:Expr)(t:DTT):Prop:=PT X x (upT X.K t)
abbrev DPW(X:Cx)(x:Expr)(t:DTT):Prop:=PW X x (upT X.K t)
abbrev DPA(X:Cx)(x:List Expr)(t:DTA):Prop:=PA X x (upA X.K t)
abbrev DPS(X:Cx)(x:Stmt)(t:DTS):Prop:=PS X x (upS X.K t)
abbrev My(X:Cx)(x:List Stmt)(t:DTS):Prop:=PSs X x (upS X.K t)
structure JE(X:Cx)(x:Expr)(t:DTE):Prop where
 out:DPE X x t
structure JT(X:Cx)(x:Expr)(t:DTT):Prop where
 out:DPT X x t
structure JW(X:Cx)(x:Expr)(t:DTT):Prop where
 out:DPW X x t
structure JA(X:Cx)(x:List Expr)(t:DTA):Prop where
 out:DPA X x t
structure JS(X:Cx)(x:Stmt)(t:DTS):Prop where
 out:DPS X x t
structure JSs(X:Cx)(x:List Stmt)(t:DTS):Prop where
 out:My X x t
section
variable {X:Cx} {a b c:Expr} {ta tb tc:DTE} {pos:Pos}
def bQ(i:Nat):DTE:=fun e M R=>∃ d,e[i]? = some (some d)∧R d M
def dC(d:D):DTE:=fun _ M R=>R d M
theorem a9(i:Nat){x:Str}{pos:Pos}(hN:X.N[i]? = some x:=by rfl)(hv:Vis X.env.scope x:=by first|exact Or.inl rfl|exact Or.inr (Or.inl rfl)|exact Or.inr (Or.inr rfl))(hd:(x == ("__debug__" : Str))=false:=by decide)
  (hcd:(x == ("__classdict__" : Str))=false:=by decide):JE X (.Name x pos) (bQ i):=⟨(yR hN hv hd hcd).imp (by
  rintro σ H Q ⟨e,M,R,ok,am,⟨d,z,r⟩,f⟩
  obtain⟨v,h1,h2⟩:=ok.has i d z
  exact⟨v,h1,f d M r v H (KT.refl H) am h2⟩)⟩
theorem Y6{v:V}{d:D}(h:PE X a (tC v))(r:∀ H,Has X.K H v d):DPE X a (dC d) :=
 h.imp (by rintro σ H Q ⟨e,M,R,ok,am,z,f⟩;exact f d M z v H (KT.refl H) am (r H))
theorem d5{i j pos}:JE X (.Constant (.int i) j pos) (dC (.int i)):=⟨Y6 Hq fun _=>.int i⟩
theorem pj{b j pos}:JE X (.Constant (.bool b) j pos) (dC (.bl b)):=⟨Y6 Ke fun _=>.bl b⟩
theorem A5{j pos}:JE X (.Constant .none j pos) (dC .non):=⟨Y6 Ho fun _=>.non⟩
theorem K5{x j pos}:JE X (.Constant (.str x) j pos) (dC (.str x)):=⟨Y6 Hl fun _=>.str x⟩
def LD(K:Pg)(v:V)(d:D):Prop:=∀ H,Has K H v d
theorem Ib{x:Str}{v:V}{d:D}{u:Value}{pos:Pos}(hg:Gl X x)(hm:X.mg x=some u)(r:p7 v u)(hk:LD X.K v d)(hd:(x == ("__debug__" : Str))=false:=by decide):DPE X (.Name x pos) (dC d) :=
 Y6 (CN hg hm r hd) hk
noncomputable abbrev DR2:=D→D→Mem→DK→Prop
def upR(K:Pg)(g:DR2):R2:=fun x y H Q=>∃ dx dy M R,Has K H x dx∧Has K H y dy∧o9 K H M∧g dx dy M R∧gT K H R Q
def DOp(X:Cx)(f:Value→Value→Sem Value)(g:DR2):Prop:=OpR X f (upR X.K g)
def dOp(g:DR2)(ta tb:DTE):DTE:=fun e M R=>ta e M fun x M1=>tb e M1 fun y M2=>g x y M2 R
theorem jU{ta tb:DTE}{g:DR2}{σ:St}{H:Hp}{Q:VK}(h:up X.K (dOp g ta tb) σ H Q):tOp (upR X.K g) (up X.K ta) (up X.K tb) σ H Q:=by
 obtain⟨e,M,R,ok,am,t,f⟩:=h
 refine⟨e,M,_,ok,am,t,fun x M1 h1 v H1 k1 a1 r1=>?_⟩
 refine⟨e,M1,_,ok.mono k1,a1,h1,fun y M2 h2 u H2 k2 a2 r2=>?_⟩
 exact⟨x,y,M2,R,r1.mono k2,r2,a2,h2,f.mono (k1.trans k2)⟩
theorem f6{op:Operator}{g:DR2}(ho:DOp X (binaryOp op) g)(ha:JE X a ta)(hb:JE X b tb):JE X (.BinOp a op b pos) (dOp g ta tb):=⟨have ha:=ha.out;have hb:=hb.out;(Fm ho ha hb).imp fun _ _ _ h=>jU h⟩
theorem HQ{op:CmpOp}{g:DR2}(ho:DOp X (compareOp op) g)(ha:JE X a ta)(hb:JE X b tb)(hm:behindInMarks op b=false):JE X (.Compare a [op] [b] pos) (dOp g ta tb):=⟨have ha:=ha.out;have hb:=hb.out;(CQ ho ha hb hm).imp fun _ _ _ h=>jU h⟩
def uO(t:DTE):DTT:=fun e M R=>t e M fun x M'=>∃ k,x = .bl k∧R k M'
theorem nI{K:Pg}{H:Hp}{R:Bool→Mem→Prop}{Q:Bool→Hp→Prop}(f:Bb K H R Q):gT K H (fun x M'=>∃ k,x = .bl k∧R k M') (fun x H'=>∃ k,x = .bl k∧Q k H'):=by
 rintro d M' ⟨k,rfl,r⟩ v H' kt am h
 cases h
 exact⟨k,rfl,f k M' r H' kt am⟩
theorem DB{op:CmpOp}{g:DR2}(ho:DOp X (compareOp op) g)(ha:JE X a ta)(hb:JE X b tb)(hm:behindInMarks op b=false):JT X (.Compare a [op] [b] pos) (uO (dOp g ta tb)):=⟨have ha:=ha.out;have hb:=hb.out;(Cz ho ha hb hm).imp (by rintro σ H Q ⟨e,M,R,ok,am,t,f⟩;exact jU (Q:=fun x H'=>∃ k,x = .bl k∧Q k H') ⟨e,M,_,ok,am,t,nI f⟩)⟩
theorem G3{x:Expr}{t:DTE}(h:JE X x t)(he:∀ whole,isTrue x X.env whole=(do let v ← whole;standAt x.pos;holding [v] (truthy v)):=by intro _;rfl):JT X x (uO t):=⟨have h:=h.out;(GY h he).imp (by rintro σ H Q ⟨e,M,R,ok,am,t,f⟩;exact⟨e,M,_,ok,am,t,nI f⟩)⟩
noncomputable def fI(f:Int→Int→D):D→D→Option D
 | .int i,.int j=>some (f i j)
 | _,_=>none
def gF(f:D→D→Option D):DR2:=fun x y M R=>∃ z,f x y=some z∧R z M
def gI(C:Int→Int→Prop)(f:Int→Int→D):DR2:=fun x y M R=>∃ i j,x = .int i∧y = .int j∧C i j∧R (f i j) M
theorem lT{f:Int→Int→D}{x y z:D}(h:fI f x y=some z):∃ i j,x = .int i∧y = .int j∧z=f i j:=by
 cases x with
 | int i =>
  cases y with
  | int j=>exact⟨i,j,rfl,rfl,(Option.some.inj h).symm⟩
  | _=>cases h
 | _=>cases h
theorem pE{f:Value→Value→Sem Value}{C:Int→Int→Prop}{g:Int→Int→V}{g':Int→Int→D}(h:OpR X f (rI C g))(hg:∀ i j H,Has X.K H (g i j) (g' i j)):DOp X f (gI C g') :=
 OpR.imp h (by
  rintro x y H Q ⟨dx,dy,M,R,hx,hy,am,⟨i,j,e1,e2,hc,r⟩,f⟩
  subst e1;subst e2
  cases hx;cases hy
  exact⟨i,j,rfl,rfl,hc,f _ M r _ H (KT.refl H) am (hg i j H)⟩)
theorem gN{f:Value→Value→Sem Value}{g:Int→Int→V}{g':Int→Int→D}(h:OpR X f (rI0 g))(hg:∀ i j H,Has X.K H (g i j) (g' i j)):DOp X f (gF (fI g')) :=
 OpR.imp h (by
  rintro x y H Q ⟨dx,dy,M,R,hx,hy,am,⟨z,e,r⟩,f⟩
  obtain⟨i,j,e1,e2,e3⟩:=lT e
  subst e1;subst e2;subst e3
  cases hx;cases hy
  exact⟨i,j,rfl,rfl,f _ M r _ H (KT.refl H) am (hg i j H)⟩)
theorem N8:DOp X (binaryOp .Add) (gF (fI fun i j=>.int (i+j))):=gN Hx fun _ _ _=>.int _
theorem N7:DOp X (binaryOp .Sub) (gF (fI fun i j=>.int (i - j))):=gN Hu fun _ _ _=>.int _
theorem lI:DOp X (compareOp .Lt) (gF (fI fun i j=>.bl (decide (i<j)))):=gN Kh fun _ _ _=>.bl _
theorem oS:DOp X (compareOp .Gt) (gF (fI fun i j=>.bl (decide (j<i)))):=gN Ki fun _ _ _=>.bl _
theorem Me:DOp X (compareOp .GtE) (gF (fI fun i j=>.bl (decide (j≤i)))):=gN Kj fun _ _ _=>.bl _
theorem Z3:DOp X (binaryOp .Mod) (gI (fun _ j=>0<j) fun i j=>.int (i % j)):=pE Hw fun _ _ _=>.int _
theorem Fp:DOp X (binaryOp .Pow) (gI IL fun i j=>.int (i ^ j.toNat)):=pE Hv fun _ _ _=>.int _
noncomputable def gU(f:Int→D):D→Mem→DK→Prop:=fun x M R=>∃ i,x = .int i∧R (f i) M
def dUn(g:D→Mem→DK→Prop)(ta:DTE):DTE:=fun e M R=>ta e M fun x M1=>g x M1 R
theorem cC(ha:JE X a ta):JE X (.UnaryOp .USub a pos) (dUn (gU fun i=>.int (-i)) ta):=⟨have ha:=ha.out;(JY Gs ha).imp (by rintro σ H Q ⟨e,M,R,ok,am,t,f⟩;exact⟨e,M,_,ok,am,t,fun x M1 ⟨i,z,r⟩ v H1 k1 a1 r1=>by
  subst z;cases r1;exact⟨i,rfl,f _ M1 r _ H1 k1 a1 (.int _)⟩⟩)⟩
variable {tA tB':DTT} {G8:List Expr}
def Ll(t u:DTT):DTT:=fun e M R=>t e M fun c M1=>if c=true then u e M1 R else R false M1
def dOr(t u:DTT):DTT:=fun e M R=>t e M fun c M1=>if c=true then R true M1 else u e M1 R
def Le(t:DTT):DTT:=fun e M R=>t e M fun c M1=>R (!c) M1
theorem bM(ha:JT X a tA):JW X (.BoolOp .And [a] pos) tA:=⟨have ha:=ha.out;Cy ha⟩
theorem W4(ha:JT X a tA):JW X (.BoolOp .Or [a] pos) tA:=⟨have ha:=ha.out;GV ha⟩
theorem gE(ha:JT X a tA)(hb:JW X (.BoolOp .And (b :: G8) pos) tB'):JW X (.BoolOp .And (a :: b :: G8) pos) (Ll tA tB'):=⟨have ha:=ha.out;have hb:=hb.out;(GW ha hb).imp (by rintro σ H Q ⟨e,M,R,ok,am,t,f⟩;exact⟨e,M,_,ok,am,t,fun k M1 h1 H1 k1 a1=>by
  cases k with
  | true=>exact⟨e,M1,R,ok.mono k1,a1,h1,f.mono k1⟩
  | false=>exact f false M1 h1 H1 k1 a1⟩)⟩
theorem bL(ha:JT X a tA)(hb:JW X (.BoolOp .Or (b :: G8) pos) tB'):JW X (.BoolOp .Or (a :: b :: G8) pos) (dOr tA tB'):=⟨have ha:=ha.out;have hb:=hb.out;(JV ha hb).imp (by rintro σ H Q ⟨e,M,R,ok,am,t,f⟩;exact⟨e,M,_,ok,am,t,fun k M1 h1 H1 k1 a1=>by
  cases k with
  | true=>exact f true M1 h1 H1 k1 a1
  | false=>exact⟨e,M1,R,ok.mono k1,a1,h1,f.mono k1⟩⟩)⟩
theorem lO(ha:JT X a tA):JT X (.UnaryOp .Not a pos) (Le tA):=⟨have ha:=ha.out;(GZ ha).imp (by rintro σ H Q ⟨e,M,R,ok,am,t,f⟩;exact⟨e,M,_,ok,am,t,fun k M1 h1 H1 k1 a1=>f (!k) M1 h1 H1 k1 a1⟩)⟩
theorem Q5{x:Expr}{t:DTT}(h:JW X x t):JT X x t:=⟨have h:=h.out;PW.pt h⟩
def FN(ta tb:DTE):DTE:=fun e M R=>ta e M fun x M1=>∃ c,x = .bl c∧if c=true then tb e M1 R else R (.bl false) M1
def FF(ta:DTE):DTE:=fun e M R=>ta e M fun x M1=>∃ c,x = .bl c∧R (.bl (!c)) M1
theorem ux{op}{t:DTE}(h:JE X a t):JE X (.BoolOp op [a] pos) t:=⟨have h:=h.out;Hm h⟩
theorem uy(ha:JE X a ta)(hb:JE X (.BoolOp .And (b :: G8) pos) tb):JE X (.BoolOp .And (a :: b :: G8) pos) (FN ta tb):=⟨have ha:=ha.out;have hb:=hb.out;(Hr ha hb).imp (by rintro σ H Q ⟨e,M,R,ok,am,t,f⟩;exact⟨e,M,_,ok,am,t,fun x M1 ⟨k,z,h1⟩ v H1 k1 a1 r1=>by
  subst z;cases r1
  refine⟨k,rfl,?_⟩
  cases k with
  | true=>exact⟨e,M1,R,ok.mono k1,a1,h1,f.mono k1⟩
  | false=>exact f _ M1 h1 _ H1 k1 a1 (.bl _)⟩)⟩
theorem DA(ha:JE X a ta):JE X (.UnaryOp .Not a pos) (FF ta):=⟨have ha:=ha.out;(Hn ha).imp (by rintro σ H Q ⟨e,M,R,ok,am,t,f⟩;exact⟨e,M,_,ok,am,t,fun x M1 ⟨k,z,h1⟩ v H1 k1 a1 r1=>by
  subst z;cases r1
  exact⟨k,rfl,f _ M1 h1 _ H1 k1 a1 (.bl _)⟩⟩)⟩
def dIf(t:DTT)(ta tb:DTE):DTE:=fun e M R=>t e M fun c M1=>if c=true then ta e M1 R else tb e M1 R
theorem pf(hc:JT X c tA)(ha:JE X a ta)(hb:JE X b tb):JE X (.IfExp c a b pos) (dIf tA ta tb):=⟨have hc:=hc.out;have ha:=ha.out;have hb:=hb.out;(yT hc ha hb).imp (by rintro σ H Q ⟨e,M,R,ok,am,t,f⟩;exact⟨e,M,_,ok,am,t,fun k M1 h1 H1 k1 a1=>by
  cases k with
  | true=>exact⟨e,M1,R,ok.mono k1,a1,h1,f.mono k1⟩
  | false=>exact⟨e,M1,R,ok.mono k1,a1,h1,f.mono k1⟩⟩)⟩
def Lf:DTA:=fun _ M R=>R [] M
def FK(ta:DTE)(tr:DTA):DTA:=fun e M R=>ta e M fun x M1=>tr e M1 fun xs M2=>R (x :: xs) M2
variable {es:List Expr} {tr:DTA}
theorem d4:JA X [] Lf:=⟨Hs.imp (by rintro σ H Q ⟨e,M,R,ok,am,t,f⟩;exact f [] M t [] H (KT.refl H) am .nil)⟩
theorem a8(ha:JE X a ta)(hr:JA X es tr)(hs:starEach (a :: es) X.env=(false,eval a X.env) :: starEach es X.env:=by rfl):JA X (a :: es) (FK ta tr):=⟨have ha:=ha.out;have hr:=hr.out;(CU ha hr hs).imp (by rintro σ H Q ⟨e,M,R,ok,am,t,f⟩;exact⟨e,M,_,ok,am,t,fun x M1 h1 v H1 k1 a1 r1 =>
  ⟨e,M1,_,ok.mono k1,a1,h1,fun xs M2 h2 vs H2 k2 a2 r2=>f _ M2 h2 _ H2 (k1.trans k2) a2 (.cons (r1.mono k2) r2)⟩⟩)⟩
def KZ(t:DTA):DTE:=fun e M R=>t e M fun ds M1=>ds.length≤sizeLine∧R (.tup ds) M1
def Lg(t:DTA):DTE:=fun e M R=>t e M fun ds M1=>ds.length≤sizeLine∧∀ p,M1 p=none→R (.ref p) (A8 M1 p (.lst ds))
theorem h8{x1}(h:JA X es tr):JE X (.Tuple es x1 pos) (KZ tr):=⟨have h:=h.out;(Hk h).imp (by rintro σ H Q ⟨e,M,R,ok,am,t,f⟩;exact⟨e,M,_,ok,am,t,fun ds M1 ⟨hz,h1⟩ vs H1 k1 a1 r1=>by
  refine⟨by rw[r1.length];exact hz,fun p hp=>?_⟩
  have k2:KT H1 (upd H1 p (.tup vs)):=KT.alloc hp
  exact f _ M1 h1 _ _ (k1.trans k2) (a1.alloc hp) (.tup (SqT.of j4) (r1.mono k2))⟩)⟩
theorem aE(h:JA X es tr):JE X (.List es pos) (Lg tr):=⟨have h:=h.out;(yS h).imp (by rintro σ H Q ⟨e,M,R,ok,am,t,f⟩;exact⟨e,M,_,ok,am,t,fun ds M1 ⟨hz,h1⟩ vs H1 k1 a1 r1=>by
  refine⟨by rw[r1.length];exact hz,fun p hp=>?_⟩
  have k2:KT H1 (upd H1 p (.lst vs)):=KT.alloc hp
  exact f _ _ (h1 p (a1.fresh hp)) _ _ (k1.trans k2) (a1.new hp r1) (.ref p)⟩)⟩
theorem HasL.at{K:Pg}{H:Hp}{vs:List V}{ds:List D}(h:HasL K H vs ds){i:Int}{z:D}(e:atI ds i=some z):∃ v,atI vs i=some v∧Has K H v z:=by
 unfold atI at e ⊢
 rw[h.length]
 cases q:ixN ds.length i with
 | none=>rw[q]at e;cases e
 | some j =>
  rw[q]at e
  exact h.get e
def DIx(X:Cx)(g:DR2):Prop:=IxR X (upR X.K g)
theorem Kv{g:DR2}(hr:DIx X g)(ha:JE X a ta)(hb:JE X b tb)(hs:mC b):JE X (.Subscript a b pos) (dOp g ta tb):=⟨have ha:=ha.out;have hb:=hb.out;(JZ hr ha hb hs).imp fun _ _ _ h=>jU h⟩
noncomputable abbrev DXK:=Value→Mem→Prop
noncomputable abbrev DSp:=List D→Mem→DK→DXK→Prop
def IH(K:Pg)(H:Hp)(Y:DXK)(E:XK):Prop:=∀ c M',Y c M'→∀ o H',KT H H'→o9 K H' M'→E c o H'
noncomputable def nF(K:Pg)(sp:DSp):Sp:=fun vs H Q E=>∃ ds M R Y,HasL K H vs ds∧o9 K H M∧sp ds M R Y∧gT K H R Q∧IH K H Y E
def uQ(sp:DSp)(dds:List D)(Y:DXK)(t:DTA):DTE:=fun e M R=>t e M fun ds M1=>sp (ds++dds) M1 R Y
end
section
variable {X:Cx} {CX:CXT} {k:Nat} {f C:Addr} {fd:FuncData} {ps:List Str} {sp:DSp} {dvs:List V} {dds:List D} {ds:List Value} {E:XK} {Y:DXK} {x m:Str} {p pos apos:Pos} {e o:Expr} {es:List Expr} {t:DTA}
theorem Ic(F:S8 X.prog X.w X.K X.mg X.base CX k f fd ps (nF X.K sp))(hr:K1 k X.A)(hg:Gl X x)(hm:X.mg x=some (.ref f))(hk:PySem.W.keepIn X.K (.ref f)=true)(hb:gW X.K fd ps ds)(hd:j0 dvs ds)(hdd:∀ H,HasL X.K H dvs dds)(hx:mD CX X E)(hY:∀ H,IH X.K H Y E)
  (ha:DPA X (e :: es) t) (hdb:(x == ("__debug__" : Str))=false:=by decide) (he:starEach (e :: es) X.env=(false,eval e X.env) :: starEach es X.env:=by rfl) (hpl:(backTo pos (starEach es X.env)).any (·.1)=false:=by rfl) :
  DPE X (.Call (.Name x p) (e :: es) [] pos) (uQ sp dds Y t) :=
 (CS F hr hg hm hk hb hd hx ha hdb he hpl).imp (by rintro σ H Q ⟨e,M,R,ok,am,t,f⟩;exact⟨e,M,_,ok,am,t,fun xs M1 h1 vs H1 k1 a1 r1 =>
  ⟨xs++dds,M1,R,Y,r1.append (hdd H1),a1,h1,f.mono k1,hY H1⟩⟩)
end
section
variable {X:Cx} {st:Stmt} {G8:List Stmt} {t u:DTS} {e:Expr} {te:DTE} {pos:Pos}
def FG:DTS:=fun F e M=>F.nx e M
def Lb(t u:DTS):DTS:=fun F e M=>t { F with nx:=u F } e M
theorem i6:JSs X [] FG:=⟨CB.imp (by rintro E σ H ⟨e,M,F,ok,am,t,f⟩;exact f.nx e M t σ H (KT.refl H) am ok)⟩
theorem d6(h1:JS X st t)(h2:JSs X G8 u):JSs X (st :: G8) (Lb t u):=⟨have h1:=h1.out;have h2:=h2.out;(ox h1 h2).imp (by rintro E σ H ⟨e,M,F,ok,am,t,f⟩;exact⟨e,M,{ F with nx:=u F },ok,am,t,⟨fun e' M' h σ' H' k a o=>⟨e',M',F,o,a,h,f.mono k⟩,f.rt,f.bk,f.ct⟩⟩)⟩
theorem d7(h1:JS X st t):JSs X [st] t:=⟨have h1:=h1.out;CA h1⟩
def FJ(te:DTE):DTS:=fun F e M=>te e M fun _ M1=>F.nx e M1
theorem Q4(he:JE X e te)(hs:swapsWith e none pos.line X.env=pure false:=by rfl):JS X (.Expr e pos) (FJ te):=⟨have he:=he.out;(CF he hs).imp (by rintro E σ H ⟨e,M,F,ok,am,t,f⟩;exact⟨e,M,_,ok,am,t,fun d M1 h1 v H1 k1 a1 r1=>f.nx e M1 h1 σ H1 k1 a1 (ok.mono k1)⟩)⟩
def Lc(te:DTE):DTS:=fun F e M=>te e M F.rt
theorem e6(he:JE X e te):JS X (.Return (some e) pos) (Lc te):=⟨have he:=he.out;(Hb he).imp (by rintro E σ H ⟨e,M,F,ok,am,t,f⟩;exact⟨e,M,_,ok,am,t,f.rt⟩)⟩
def Lh(c:DTT)(t u:DTS):DTS:=fun F e M=>c e M fun b M1=>if b=true then t F e M1 else u F e M1
theorem j5{c:Expr}{a b:List Stmt}{tc:DTT}(hc:JT X c tc)(ha:JSs X a t)(hb:JSs X b u):JS X (.If c a b pos) (Lh tc t u):=⟨have hc:=hc.out;have ha:=ha.out;have hb:=hb.out;(JX hc ha hb).imp (by rintro E σ H ⟨e,M,F,ok,am,t,f⟩;exact⟨e,M,_,ok,am,t,fun k M1 h1 H1 k1 a1=>by
  cases k with
  | true=>exact⟨e,M1,F,ok.mono k1,a1,h1,f.mono k1⟩
  | false=>exact⟨e,M1,F,ok.mono k1,a1,h1,f.mono k1⟩⟩)⟩
def Av:DTS:=fun _ _ _=>False
theorem vS:JS X st Av:=⟨yM.imp (by rintro E σ H ⟨_,_,_,_,_,t,_⟩;exact t)⟩
noncomputable abbrev DTG:=D→Ev→Mem→(Ev→Mem→Prop)→Prop
noncomputable abbrev X1:=List D→Ev→Mem→(Ev→Mem→Prop)→Prop
def upG(K:Pg)(g:DTG):TG:=fun v σ H Q=>∃ d e M R,Has K H v d∧A7 K H σ e∧o9 K H M∧g d e M R∧qc K H R Q
def LI(K:Pg)(g:X1):TGs:=fun vs σ H Q=>∃ ds e M R,HasL K H vs ds∧A7 K H σ e∧o9 K H M∧g ds e M R∧qc K H R Q
abbrev DPG(X:Cx)(x:Expr)(g:DTG):Prop:=PG X x (upG X.K g)
abbrev Mz(X:Cx)(x:List Expr)(g:X1):Prop:=PGs X x (LI X.K g)
structure JG(X:Cx)(x:Expr)(g:DTG):Prop where
 out:DPG X x g
structure JGs(X:Cx)(x:List Expr)(g:X1):Prop where
 out:Mz X x g
def cE(i:Nat):DTG:=fun d e M R=>R (e.set i (some d)) M
theorem zP{i:Nat}{x:Str}(hN:X.N.Nodup)(hi:X.N[i]? = some x)(hx:Loc X.env.scope x)(hf:X.fn x=true∨X.env.scope.names.lookup x=some .local:=by first|exact .inl rfl|exact .inr rfl|assumption):JG X (.Name x pos) (cE i):=⟨PG.imp (CM hN hi hx hf) (by rintro v σ H Q ⟨d,e,M,R,r,ok,am,g,f⟩;exact f _ M g _ H (KT.refl H) am (ok.set r i))⟩
def FC:X1:=fun ds e M R=>ds=[]∧R e M
def Ar(t:DTG)(u:X1):X1:=fun ds e M R=>∃ d r,ds=d :: r∧t d e M fun e' M'=>u r e' M' R
theorem i9:JGs X [] FC:=⟨PGs.imp CK (by
 rintro v σ H Q ⟨ds,e,M,R,r,ok,am,⟨z,g⟩,f⟩
 subst z;cases r;exact⟨rfl,f e M g σ H (KT.refl H) am ok⟩)⟩
end
section
variable {X:Cx} {st:Stmt} {G8:List Stmt} {t u:DTS} {e:Expr} {te:DTE} {pos:Pos}
theorem d9{x:Expr}{xs:List Expr}{t:DTG}{u:X1}(h1:JG X x t)(h2:JGs X xs u)
  (hs:(assignEach (x :: xs) X.env).map (·.2)=assign x X.env :: (assignEach xs X.env).map (·.2):=by rfl):JGs X (x :: xs) (Ar t u):=⟨have h1:=h1.out;have h2:=h2.out;PGs.imp (yQ h1 h2 hs) (by
  rintro vs σ H Q ⟨ds,e,M,R,r,ok,am,⟨d,dr,z,g⟩,f⟩
  subst z
  cases r with
  | cons r rr=>exact⟨_,_,rfl,d,e,M,_,r,ok,am,g,fun e1 M1 h1 σ1 H1 k1 a1 ok1=>⟨dr,e1,M1,R,rr.mono k1,ok1,a1,h1,f.mono k1⟩⟩)⟩
def pF(n:Nat)(t:X1):DTG:=fun d e M R=>∃ ds,d = .tup ds∧ds.length=n∧t ds e M R
theorem o7{xs:List Expr}{k:Nat}{t:X1}{n:Nat}(hc:X.calm=true)(h:JGs X xs t)
  (hn:(assignEach xs X.env).length=n:=by rfl) (hst:(assignEach xs X.env).findIdx? (·.1)=none:=by rfl):JG X (.Tuple xs k pos) (pF n t):=⟨have h:=h.out;PG.imp (Hi hc h hn hst) (by
  rintro v σ H Q ⟨d,e,M,R,r,ok,am,⟨ds,z,hl,g⟩,f⟩
  subst z
  cases r with
  | tup s l=>exact⟨_,_,rfl,s,by rw[l.length];exact hl,ds,e,M,R,l,ok,am,g,f⟩)⟩
noncomputable abbrev Bd:=D→D→D→Mem→(Mem→Prop)→Prop
noncomputable def Ft:Bd:=fun o i v M R=>∃ p ds k j,o = .ref p∧i = .int k∧M p=some (.lst ds)∧ixN ds.length k=some j∧R (A8 M p (.lst (ds.set j v)))
def FA(to ti:DTE)(t:Bd):DTG:=fun d e M R=>to e M fun o M1=>ti e M1 fun i M2=>t o i d M2 fun M3=>R e M3
theorem eQ{o i:Expr}{to ti:DTE}(ho:JE X o to)(hi:JE X i ti)
  (ha:∀ v,assign (.Subscript o i pos) X.env v=(do
   let ov ← holding [v] (eval o X.env)
   let iv ← holding [v,ov] (eval i X.env)
   standAt pos
   holding [v,ov,iv] (setItem ov iv v)
   release [v,ov,iv] []):=by intro _;rfl):JG X (.Subscript o i pos) (FA to ti Ft):=⟨have ho:=ho.out;have hi:=hi.out;PG.imp (Hj ho hi yd ha) fun v σ H Q ⟨d,e,M,R,r,ok,am,g,f⟩ =>
  ⟨e,M,_,ok,am,g,fun x M1 h1 vo H1 k1 a1 r1=>⟨e,M1,_,ok.mono k1,a1,h1,fun y M2 ⟨p,ds,k,j,e1,e2,e3,e4,h2⟩ vi H2 k2 a2 r2=>by
   subst e1;subst e2
   cases r1;cases r2
   obtain⟨xs,hx,l⟩:=a2.lst e3
   have kt:KT H H2:=k1.trans k2
   have kw:KT H2 (upd H2 p (.lst (xs.set j v))):=KT.write hx
   exact⟨p,xs,k,j,rfl,rfl,hx,by rw[l.length];exact e4,f e _ h2 σ _ (kt.trans kw) (a2.write hx (l.set (r.mono kt) j)) ((ok.mono kt).mono kw)⟩⟩⟩⟩
def Ax(te:DTE)(g:DTG):DTS:=fun F e M=>te e M fun x M1=>g x e M1 F.nx
theorem t9{tg x:Expr}{tx:DTE}{g:DTG}(he:JE X x tx)(hg:JG X tg g)(hs:swapsWithSole [tg] x pos.line X.env=pure false:=by rfl)(hw:swappedStores [tg] x X.env=pure none:=by rfl)
  (h1:(assignEach [tg] X.env).map (·.2)=[assign tg X.env]:=by rfl):JS X (.Assign [tg] x pos) (Ax tx g):=⟨have he:=he.out;have hg:=hg.out;(Hf he hg hs hw h1).imp (by rintro E σ H ⟨e,M,F,ok,am,t,f⟩;exact⟨e,M,_,ok,am,t,fun d M1 h1 v H1 k1 a1 r1=>⟨d,e,M1,F.nx,r1,ok.mono k1,a1,h1,f.nx.mono k1⟩⟩)⟩
theorem Dz{i:Nat}{x:Str}{tx:DTE}{pos':Pos}(hN:X.N.Nodup)(hi:X.N[i]? = some x)(hx:Loc X.env.scope x)(he:JE X e tx)(hs:swapsWith e (some (.Name x pos')) pos.line X.env=pure false:=by rfl)(hf:X.fn x=true∨X.env.scope.names.lookup x=some .local:=by first|exact .inl rfl|exact .inr rfl|assumption):JS X (.Assign [.Name x pos'] e pos) (Ax tx (cE i)):=⟨have he:=he.out;(Ha hN hi hx he hs hf).imp (by rintro E σ H ⟨e,M,F,ok,am,t,f⟩;exact⟨e,M,_,ok,am,t,fun d M1 h1 v H1 k1 a1 r1=>f.nx _ M1 h1 _ H1 k1 a1 ((ok.mono k1).set r1 i)⟩)⟩
def Ld(i j:Nat)(ta:DTA):DTS:=fun F e M=>ta e M fun ds M1=>∃ x y,ds=[x,y]∧F.nx ((e.set i (some x)).set j (some y)) M1
theorem eP{i j:Nat}{x y:Str}{a b:Expr}{ta:DTA}{px py pt:Pos}{kt k2 pt2}(hc:X.calm=true)(hN:X.N.Nodup)(hi:X.N[i]? = some x)(hj:X.N[j]? = some y)(hij:i≠j)
  (hx:X.env.scope.names.lookup x=some .local) (hy:X.env.scope.names.lookup y=some .local) (ha:JA X [a,b] ta)
  (hw:swappedStores [.Tuple [.Name x px,.Name y py] kt pt] (.Tuple [a,b] k2 pt2) X.env=pure (some [x,y]):=by rfl)
  (hs:swapsWithSole [.Tuple [.Name x px,.Name y py] kt pt] (.Tuple [a,b] k2 pt2) pos.line X.env=pure false:=by rfl):JS X (.Assign [.Tuple [.Name x px,.Name y py] kt pt] (.Tuple [a,b] k2 pt2) pos) (Ld i j ta):=⟨have ha:=ha.out;(Hd hc hN hi hj hij hx hy ha hw hs).imp (by rintro E σ H ⟨e,M,F,ok,am,t,f⟩;exact⟨e,M,_,ok,am,t,fun ds M1 ⟨x,y,z,h1⟩ vs H1 k1 a1 r1=>by
  subst z
  cases r1 with
  | cons r1 rr =>
   cases rr with
   | cons r2 rr =>
    cases rr
    exact⟨_,_,rfl,f.nx _ M1 h1 _ H1 k1 a1 (((ok.mono k1).set r1 i).set r2 j)⟩⟩)⟩
def Au(c:DTT)(tb:DTS):DTS:=fun F e M=>∃ W:Nat→Ev→Mem→Prop,(∃ m,W m e M)∧∀ m e M,W m e M →
 c e M fun b M1=>if b=true then tb { F with nx:=fun e' M'=>∃ m',m'<m∧W m' e' M',ct:=fun e' M'=>∃ m',m'<m∧W m' e' M',bk:=F.nx } e M1 else F.nx e M1
theorem cB{c:Expr}{body:List Stmt}{tc:DTT}{tb:DTS}(hp:PassesOwn (model X.prog X.w) X.A X.env X.xe)(hc:JT X c tc)(hb:JSs X body tb):JS X (.While c body [] pos) (Au tc tb):=⟨have hc:=hc.out;have hb:=hb.out;(yL hp hc hb).imp (by
  rintro E σ H ⟨e,M,F,ok,am,⟨W,⟨m0,w0⟩,turn⟩,f⟩
  refine⟨fun m σ' H'=>∃ e' M',KT H H'∧A7 X.K H' σ' e'∧o9 X.K H' M'∧W m e' M',⟨m0,e,M,KT.refl H,ok,am,w0⟩,?_⟩
  rintro m σ1 H1 ⟨e1,M1,k1,ok1,a1,w1⟩
  refine⟨e1,M1,_,ok1,a1,turn m e1 M1 w1,fun b M2 h2 H2 k2 a2=>?_⟩
  cases b with
  | false=>exact f.nx e1 M2 h2 σ1 H2 (k1.trans k2) a2 (ok1.mono k2)
  | true =>
   refine⟨fun σ' H'=>∃ m',m'<m∧∃ e' M',KT H H'∧A7 X.K H' σ' e'∧o9 X.K H' M'∧W m' e' M',fun σ' H' h=>h,e1,M2,_,ok1.mono k2,a2,h2,?_⟩
   have kk:=k1.trans k2
   exact⟨fun e' M' ⟨m',l,w⟩ σ' H' k' a' o'=>⟨m',l,e',M',kk.trans k',o',a',w⟩,f.rt.mono kk,f.nx.mono kk,fun e' M' ⟨m',l,w⟩ σ' H' k' a' o'=>⟨m',l,e',M',kk.trans k',o',a',w⟩⟩)⟩
noncomputable abbrev DTI:=Ev→Mem→(List D→(Mem→Prop)→Mem→Prop)→Prop
def Lj(ti:DTI)(g:DTG)(tb:DTS):DTS:=fun F e M=>ti e M fun ds stay M1=>∃ W:Nat→Ev→Mem→Prop,W 0 e M1∧(∀ i e M,i≤ds.length→W i e M→stay M) ∧
 (∀(i:Nat) (d:D) e M,ds[i]? = some d→W i e M→g d e M fun e2 M2=>tb { F with nx:=W (i+1),ct:=W (i+1),bk:=F.nx } e2 M2)∧∀ e M,W ds.length e M→F.nx e M
noncomputable def K2(lo:Int)(n:Nat):List D:=(QM n).map fun(i:Nat)=>D.int (lo+(i:Int))
theorem E3(lo:Int)(n:Nat):(K2 lo n).length=n:=by simp[K2]
theorem gh{lo:Int}{n i:Nat}(h:i<n):(K2 lo n)[i]? = some (D.int (lo+(i:Int))):=by simp[K2,h]
theorem vC{lo:Int}{n i:Nat}{d:D}(h:(K2 lo n)[i]? = some d):i<n∧d=D.int (lo+(i:Int)):=by
 have hl:i<n:=by
  have:=(Pw.mp h).1
  rw[E3]at this;exact this
 rw[gh hl]at h
 exact⟨hl,(Option.some.inj h).symm⟩
def Fz(ta:DTA):DTI:=fun e M R=>ta e M fun ds M1=>∃ j:Int,ds=[.int j]∧-(2 ^ 62)≤j∧j<2 ^ 62∧R (K2 0 j.toNat) (fun _=>True) M1
def Ao(ta:DTA):DTI:=fun e M R=>ta e M fun ds M1=>∃ i j:Int,ds=[.int i,.int j]∧(-(2 ^ 62)≤i∧i<2 ^ 62∧-(2 ^ 62)≤j∧j<2 ^ 62)∧R (K2 i (j - i).toNat) (fun _=>True) M1
theorem Ag{K:Pg}{H H1 H2:Hp}{F:bY}{E:qd}{W:Nat→Ev→Mem→Prop}{g:DTG}{tb:DTS}{i:Nat}{x:V}{d:D}{σ2:St}{e2:Ev}{M2:Mem}(f:Fit K H F E)(k1:KT H H1)(k2:KT H1 H2)(ok2:A7 K H2 σ2 e2)(a2:o9 K H2 M2)(r:Has K H2 x d)
  (h:g d e2 M2 fun e3 M3=>tb { F with nx:=W (i+1),ct:=W (i+1),bk:=F.nx } e3 M3) :
  upG K g x σ2 H2 fun σ3 H3=>upS K tb { E with nx:=fun σ' H'=>∃ e' M',KT H1 H'∧A7 K H' σ' e'∧o9 K H' M'∧W (i+1) e' M',ct:=fun σ' H'=>∃ e' M',KT H1 H'∧A7 K H' σ' e'∧o9 K H' M'∧W (i+1) e' M',bk:=E.nx } σ3 H3:=by
 refine⟨d,e2,M2,_,r,ok2,a2,h,fun e3 M3 h3 σ3 H3 k3 a3 ok3=>⟨e3,M3,_,ok3,a3,h3,?_⟩⟩
 have kk:KT H H3:=k1.trans (k2.trans k3)
 exact⟨fun e' M' w σ' H' k' a' o'=>⟨e',M',k2.trans (k3.trans k'),o',a',w⟩,f.rt.mono kk,f.nx.mono kk,fun e' M' w σ' H' k' a' o'=>⟨e',M',k2.trans (k3.trans k'),o',a',w⟩⟩
variable {tg iter:Expr} {body:List Stmt} {ti:DTE} {ta:DTA} {g:DTG} {tb:DTS}
theorem Has.il{K:Pg}{H:Hp}{v:V}{ds:List D}(h:Has K H v (.vl ds)):∃ a xs,v = .ref a∧SqL K H a xs∧HasL K H xs ds:=by
 cases h with
 | vl h l=>exact⟨_,_,rfl,h.elim (fun⟨o,e⟩=>.inl (.inr ⟨o,e⟩)) (fun k=>k H),l⟩
end
section
variable {P:Program} {w:World} {K:Pg} {mg:Str→Option Value} {base:Heap}
end
section
variable {X:Cx} {x:Str} {p pos:Pos} {e:Expr} {es:List Expr} {t:DTA} {id T:String}
noncomputable abbrev DRC:=List D→Mem→DK→Prop
noncomputable def upC(K:Pg)(g:DRC):List V→Hp→VK→Prop:=fun xs H Q=>∃ ds M R,HasL K H xs ds∧o9 K H M∧g ds M R∧gT K H R Q
def Z7(X:Cx)(f:Value)(g:DRC):Prop:=A4 X f (upC X.K g)
def dCB(g:DRC)(t:DTA):DTE:=fun e M R=>t e M fun ds M1=>g ds M1 R
theorem Lp{g:DRC}{σ:St}{H:Hp}{Q:VK}(h:up X.K (dCB g t) σ H Q):tCB (upC X.K g) (upA X.K t) σ H Q:=by
 obtain⟨e,M,R,ok,am,t,f⟩:=h
 exact⟨e,M,_,ok,am,t,fun ds M1 h1 vs H1 k1 a1 r1=>⟨ds,M1,R,r1,a1,h1,f.mono k1⟩⟩
theorem A4.imp{f:Value}{r r':List V→Hp→VK→Prop}(h:A4 X f r)(i:∀ xs H Q,r' xs H Q→r xs H Q):A4 X f r':=fun pins s σ H xs us Q I rv q=>h pins s σ H xs us Q I rv (i xs H Q q)
theorem HasL.one{K:Pg}{H:Hp}{vs:List V}{d:D}(h:HasL K H vs [d]):∃ v,vs=[v]∧Has K H v d:=by
 cases h with
 | cons r rr=>cases rr;exact⟨_,rfl,r⟩
theorem HasL.two{K:Pg}{H:Hp}{vs:List V}{d d':D}(h:HasL K H vs [d,d']):∃ v v',vs=[v,v']∧Has K H v d∧Has K H v' d':=by
 cases h with
 | cons r rr=>cases rr with|cons r2 rr=>cases rr;exact⟨_,_,rfl,r,r2⟩
def KR:DRC:=fun ds M R=>∃ i:Int,ds=[.int i]∧R (.int (i.natAbs:Int)) M
theorem jL:Z7 X (.builtin "abs") KR:=A4.imp AJ (by
 rintro xs H Q ⟨ds,M,R,hl,am,⟨i,z,r⟩,f⟩
 subst z
 obtain⟨v,rfl,h⟩:=hl.one
 cases h
 have e:(if i<0 then -i else i)=(i.natAbs:Int):=by split<;>omega
 exact⟨i,rfl,by rw[e];exact f _ M r _ H (KT.refl H) am (.int _)⟩)
def KN:DRC:=fun ds M R=>∃ i j:Int,ds=[.int i,.int j]∧R (.int (max i j)) M
theorem FW(hc:X.calm=true):Z7 X (.builtin "max") KN:=A4.imp (wj hc) (by
 rintro xs H Q ⟨ds,M,R,hl,am,⟨i,j,z,r⟩,f⟩
 subst z
 obtain⟨v,v',rfl,h,h'⟩:=hl.two
 cases h;cases h'
 have e:(if j > i then j else i)=max i j:=by
  rw[Int.max_def];split<;>split<;>omega
 exact⟨i,j,rfl,by rw[e];exact f _ M r _ H (KT.refl H) am (.int _)⟩)
def KJ:DRC:=fun ds M R=>∃ i j:Int,ds=[.int i,.int j]∧R (.int (min i j)) M
theorem Lu(hc:X.calm=true):Z7 X (.builtin "min") KJ:=A4.imp (wg hc) (by
 rintro xs H Q ⟨ds,M,R,hl,am,⟨i,j,z,r⟩,f⟩
 subst z
 obtain⟨v,v',rfl,h,h'⟩:=hl.two
 cases h;cases h'
 have e:(if j<i then j else i)=min i j:=by
  rw[Int.min_def];split<;>split<;>omega
 exact⟨i,j,rfl,by rw[e];exact f _ M r _ H (KT.refl H) am (.int _)⟩)
noncomputable def HJ(M:Mem):D→Option Nat
 | .tup ds=>some ds.length
 | .ref p=>match M p with
  | some (.lst ds)=>some ds.length
  | _=>none
 | .vl ds=>some ds.length
 | _=>none
def vY:DRC:=fun ds M R=>∃ d n,ds=[d]∧HJ M d=some n∧R (.int (n:Int)) M
theorem dg:Z7 X (.builtin "len") vY:=A4.imp mw (by
 rintro xs H Q ⟨ds,M,R,hl,am,⟨d,n,z,hn,r⟩,f⟩
 subst z
 obtain⟨v,rfl,h⟩:=hl.one
 cases d with
 | tup es =>
  cases h with
  | tup s l =>
   cases hn
   exact⟨_,_,rfl,.inr s,by rw[l.length];exact f _ M r _ H (KT.refl H) am (.int _)⟩
 | ref p =>
  cases h
  unfold HJ at hn
  cases q:M p with
  | none=>simp[q]at hn
  | some o =>
   cases o with
   | lst es =>
    simp only[q]at hn
    cases hn
    obtain⟨ys,hy,l⟩:=am.lst q
    exact⟨p,ys,rfl,.inl (SqL.of hy),by rw[l.length];exact f _ M r _ H (KT.refl H) am (.int _)⟩
   | ins C fs=>simp[q]at hn
 | vl es =>
  cases hn
  obtain⟨a,xs,rfl,sq,l⟩:=h.il
  exact⟨a,_,rfl,.inl sq,by rw[l.length];exact f _ M r _ H (KT.refl H) am (.int _)⟩
 | _=>cases hn)
end
theorem cI:bootBuiltins "abs" = some (.builtin "abs"):=by decide +kernel
theorem AN:bootBuiltins "max" = some (.builtin "max"):=by decide +kernel
theorem Io:bootBuiltins "min" = some (.builtin "min"):=by decide +kernel
theorem X0:bootBuiltins "len" = some (.builtin "len"):=by decide +kernel
theorem Z5:bootBuiltins "isinstance" = some (.builtin "isinstance"):=by decide +kernel
theorem Ip:bootBuiltins "int" = some (.type "int"):=by decide +kernel
theorem DV:bootBuiltins "bool" = some (.type "bool"):=by decide +kernel
theorem DU:bootBuiltins "list" = some (.type "list"):=by decide +kernel
section
variable {X:Cx} {a b c:Expr} {ta tb tc:DTE} {pos:Pos}
theorem CZ:OpR X (binaryOp .Mult) (rI IntMulOk fun i j=>.int (i*j)):=opI fun _ _ _ _ _ _ _ hc q=>mul_int q hc
def CFd(i j:Int):Prop:=j≠0∧j.natAbs.log2<9000
theorem yY:OpR X (binaryOp .FloorDiv) (rI CFd fun i j=>.int (i.fdiv j)):=opI fun _ _ _ _ _ _ _ hc q=>floordiv_int hc.1 q (.inl (PyProof.noPylong_of_log2 hc.2))
theorem i8:DOp X (binaryOp .Mult) (gI IntMulOk fun i j=>.int (i*j)):=pE CZ fun _ _ _=>.int _
theorem W2:DOp X (binaryOp .FloorDiv) (gI CFd fun i j=>.int (i.fdiv j)):=pE yY fun _ _ _=>.int _
noncomputable def ixD(M:Mem):D→D→Option D
 | .tup ds,.int i=>atI ds i
 | .ref p,.int i=>match M p with
  | some (.lst ds)=>atI ds i
  | _=>none
 | .vl ds,.int i=>atI ds i
 | _,_=>none
def gIx:DR2:=fun x y M R=>∃ z,ixD M x y=some z∧R z M
theorem IxR.or'{r r':R2}(h:IxR X r)(h':IxR X r'){g:R2}(i:∀ x y H Q,g x y H Q→r x y H Q∨r' x y H Q):IxR X g:=IxR.imp (IxR.or h h') i
theorem KA:DIx X gIx:=IxR.or' HR DD (by
 rintro x y H Q ⟨dx,dy,M,R,hx,hy,am,⟨z,e,r⟩,f⟩
 cases dy with
 | int i =>
  cases hy
  cases dx with
  | tup ds =>
   cases hx with
   | tup s l =>
    obtain⟨v,h1,h2⟩:=l.at (show atI ds i=some z from e)
    exact .inl ⟨_,_,i,v,rfl,rfl,s,h1,f z M r v H (KT.refl H) am h2⟩
  | ref p =>
   cases hx
   unfold ixD at e
   cases q:M p with
   | none=>simp[q]at e
   | some o =>
    cases o with
    | lst ds =>
     simp only[q]at e
     obtain⟨xs,h1,h2⟩:=am.lst q
     obtain⟨v,h3,h4⟩:=h2.at e
     exact .inr ⟨_,_,i,v,rfl,rfl,SqL.of h1,h3,f z M r v H (KT.refl H) am h4⟩
    | ins C fs=>simp[q]at e
  | vl ds =>
   obtain⟨a,xs,rfl,sq,l⟩:=hx.il
   obtain⟨v,h1,h2⟩:=l.at (show atI ds i=some z from e)
   exact .inr ⟨_,_,i,v,rfl,rfl,sq,h1,f z M r v H (KT.refl H) am h2⟩
  | _=>simp[ixD]at e
 | _=>cases dx<;>simp[ixD]at e)
theorem G5{M:Mem}{p:Addr}{ds:List D}{i:Int}{z:D}(m:M p=some (.lst ds))(h:atI ds i=some z):ixD M (.ref p) (.int i)=some z:=by
 unfold ixD;simp only[m];exact h
noncomputable def isD:D→D→Option Bool
 | .bl a,.bl b=>some (a == b)
 | .non,.non=>some true
 | .bl _,.non=>some false
 | .int _,.non=>some false
 | .str _,.non=>some false
 | .ref _,.non=>some false
 | .tup _,.non=>some false
 | .vl _,.non=>some false
 | .exc _,.non=>some false
 | _,_=>none
theorem jB{x y:D}{b:Bool}(h:isD x y=some b):(∃ p q,x = .bl p∧y = .bl q∧b=(p == q))∨(y = .non∧((x = .non∧b=true)∨(x ≠ .non∧b=false))):=by
 cases x<;>cases y<;>simp[isD]at h<;>simp[h]
theorem uA{K:Pg}{H:Hp}{v:V}{x:D}(h:Has K H v x)(n:x ≠ .non):v ≠ .non:=by
 intro e;subst e;cases h;exact n rfl
def gIs(neg:Bool):DR2:=fun x y M R=>∃ b,isD x y=some b∧R (.bl (neg.xor b)) M
theorem gw:DOp X (compareOp .Is) (gIs false):=by
 intro pins s σ H x y v u Q I rx ry h
 obtain⟨dx,dy,M,R,hx,hy,am,⟨b,e,r⟩,f⟩:=h
 have fin:EP X pins σ Q (.bool b) s:=⟨.bl b,H,I,rfl,by have:=f _ M r (.bl b) H (KT.refl H) am (by simpa using Has.bl (K:=X.K) (H:=H) b);exact this⟩
 rcases jB e with⟨p,q,rfl,rfl,rfl⟩|⟨rfl,hx'⟩
 ·cases hx;cases hy;cases rx;cases ry
  exact is_bool fin
 ·cases hy;cases ry
  refine is_none_gen ?_
  rw[p7.none_iff rx]
  rcases hx' with⟨rfl,rfl⟩|⟨n,rfl⟩
  ·cases hx;exact fin
  ·rw[decide_eq_false (uA hx n)];exact fin
theorem uj:DOp X (compareOp .IsNot) (gIs true):=by
 intro pins s σ H x y v u Q I rx ry h
 obtain⟨dx,dy,M,R,hx,hy,am,⟨b,e,r⟩,f⟩:=h
 have fin:EP X pins σ Q (.bool (!b)) s:=⟨.bl (!b),H,I,rfl,by have:=f _ M r (.bl (!b)) H (KT.refl H) am (by simpa using Has.bl (K:=X.K) (H:=H) (!b));exact this⟩
 rcases jB e with⟨p,q,rfl,rfl,rfl⟩|⟨rfl,hx'⟩
 ·cases hx;cases hy;cases rx;cases ry
  exact isnot_bool fin
 ·cases hy;cases ry
  refine isnot_none_gen ?_
  rw[p7.none_iff rx]
  rcases hx' with⟨rfl,rfl⟩|⟨n,rfl⟩
  ·cases hx;exact fin
  ·rw[decide_eq_false (uA hx n)];exact fin
mutual
inductive PyR (M:Mem):D→PyData→Prop
 | non:PyR M .non .none
 | bl (b:Bool):PyR M (.bl b) (.bool b)
 | int (i:Int):PyR M (.int i) (.int i)
 | str (x:Str):PyR M (.str x) (.str x)
 | tup {ds:List D} {ps:List PyData}:PyRL M ds ps→PyR M (.tup ds) (.tuple ps)
 | lst {p:Addr} {ds:List D} {ps:List PyData}:M p=some (.lst ds)→PyRL M ds ps→PyR M (.ref p) (.list ps)
 | vl {ds:List D} {ps:List PyData}:PyRL M ds ps→PyR M (.vl ds) (.list ps)
inductive PyRL (M:Mem):List D→List PyData→Prop
 | nil:PyRL M [] []
 | cons {d:D} {p:PyData} {ds:List D} {ps:List PyData}:PyR M d p→PyRL M ds ps→PyRL M (d :: ds) (p :: ps)
end
mutual
theorem M9{pins:List (Addr × Obj)}{s:Shared}{σ:St}{H:Hp}{M:Mem}(I:Inv X pins σ H s)(am:o9 X.K H M):∀{d:D} {p:PyData},PyR M d p→∀{v:V} {u:Value},Has X.K H v d→p7 v u→∃ as,Reads s.heap u p as
 | _,_,.non,_,_,h,r=>by cases h;cases r;exact⟨_,.none⟩
 | _,_,.bl b,_,_,h,r=>by cases h;cases r;exact⟨_,.bool b⟩
 | _,_,.int i,_,_,h,r=>by cases h;obtain⟨t,rfl⟩:=r;exact⟨_,.int i t⟩
 | _,_,.str x,_,_,h,r=>by cases h;obtain⟨t,rfl⟩:=r;exact⟨_,.str x t⟩
 | _,_,.tup l,_,_,h,r=>by
  cases h with
  | tup s' hl =>
   cases r
   obtain⟨its,rv,⟨o,e,hc,n,hd⟩,_⟩:=I.tuple s'
   obtain⟨as,ra⟩:=readsL_of I am l hl rv
   exact⟨as,.tuple e hc hd (by simpa using ra)⟩
 | _,_,.lst m l,_,_,h,r=>by
  cases h
  cases r
  obtain⟨xs,hx,hl⟩:=am.lst m
  obtain⟨its,rv,⟨o,n,e,hc,_,hd⟩,_⟩:=I.list (SqL.of hx)
  obtain⟨as,ra⟩:=readsL_of I am l hl rv
  exact⟨_,.list e hc hd (by simpa using ra)⟩
 | _,_,.vl l,_,_,h,r=>by
  obtain⟨a,xs,rfl,sq,hl⟩:=h.il
  cases r
  obtain⟨its,rv,⟨o,n,e,hc,_,hd⟩,_⟩:=I.list sq
  obtain⟨as,ra⟩:=readsL_of I am l hl rv
  exact⟨_,.list e hc hd (by simpa using ra)⟩
theorem readsL_of{pins:List (Addr × Obj)}{s:Shared}{σ:St}{H:Hp}{M:Mem}(I:Inv X pins σ H s)(am:o9 X.K H M):∀{ds:List D} {ps:List PyData},PyRL M ds ps→∀{vs:List V} {us:List Value},HasL X.K H vs ds→j0 vs us→∃ as,ReadsAll s.heap us ps as
 | _,_,.nil,_,_,h,r=>by cases h;cases r;exact⟨_,.nil⟩
 | _,_,.cons a l,_,_,h,r=>by
  cases h with
  | cons h hl =>
   cases r with
   | cons r rl =>
    obtain⟨as,q⟩:=M9 I am a h r
    obtain⟨bs,q2⟩:=readsL_of I am l hl rl
    exact⟨_,.cons q q2⟩
end
def gEq(neg:Bool):DR2:=fun x y M R=>∃ px py,PyR M x px∧PyR M y py∧SeqAt.shaped px=true∧SeqAt.shaped py=true∧R (.bl (neg.xor (PyData.eqv px py))) M
theorem Mf(hu:X.A.units+64<cLine):DOp X (compareOp .Eq) (gEq false):=by
 intro pins s σ H x y v u Q I rx ry h
 obtain⟨dx,dy,M,R,hx,hy,am,⟨px,py,p1,p2,s1,s2,r⟩,f⟩:=h
 obtain⟨as,r1⟩:=M9 I am p1 hx rx
 obtain⟨bs,r2⟩:=M9 I am p2 hy ry
 exact eq_dataH r1 r2 s1 s2 hu ⟨.bl _,H,I,rfl,by have:=f _ M r _ H (KT.refl H) am (.bl _);simpa using this⟩
theorem Md(hu:X.A.units+64<cLine):DOp X (compareOp .NotEq) (gEq true):=by
 intro pins s σ H x y v u Q I rx ry h
 obtain⟨dx,dy,M,R,hx,hy,am,⟨px,py,p1,p2,s1,s2,r⟩,f⟩:=h
 obtain⟨as,r1⟩:=M9 I am p1 hx rx
 obtain⟨bs,r2⟩:=M9 I am p2 hy ry
 exact ne_dataH r1 r2 s1 s2 hu ⟨.bl _,H,I,rfl,by have:=f _ M r _ H (KT.refl H) am (.bl _);simpa using this⟩
mutual
noncomputable def pyD:D→PyData
 | .int i=>.int i
 | .str x=>.str x
 | .bl b=>.bool b
 | .tup ds=>.tuple (pyDL ds)
 | .vl ds=>.list (pyDL ds)
 | _=>.none
noncomputable def pyDL:List D→List PyData
 | []=>[]
 | d :: r=>pyD d :: pyDL r
end
mutual
noncomputable def cl:Nat→D→Bool
 | _,.int _=>true
 | _,.non=>true
 | _,.str x=>PyData.canLay0 (.str x)
 | k+1,.tup ds=>clL k ds
 | k+1,.vl ds=>clL k ds
 | _,_=>false
noncomputable def clL:Nat→List D→Bool
 | _,[]=>true
 | k,d :: r=>cl k d && clL k r
end
mutual
theorem jH{M:Mem}:∀{k:Nat} {d:D},cl k d=true→PyR M d (pyD d)∧(pyD d).canLay0=true∧(pyD d).depth≤k
 | _,.int i,_=>⟨.int i,rfl,Qs _⟩
 | _,.non,_=>⟨.non,rfl,Qs _⟩
 | 0,.tup ds,h=>by simp[cl]at h
 | k+1,.tup ds,h=>by
  obtain⟨a,b,c⟩:=clL_py (M:=M) (k:=k) (ds:=ds) (by simpa[cl]using h)
  exact⟨.tup a,by simpa[pyD,PyData.canLay0]using b,by simp only[pyD,PyData.depth];omega⟩
 | _,.str x,h=>⟨.str x,by simpa[cl,pyD]using h,Qs _⟩
 | _,.bl _,h=>by simp[cl]at h
 | _,.ref _,h=>by simp[cl]at h
 | 0,.vl ds,h=>by simp[cl]at h
 | k+1,.vl ds,h=>by
  obtain⟨a,b,c⟩:=clL_py (M:=M) (k:=k) (ds:=ds) (by simpa[cl]using h)
  exact⟨.vl a,by simpa[pyD,PyData.canLay0]using b,by simp only[pyD,PyData.depth];omega⟩
 | _,.ty _,h=>by simp[cl]at h
theorem clL_py{M:Mem}:∀{k:Nat} {ds:List D},clL k ds=true→PyRL M ds (pyDL ds)∧PyData.canLayAll0 (pyDL ds)=true∧PyData.depthAll (pyDL ds)≤k
 | _,[],_=>⟨.nil,rfl,Qs _⟩
 | k,d :: r,h=>by
  have h':cl k d=true∧clL k r=true:=by simpa[clL]using h
  obtain⟨a,b,c⟩:=jH (M:=M) h'.1
  obtain⟨a2,b2,c2⟩:=clL_py (M:=M) h'.2
  exact⟨.cons a a2,by simp[pyDL,PyData.canLayAll0,b,b2],by simp only[pyDL,PyData.depthAll];omega⟩
end
mutual
theorem rF:∀{k j:Nat} {x y:D},cl k x=true→cl j y=true→(PyData.eqv (pyD x) (pyD y)=true↔x=y)
 | _,_,.int i,.int j,_,_=>by simp[pyD,PyData.eqv]
 | _,_,.int i,.non,_,_=>by simp[pyD,PyData.eqv]
 | _,_,.non,.int i,_,_=>by simp[pyD,PyData.eqv]
 | _,_,.non,.non,_,_=>by simp[pyD,PyData.eqv]
 | _,_,.int i,.tup ds,_,_=>by simp[pyD,PyData.eqv]
 | _,_,.non,.tup ds,_,_=>by simp[pyD,PyData.eqv]
 | _,_,.tup ds,.int i,_,_=>by simp[pyD,PyData.eqv]
 | _,_,.tup ds,.non,_,_=>by simp[pyD,PyData.eqv]
 | k+1,j+1,.tup ds,.tup es,h,h'=>by
  have:=clL_eqv (k:=k) (j:=j) (xs:=ds) (ys:=es) (by simpa[cl]using h) (by simpa[cl]using h')
  simp only[pyD,PyData.eqv,D.tup.injEq]
  exact this
 | 0,_,.tup ds,.tup es,h,_=>by simp[cl]at h
 | _,0,.tup ds,.tup es,_,h=>by simp[cl]at h
 | _,_,.str x,.str y,_,_=>by simp[pyD,PyData.eqv]
 | _,_,.str x,.int i,_,_=>by simp[pyD,PyData.eqv]
 | _,_,.str x,.non,_,_=>by simp[pyD,PyData.eqv]
 | _,_,.str x,.tup ds,_,_=>by simp[pyD,PyData.eqv]
 | _,_,.int i,.str x,_,_=>by simp[pyD,PyData.eqv]
 | _,_,.non,.str x,_,_=>by simp[pyD,PyData.eqv]
 | _,_,.tup ds,.str x,_,_=>by simp[pyD,PyData.eqv]
 | k+1,j+1,.vl ds,.vl es,h,h'=>by
  have:=clL_eqv (k:=k) (j:=j) (xs:=ds) (ys:=es) (by simpa[cl]using h) (by simpa[cl]using h')
  simp only[pyD,PyData.eqv,D.vl.injEq]
  exact this
 | 0,_,.vl ds,.vl es,h,_=>by simp[cl]at h
 | _,0,.vl ds,.vl es,_,h=>by simp[cl]at h
 | _,_,.vl ds,.int i,_,_=>by simp[pyD,PyData.eqv]
 | _,_,.vl ds,.non,_,_=>by simp[pyD,PyData.eqv]
 | _,_,.vl ds,.str x,_,_=>by simp[pyD,PyData.eqv]
 | _,_,.vl ds,.tup es,_,_=>by simp[pyD,PyData.eqv]
 | _,_,.int i,.vl ds,_,_=>by simp[pyD,PyData.eqv]
 | _,_,.non,.vl ds,_,_=>by simp[pyD,PyData.eqv]
 | _,_,.str x,.vl ds,_,_=>by simp[pyD,PyData.eqv]
 | _,_,.tup es,.vl ds,_,_=>by simp[pyD,PyData.eqv]
 | _,_,.bl _,_,h,_=>by simp[cl]at h
 | _,_,.ref _,_,h,_=>by simp[cl]at h
 | _,_,.ty _,_,h,_=>by simp[cl]at h
 | _,_,_,.bl _,_,h=>by simp[cl]at h
 | _,_,_,.ref _,_,h=>by simp[cl]at h
 | _,_,_,.ty _,_,h=>by simp[cl]at h
theorem clL_eqv:∀{k j:Nat} {xs ys:List D},clL k xs=true→clL j ys=true→(PyData.eqvAll (pyDL xs) (pyDL ys)=true↔xs=ys)
 | _,_,[],[],_,_=>by simp[pyDL,PyData.eqvAll]
 | _,_,[],_ :: _,_,_=>by simp[pyDL,PyData.eqvAll]
 | _,_,_ :: _,[],_,_=>by simp[pyDL,PyData.eqvAll]
 | k,j,x :: xs,y :: ys,h,h'=>by
  have h1:cl k x=true∧clL k xs=true:=by simpa[clL]using h
  have h2:cl j y=true∧clL j ys=true:=by simpa[clL]using h'
  have e1:=rF h1.1 h2.1
  have e2:=clL_eqv h1.2 h2.2
  simp only[pyDL,PyData.eqvAll,Rl,e1,e2,List.cons.injEq]
end
open Classical in
theorem Aa{neg:Bool}{x y:D}{M:Mem}{R:DK}(h:R (.bl (neg.xor (decide (x=y)))) M)(hx:cl 60 x=true:=by rfl)(hy:cl 60 y=true:=by rfl):gEq neg x y M R:=by
 obtain⟨a,b,c⟩:=jH (M:=M) hx
 obtain⟨a2,b2,c2⟩:=jH (M:=M) hy
 refine⟨_,_,a,a2,?_,?_,?_⟩
 ·simp only[SeqAt.shaped,b,TM];exact decide_eq_true (by omega)
 ·simp only[SeqAt.shaped,b2,TM];exact decide_eq_true (by omega)
 ·have e:PyData.eqv (pyD x) (pyD y)=decide (x=y):=by
   have:=rF hx hy
   by_cases q:x=y
   ·rw[decide_eq_true q];exact this.mpr q
   ·rw[decide_eq_false q]
    cases z:PyData.eqv (pyD x) (pyD y)with
    | false=>rfl
    | true=>exact absurd (this.mp z) q
  rw[e];exact h
noncomputable def tyD(M:Mem):D→Option String
 | .non=>some "NoneType"
 | .bl _=>some "bool"
 | .int _=>some "int"
 | .str _=>some "str"
 | .tup _=>some "tuple"
 | .ref p=>match M p with
  | some (.lst _)=>some "list"
  | _=>none
 | .vl _=>some "list"
 | .ty _=>none
 | .dic=>some "dict"
 | .exc _=>none
noncomputable def Ce(t T:String):Option Bool:=if t=T then some true else
 match t,T with
 | "bool","int" => some true
 | _,_=>if (t∈["NoneType","bool","int","str","tuple","list","dict"])∧(T∈["bool","int","str","tuple","list"])then some false else none
def AW(K:Pg):Prop:=∀ t T b,Ce t T=some b→PySem.W.kitOne K (.type t) (.type T)=some b
theorem Fs{x:Str}{n:String}(hg:Gl X x)(hm:X.mg x=none)(hv:bootBuiltins x=some (.type n))(hn:x ≠ "__name__" := by decide)(hd:(x == ("__debug__" : Str))=false:=by decide):JE X (.Name x pos) (dC (.ty n)):=⟨Y6 (v:=.ty n) (CT hg hm hv rfl hn hd) fun _=>.ty n⟩
def B5:DRC:=fun ds M R=>∃ d t T b,ds=[d,.ty T]∧tyD M d=some t∧Ce t T=some b∧R (.bl b) M
theorem FX(hk:AW X.K):Z7 X (.builtin "isinstance") B5:=by
 intro pins s σ H xs us Q I rv h
 obtain⟨ds,M,R,hl,am,⟨d,t,T,b,rfl,ht,hb,r⟩,f⟩:=h
 obtain⟨v,v',rfl,h1,h2⟩:=hl.two
 cases h2
 obtain⟨u,w',rfl,r1,r2⟩:=xP rv
 cases(show w'=Value.type T from r2)
 have e:=hk t T b hb
 have fin:∀ tk,EP X pins σ Q (.bool b) { s with toks:=tk }:=fun tk=>⟨.bl b,H,I.tok tk,rfl,f _ M r _ H (KT.refl H) am (.bl b)⟩
 cases h1 with
 | non=>cases ht;exact Q6 I r1 .non e fin
 | bl q=>cases ht;exact Q6 I r1 (.bl q) e fin
 | int q=>cases ht;exact Q6 I r1 (.int q) e fin
 | str q=>cases ht;exact Q6 I r1 (.str q) e fin
 | ty q=>cases ht
 | ref p =>
  unfold tyD at ht
  cases q:M p with
  | none=>simp[q]at ht
  | some o =>
   cases o with
   | lst es =>
    simp only[q]at ht
    cases ht
    obtain⟨ys,hy,_⟩:=am.lst q
    exact Q6 I r1 (.lst hy) e fin
   | ins C fs=>simp[q]at ht
 | tup s' l =>
  cases ht
  cases(show u=Value.ref _ from r1)
  obtain⟨its,_,⟨o,h1,h2,_⟩,_⟩:=I.tuple s'
  exact PySem.W.kia_one PySem.W.kitx_tuple I.kIn ⟨o,h1,h2⟩ e (fun z=>nomatch z) fin
 | vl hq hl' =>
  cases ht
  cases(show u=Value.ref _ from r1)
  obtain⟨_,_,ea,sq,_⟩:=Has.il (.vl hq hl')
  cases ea
  obtain⟨its,_,⟨o,n,h1,h2,_⟩,_⟩:=I.list sq
  exact PySem.W.kia_one PySem.W.kitx_list I.kIn ⟨o,h1,h2⟩ e (fun z=>nomatch z) fin
 | dic hq =>
  cases ht
  cases(show u=Value.ref _ from r1)
  obtain⟨o,g1,g2⟩:=hq
  exact PySem.W.kia_one PySem.W.kitx_dict I.kIn ⟨o,(I.hok _ _ g1).1,g2⟩ e (fun z=>nomatch z) fin
 | exc hq=>cases ht
end
section
variable {X:Cx} {a b c:Expr} {ta tb tc:DTE} {pos:Pos}
def Y0:DXK:=fun _ _=>False
theorem Ms{K:Pg}{H:Hp}{E:XK}:IH K H Y0 E:=fun _ _ h=>h.elim
structure Ei(K:Pg)(x:Str)(st:Stmt)(f:Addr)(fd:FuncData):Prop where
 ex:∃(oc:Value) (od:Option Addr) (dV kV doc pm:Value) (an:Option Addr) (cdv ct:Value) (osl:Array (Option Value)),
  fd=PySem.W.fnOf x x (S3 st) (L4 st) (e7 st) dV kV doc pm an cdv ct∧K.lookup f=some ⟨oc,od,.func fd,osl⟩∧PySem.W.codeIn K cdv x=true
 kp:PySem.W.keepIn K (.ref f)=true
structure Df(K:Pg)(mg:Str→Option Value)(x:Str)(st:Stmt)(ps:List Str):Prop where
 ex:∃(f:Addr) (fd:FuncData),Ei K x st f fd∧mg x=some (.ref f)∧gW K fd ps []
structure DfL(K:Pg)(mg:Str→Option Value)(x:Str)(st:Stmt)(ps:List Str):Prop where
 ex:∃(f:Addr) (fd:FuncData),Ei K x st f fd∧mg x=some (.ref f)∧∀ us:List Value,us.length=ps.length→bindArgs fd ⟨us,[]⟩=pure (ps.zip us)
structure Fn(P:Program)(w:World)(K:Pg)(mg:Str→Option Value)(base:Heap)(x:Str)(k:Nat)(ps:List Str)(sp:DSp):Prop where
 ex:∃(f:Addr) (fd:FuncData),S8 P w K mg base CX0 k f fd ps (nF K sp)∧mg x=some (.ref f)∧PySem.W.keepIn K (.ref f)=true∧gW K fd ps []
theorem zS{x:Str}{j:Nat}{ps:List Str}{sp:DSp}{p:Pos}{e:Expr}{es:List Expr}{t:DTA}(G:Fn X.prog X.w X.K X.mg X.base x j ps sp)(hr:K1 j X.A)(hg:Gl X x)(ha:JA X (e :: es) t)
  (hdb:(x == ("__debug__" : Str))=false:=by decide) (he:starEach (e :: es) X.env=(false,eval e X.env) :: starEach es X.env:=by rfl) (hpl:(backTo pos (starEach es X.env)).any (·.1)=false:=by rfl):JE X (.Call (.Name x p) (e :: es) [] pos) (uQ sp [] Y0 t):=⟨have ha:=ha.out;by
 obtain⟨f,fd,F,hm,hk,hb⟩:=G.ex
 exact Ic F hr hg hm hk hb .nil (fun _=>.nil) Kf (fun _=>Ms) ha hdb he hpl⟩
end
section
variable {P:Program} {w:World} {K:Pg} {mg:Str→Option Value} {base:Heap}
theorem Fu{x:Str}{st:Stmt}{f:Addr}{fd:FuncData}{N ps:List Str}{k:Nat}{sp:DSp}(F:Ei K x st f fd)(S:e9 N ps (e7 st))(len:∀ ds M R Y,sp ds M R Y→ds.length=ps.length)
  (hbody:∀(cdv:Value) (A:Around) (outer:List Env) (s:Shared) (H:Hp) (E:XK) (ds:List D) (M:Mem) (R:DK) (Y:DXK),K1 k (A.deeper (envOfC x (e7 st) s.heap.objs.size f cdv))→sp ds M R Y →
   ∃ t,JSs (pG CX0 P w K mg base N x (e7 st) f cdv A outer s H E).nox (L4 st) t∧t { nx:=fun _ M'=>R .non M',rt:=R } (aH N ds) M):S8 P w K mg base CX0 (k+1) f fd ps (nF K sp):=by
 obtain⟨oc,od,dV,kV,doc,pm,an,cdv,ct,osl,rfl,lk,hcd⟩:=F.ex
 refine KS lk hcd S (fun vs H Q E ⟨ds,M,R,Y,hl,_,hs,_,_⟩=>by rw[hl.length];exact len ds M R Y hs) fun A outer s H vs Q E hr zz=>?_
 obtain⟨ds,M,R,Y,hl,am,hs,fv,fx⟩:=zz
 obtain⟨t,h1,h2⟩:=hbody cdv A outer s H E ds M R Y hr hs
 refine⟨_,h1.out.nox,aH N ds,M,_,A7.start0 hl,am,h2,⟨?_,fv,fun _ _ h=>h.elim,fun _ _ h=>h.elim⟩⟩
 exact fun e M' h σ' H' kt a o=>fv .non M' h .non H' kt a .non
theorem i4{x:Str}{st:Stmt}{N ps:List Str}{k:Nat}{sp:DSp}(d:Df K mg x st ps)(S:e9 N ps (e7 st))(len:∀ ds M R Y,sp ds M R Y→ds.length=ps.length)
  (hbody:∀(f:Addr) (cdv:Value) (A:Around) (outer:List Env) (s:Shared) (H:Hp) (E:XK) (ds:List D) (M:Mem) (R:DK) (Y:DXK),K1 k (A.deeper (envOfC x (e7 st) s.heap.objs.size f cdv))→sp ds M R Y →
   ∃ t,JSs (pG CX0 P w K mg base N x (e7 st) f cdv A outer s H E).nox (L4 st) t∧t { nx:=fun _ M'=>R .non M',rt:=R } (aH N ds) M):Fn P w K mg base x (k+1) ps sp:=by
 obtain⟨f,fd,F,hm,hb⟩:=d.ex
 exact⟨f,fd,Fu F S len (hbody f),hm,F.kp,hb⟩
theorem i7{x:Str}{st:Stmt}{ps:List Str}{h:Heap}{f:Addr}{oc:Value}{od an:Option Addr}{osl:Array (Option Value)}{dV kV doc pm cdv ct:Value}(X:K.In h)(G:h.Ns mainGlobals mg)
  (n:PySem.W.nsIn K mainGlobals x=some (some (.ref f)))
  (l:K.lookup f=some ⟨oc,od,.func (PySem.W.fnOf x x (S3 st) (L4 st) (e7 st) dV kV doc pm an cdv ct),osl⟩)
  (c:PySem.W.codeIn K cdv x=true) (k:PySem.W.keepIn K (.ref f)=true)
  (hb:∀ us:List Value,us.length=ps.length→bindArgs (PySem.W.fnOf x x (S3 st) (L4 st) (e7 st) dV kV doc pm an cdv ct) ⟨us,[]⟩=pure (ps.zip us)):Df K mg x st ps :=
 ⟨f,_,⟨⟨oc,od,dV,kV,doc,pm,an,cdv,ct,osl,rfl,l,c⟩,k⟩,PySem.W.mg_of X G n,.all hb⟩
theorem HY{x:Str}{st:Stmt}{ps:List Str}{h:Heap}{f:Addr}{oc:Value}{od an:Option Addr}{osl:Array (Option Value)}{dV kV doc pm cdv ct:Value}(X:K.In h)(G:h.Ns mainGlobals mg)
  (n:PySem.W.nsIn K mainGlobals x=some (some (.ref f)))
  (l:K.lookup f=some ⟨oc,od,.func (PySem.W.fnOf x x (S3 st) (L4 st) (e7 st) dV kV doc pm an cdv ct),osl⟩)
  (c:PySem.W.codeIn K cdv x=true) (k:PySem.W.keepIn K (.ref f)=true)
  (hb:∀ us:List Value,us.length=ps.length→bindArgs (PySem.W.fnOf x x (S3 st) (L4 st) (e7 st) dV kV doc pm an cdv ct) ⟨us,[]⟩=pure (ps.zip us)):DfL K mg x st ps :=
 ⟨f,_,⟨⟨oc,od,dV,kV,doc,pm,an,cdv,ct,osl,rfl,l,c⟩,k⟩,PySem.W.mg_of X G n,hb⟩
theorem HZ{x:Str}{st:Stmt}{ps:List Str}{h:Heap}{f:Addr}{oc:Value}{od an:Option Addr}{osl:Array (Option Value)}{dV kV doc pm cdv ct:Value}(X:K.In h)(G:h.Ns mainGlobals mg)
  (n:PySem.W.nsIn K mainGlobals x=some (some (.ref f)))
  (l:K.lookup f=some ⟨oc,od,.func (PySem.W.fnOf x x (S3 st) (L4 st) (e7 st) dV kV doc pm an cdv ct),osl⟩)
  (c:PySem.W.codeIn K cdv x=true) (k:PySem.W.keepIn K (.ref f)=true)
  (hb:∀ us:List Value,us.length=ps.length→∀ S,PySem.W.peek K S (bindArgs (PySem.W.fnOf x x (S3 st) (L4 st) (e7 st) dV kV doc pm an cdv ct) ⟨us,[]⟩)=some (ps.zip us)):Df K mg x st ps :=
 ⟨f,_,⟨⟨oc,od,dV,kV,doc,pm,an,cdv,ct,osl,rfl,l,c⟩,k⟩,PySem.W.mg_of X G n,fun s us X' hl=>by rw[Rp]at hl ⊢;exact PySem.W.kp_binds X' (hb us hl)⟩
end
section
variable {X:Cx} {x:Str} {p pos:Pos} {e:Expr} {es:List Expr} {t:DTA} {id T:String} {o:Expr} {to:DTE} {a b c:Expr} {ta tb tc:DTE}
theorem v8{g:DRC}(hc:Z7 X (.builtin id) g)(hg:Gl X x)(hm:X.mg x=none)(hv:bootBuiltins x=some (.builtin id))(ha:JA X (e :: es) t)
  (hn:x ≠ "__name__" := by decide) (hdb:(x == ("__debug__" : Str))=false:=by decide) (he:starEach (e :: es) X.env=(false,eval e X.env) :: starEach es X.env:=by rfl) (hpl:(backTo pos (starEach es X.env)).any (·.1)=false:=by rfl):JE X (.Call (.Name x p) (e :: es) [] pos) (dCB g t):=⟨have ha:=ha.out;(yV hc hg hm hv ha hn hdb he hpl).imp fun _ _ _ h=>Lp h⟩
theorem Dc:OpR X (binaryOp .Add) (fun x y H Q=>∃ l b xs zs,x = .ref l∧y = .ref b∧SqL X.K H l xs∧SqL X.K H b zs∧xs.length+zs.length≤sizeLine∧∀ p,H p=none→Q (.ref p) (upd H p (.lst (xs++zs)))):=by
 intro pins s σ H x y v u Q I rx ry h
 obtain⟨l,b,xs,zs,rfl,rfl,hH,hB,hz,q⟩:=h
 cases rx
 cases ry
 obtain⟨its,r,pl,z1⟩:=I.list hH
 obtain⟨its2,r2,pl2,z2⟩:=I.list hB
 have hl:=r.length
 have hl2:=r2.length
 obtain⟨⟨cls,dd,data,sl⟩,ho,hc,n,hd⟩:=pl.isList
 obtain⟨⟨cls2,dd2,data2,sl2⟩,ho2,hc2,n2,hd2⟩:=pl2.isList
 simp only at hc hd hc2 hd2
 subst hc hd hc2 hd2
 have ea:its.toArray++its2.toArray=(its++its2).toArray:=by simp
 refine concat_meets ⟨_,ho,rfl⟩ ⟨_,ho2,rfl⟩ noFill_list_add seq_list_add PySem.F.slot_list_add PySem.F.entry_list_add (PySem.F.args_list_add_2 _ _) (list_addW l b its.toArray its2.toArray n n2 dd dd2 sl sl2 (by simp only[PR];omega)) ⟨ho,ho2,?_⟩
 rw[ea]
 exact⟨.ref _,_,I.lnew (t':=s.toks) (r.append r2) (by rw[PB];omega),rfl,q _ I.fresh⟩
noncomputable def N0(M:Mem):D→Option (List D)
 | .ref p=>match M p with
  | some (.lst ds)=>some ds
  | _=>none
 | .vl ds=>some ds
 | _=>none
theorem B4{K:Pg}{H:Hp}{M:Mem}{v:V}{d:D}{ds:List D}(am:o9 K H M)(h:Has K H v d)(e:N0 M d=some ds):∃ a xs,v = .ref a∧SqL K H a xs∧HasL K H xs ds:=by
 cases h with
 | ref p =>
  unfold N0 at e
  cases q:M p with
  | none=>simp[q]at e
  | some o =>
   cases o with
   | lst es =>
    simp only[q]at e
    cases e
    obtain⟨xs,hx,l⟩:=am.lst q
    exact⟨p,xs,rfl,SqL.of hx,l⟩
   | ins C fs=>simp[q]at e
 | vl hq hl =>
  cases e
  exact Has.il (.vl hq hl)
 | _=>cases e
end
theorem sl(n:Nat)(h:n≤1000:=by decide):n≤sizeLine:=Pu h (by decide)
section
variable {X:Cx}
open Classical in
def HV(neg:Bool):DR2:=fun x y M R=>cl 60 x=true∧cl 60 y=true∧R (.bl (neg.xor (decide (x=y)))) M
theorem js(hu:X.A.units+64<cLine):DOp X (compareOp .Eq) (HV false):=OpR.imp (Mf hu) (by rintro _ _ _ _ ⟨dx,dy,M,R,hx,hy,am,⟨h1,h2,h3⟩,f⟩;exact⟨dx,dy,M,R,hx,hy,am,Aa h3 h1 h2,f⟩)
theorem oR(hu:X.A.units+64<cLine):DOp X (compareOp .NotEq) (HV true):=OpR.imp (Md hu) (by rintro _ _ _ _ ⟨dx,dy,M,R,hx,hy,am,⟨h1,h2,h3⟩,f⟩;exact⟨dx,dy,M,R,hx,hy,am,Aa h3 h1 h2,f⟩)
theorem gx:DOp X (compareOp .Eq) (gF (fI fun i j=>.bl (decide (i=j)))):=OpR.imp Fo (by
 rintro x y H Q ⟨dx,dy,M,R,hx,hy,am,⟨z,e,r⟩,f⟩
 obtain⟨i,j,e1,e2,e3⟩:=lT e
 subst e1;subst e2;subst e3
 cases hx;cases hy
 refine⟨rfl,?_⟩
 have e:decide (V.int i=V.int j)=decide (i=j):=by simp
 rw[e]
 exact f _ M r _ H (KT.refl H) am (.bl _))
theorem Kl:DOp X (compareOp .NotEq) (gF (fI fun i j=>.bl (!decide (i=j)))):=OpR.imp Kg (by
 rintro x y H Q ⟨dx,dy,M,R,hx,hy,am,⟨z,e,r⟩,f⟩
 obtain⟨i,j,e1,e2,e3⟩:=lT e
 subst e1;subst e2;subst e3
 cases hx;cases hy
 refine⟨rfl,?_⟩
 have e:decide (V.int i=V.int j)=decide (i=j):=by simp
 rw[e]
 exact f _ M r _ H (KT.refl H) am (.bl _))
end
theorem Mk{c:Prop}[Decidable c]{A B:Prop}(h1:c→A)(h2:¬ c→B):if decide c=true then A else B:=by
 by_cases h:c
 ·rw[if_pos (decide_eq_true h)];exact h1 h
 ·rw[if_neg (by rw[decide_eq_false h];exact PZ)];exact h2 h
theorem Kw{c:Prop}[Decidable c]{A B:Prop}(h1:¬ c→A)(h2:c→B):if (!decide c)=true then A else B:=by
 by_cases h:c
 ·rw[decide_eq_true h];rw[if_neg (by decide)];exact h2 h
 ·rw[decide_eq_false h];rw[if_pos (by decide)];exact h1 h
theorem W3{n k:Nat}(h:n<2 ^ k)(hk:0<k):n.log2<k:=by
 rcases TK n with h0|h0
 ·subst h0;rw[Nat.log2_zero];exact hk
 ·exact(Tv (Tw.mp h0)).mpr h
theorem r9{a b:Int}(m n:Nat)(ha:a.natAbs<2 ^ m)(hb:b.natAbs<2 ^ n)(h:m+n≤100000):IntMulOk a b:=by
 have hx:∀(x:Int) (k:Nat),x.natAbs<2 ^ k→Builtin.Int.intBits x≤k:=fun x k hx=>by
  unfold Builtin.Int.intBits
  split
  ·exact Qs _
  ·rename_i h0
   have:x.natAbs≠0:=by
    intro z;apply h0
    first|exact(by simpa using TN.mp z)|(simp;omega)
   have:=(Tv this).mpr hx
   omega
 exact PySem.IntMulOk.of_le (hx a m ha) (hx b n hb) (by omega)
noncomputable def Mh(t T:String):Option Bool:=if PySem.W.kitMeta T=true then(fastBuiltinMro t).map (·.contains (.type T))else none
theorem JL(K:Pg):AW K:=by
 intro t T b h
 unfold Ce at h
 by_cases e:t=T
 ·subst e
  rw[if_pos rfl]at h
  cases h
  unfold PySem.W.kitOne
  rw[if_pos (beq_self_eq_true _)]
 ·rw[if_neg e]at h
  have hne:¬ (Value.type t == Value.type T)=true:=fun z=>e (by have:=eq_of_beq z;injection this)
  unfold PySem.W.kitOne
  rw[if_neg hne]
  show Mh t T=some b
  split at h
  ·cases h;decide +kernel
  ·split at h
   ·rename_i hh
    obtain⟨ht,hT⟩:=hh
    simp only[Pn,Qb,or_false]at ht hT
    cases h
    rcases ht with rfl|rfl|rfl|rfl|rfl|rfl|rfl<;>rcases hT with rfl|rfl|rfl|rfl|rfl<;>first|exact absurd rfl e|decide +kernel|(exfalso;simp_all)
   ·cases h
theorem qZ{K:Pg}{H:Hp}{a:Addr}{ns:List Int}(hO:wq H)(hS:SqL K H a (ns.map V.int)):Has K H (.ref a) (.vl (ns.map D.int)):=by
 rcases hS with(h|⟨o,h⟩)|h
 ·rcases hO a with z|⟨o,xs,z⟩
  ·rw[z]at h;cases h
  ·rw[z]at h;cases h
 ·exact .vl (.inl ⟨o,h⟩) (HasL.ints ns)
 ·exact .vl (.inr fun _=>.inr h) (HasL.ints ns)
theorem HK{K:Pg}{H:Hp}{a:Addr}{ns:List Int}{sp:DSp}(hO:wq H)(hS:SqL K H a (ns.map V.int))(h:sp [.vl (ns.map D.int)] (fun _=>none) (fun d _=>d = .bl true) Y0) :
  nF K sp [.ref a] H (fun v _=>v = .bl true) (fun _ _ _=>False) :=
 ⟨[.vl (ns.map D.int)],fun _=>none,fun d _=>d = .bl true,Y0,.cons (qZ hO hS) .nil,fun _ _ z=>(by cases z),h,fun d M' e v H' _ _ hv=>by subst e;cases hv;rfl,fun _ _ z=>z.elim⟩
section
variable {X:Cx} {o e:Expr} {es:List Expr} {to:DTE} {t:DTA} {name:Str} {apos cpos:Pos} {id:String}
noncomputable abbrev DRM:=D→List D→Mem→DK→Prop
noncomputable def upM(K:Pg)(g:DRM):V→List V→Hp→VK→Prop:=fun x xs H Q=>∃ dx ds M R,Has K H x dx∧HasL K H xs ds∧o9 K H M∧g dx ds M R∧gT K H R Q
def DMt(X:Cx)(id:String)(g:DRM):Prop:=MtR X id (upM X.K g)
theorem MtR.imp{r r':V→List V→Hp→VK→Prop}(h:MtR X id r)(i:∀ x xs H Q,r' x xs H Q→r x xs H Q):MtR X id r':=fun pins s σ H x xs v us Q I rx rv q=>h pins s σ H x xs v us Q I rx rv (i x xs H Q q)
def dLM(g:DRM)(to:DTE)(t:DTA):DTE:=fun e M R=>to e M fun x M1=>(∃ l ds,x = .ref l∧M1 l=some (.lst ds))∧t e M1 fun xs M2=>g x xs M2 R
theorem jA{g:DRM}(slot:Slot "list" name id)(hty:typeOf (.builtin id)=pure (.type "method_descriptor"))(hm:DMt X id g)(ho:JE X o to)(ha:JA X (e :: es) t)
  (hbase:attributeBase o name X.env (eval o X.env)=eval o X.env:=by rfl)
  (hfew:((backTo cpos (starEach (e :: es) X.env)).all (fun x=>!x.1) && (backToKw cpos (keywordEach [] X.env)).all (fun x=>x.1.isSome)
   && decide ((e :: es).length+([]:List Keyword).length+(if ([]:List Keyword).isEmpty then 0 else 1)<30))=true:=by rfl)
  (hline:(apos.endLine == cpos.line)=true:=by rfl) (hs:starEach (e :: es) X.env=(false,eval e X.env) :: starEach es X.env:=by rfl) (hplain:(backTo cpos (starEach es X.env)).any (·.1)=false:=by rfl):JE X (.Call (.Attribute o name apos) (e :: es) [] cpos) (dLM g to t):=⟨have ho:=ho.out;have ha:=ha.out;(Kd PySem.F.plainAttrs_list slot hty hm ho ha hbase hfew hline hs hplain).imp (by rintro σ H Q ⟨e,M,R,ok,am,t,f⟩;exact⟨e,M,_,ok,am,t,fun x M1 ⟨⟨l,ds,z,hM⟩,h1⟩ v H1 k1 a1 r1=>by
  subst z
  have r1':=r1
  cases r1
  obtain⟨xs,hx,_⟩:=a1.lst hM
  refine⟨.inl ⟨rfl,xs,SqL.of hx⟩,e,M1,_,ok.mono k1,a1,h1,fun zs M2 h2 vs H2 k2 a2 r2=>?_⟩
  exact⟨_,zs,M2,R,r1'.mono k2,r2,a2,h2,f.mono (k1.trans k2)⟩⟩)⟩
theorem fG:∀{bs:List Bool} {us:List Value},j0 (bs.map V.bl) us→us=bs.map Value.bool
 | [],_,r=>by cases r;rfl
 | b :: bs,_,r=>by
  cases r with
  | cons r rr =>
   cases(show _=Value.bool b from r)
   rw[fG rr];rfl
theorem HasL.bools{K:Pg}{H:Hp}:∀{bs:List Bool} {vs:List V},HasL K H vs (bs.map D.bl)→vs=bs.map V.bl
 | [],_,r=>by cases r;rfl
 | b :: bs,_,r=>by
  cases r with
  | cons r rr=>cases r;rw[HasL.bools rr];rfl
noncomputable def fB(f:Bool→Bool→D):D→D→Option D
 | .bl i,.bl j=>some (f i j)
 | _,_=>none
end
section
variable {X:Cx}
end
section
variable {X:Cx} {st:Stmt} {G8:List Stmt} {t u:DTS}
def FD(t u:DTS):DTS:=fun F e M=>∃ P:Ev→Mem→Prop,t { F with nx:=P } e M∧∀ e' M',P e' M'→u F e' M'
theorem vT(h1:JS X st t)(h2:JSs X G8 u):JSs X (st :: G8) (FD t u):=⟨have h1:=h1.out;have h2:=h2.out;(ox h1 h2).imp (by rintro E σ H ⟨e,M,F,ok,am,⟨P,t,hP⟩,f⟩;exact⟨e,M,{ F with nx:=P },ok,am,t,⟨fun e' M' h σ' H' k a o=>⟨e',M',F,o,a,hP e' M' h,f.mono k⟩,f.rt,f.bk,f.ct⟩⟩)⟩
end
section
variable {X:Cx}
theorem vB(bs:List Bool):(QM bs.length).all (fun i=>bs.getD i true)=bs.all id:=by
 have:(QM bs.length).map (fun i=>bs.getD i true)=bs:=by
  apply Rz (by simp)
  intro i h1 h2
  simp[PC,h2]
 conv=>rhs;rw[← this]
 rw[List.all_map];rfl
theorem nG{prog:Program}{w:World}{A:Around}(bs:List Bool):TruthOf prog w A (fun i v=>(bs.map Value.bool).toArray[i]? = some v) (fun i=>bs.getD i true):=by
 intro i v s Q E h q
 have h':(bs.map Value.bool)[i]? = some v:=by simpa using h
 rw[PJ]at h'
 cases e:bs[i]? with
 | none=>rw[e]at h';cases h'
 | some b =>
  rw[e]at h'
  cases h'
  have q':Q b s:=by simpa[PC,e]using q
  exact wpAny_truthy_bool q'
theorem wm(hc:X.calm=true):A4 X (.builtin "all") (fun xs H Q=>∃(l:Addr) (bs:List Bool),xs=[.ref l]∧SqL X.K H l (bs.map V.bl)∧Q (.bl (bs.all id)) H):=by
 intro pins s σ H xs us Q I r h
 obtain⟨l,bs,rfl,hS,q⟩:=h
 obtain⟨u,rfl,ru⟩:=nE r
 cases ru
 obtain⟨its,rv,p,_⟩:=I.list hS
 have hb:=fG rv
 subst hb
 have hl:s.heap.IsList l (bs.map Value.bool).toArray:=p.isList
 have hne:l≠s.heap.objs.size:=by
  obtain⟨o,e,_⟩:=id hl
  exact Qi (Pz e)
 refine call_all_walk (wpAny_pyIter_list hl ?_)
 refine⟨s.heap.objs.size,_,_,_,_,_,fun i=>bs.getD i true,rfl,Walks.list (A:=X.A.in1) (I.ok.hd hc) s.heap.objs.size l hne (bs.map Value.bool).toArray,⟨⟨_,PK _ rfl,rfl,rfl⟩,hl.at fun o e=>Pl _ e⟩,nG bs,fun h' tk kk=>?_⟩
 have e:(QM (bs.map Value.bool).toArray.size).all (fun i=>bs.getD i true)=bs.all id:=by
  rw[show(bs.map Value.bool).toArray.size=bs.length by simp];exact vB bs
 rw[e]
 exact⟨.bl (bs.all id),H,I.kept fun b o z=>kk b o (by simp;exact Qi (Pz z)) (Pl _ z),rfl,q⟩
def KQ:DRC:=fun ds M R=>∃(d:D) (bs:List Bool),ds=[d]∧N0 M d=some (bs.map D.bl)∧R (.bl (bs.all id)) M
theorem Lv(hc:X.calm=true):Z7 X (.builtin "all") KQ:=A4.imp (wm hc) (by
 rintro xs H Q ⟨ds,M,R,hl,am,⟨d,bs,z,hM,r⟩,f⟩
 subst z
 obtain⟨v,rfl,hv⟩:=hl.one
 obtain⟨a,vs,rfl,s,l⟩:=B4 am hv hM
 rw[l.bools]at s
 exact⟨a,bs,rfl,s,f _ M r _ H (KT.refl H) am (.bl _)⟩)
end
theorem Iq:bootBuiltins "all" = some (.builtin "all"):=by decide +kernel
structure GlD(K:Pg)(mg:Str→Option Value)(x:Str)(d:D):Prop where
 ex:∃(v:V) (u:Value),mg x=some u∧p7 v u∧LD K v d
theorem B0{X:Cx}{x:Str}{d:D}{pos:Pos}(hg:Gl X x)(g:GlD X.K X.mg x d)(hd:(x == ("__debug__" : Str))=false:=by decide):JE X (.Name x pos) (dC d):=⟨by
 obtain⟨v,u,h1,h2,h3⟩:=g.ex
 exact Ib hg h1 h2 h3 hd⟩
theorem uE{K:Pg}{mg:Str→Option Value}{h:Heap}{x:Str}{a:Addr}{od:Option Addr}{osl:Array (Option Value)}{i j:Int}{t u:Tok}{cap:Nat}(X:K.In h)(G:h.Ns mainGlobals mg)
  (n:PySem.W.nsIn K mainGlobals x=some (some (.ref a))) (l:K.lookup a=some ⟨.type "tuple",od,.seq #[.int i t,.int j u] cap,osl⟩):GlD K mg x (.tup [.int i,.int j]) :=
 ⟨.ref a,.ref a,PySem.W.mg_of X G n,rfl,fun H=>.tup (xs:=[.int i,.int j]) (.inr ⟨_,_,_,l,rfl,rfl,(show 2≤sizeLine by decide),.cons (show p7 (.int i) (.int i t)from⟨t,rfl⟩) (.cons (show p7 (.int j) (.int j u)from⟨u,rfl⟩) .nil)⟩) (.cons (.int i) (.cons (.int j) .nil))⟩
noncomputable def fS(f:Str→Str→D):D→D→Option D
 | .str i,.str j=>some (f i j)
 | _,_=>none
theorem DI{f:Str→Str→D}{x y z:D}(h:fS f x y=some z):∃ i j,x = .str i∧y = .str j∧z=f i j:=by
 cases x with
 | str i =>
  cases y with
  | str j=>exact⟨i,j,rfl,rfl,(Option.some.inj h).symm⟩
  | _=>cases h
 | _=>cases h
section
variable {X:Cx}
theorem zp:DOp X (compareOp .Eq) (gF (fS fun i j=>.bl (decide (i=j)))):=OpR.imp Fo (by
 rintro x y H Q ⟨dx,dy,M,R,hx,hy,am,⟨z,e,r⟩,f⟩
 obtain⟨i,j,e1,e2,e3⟩:=DI e
 subst e1;subst e2;subst e3
 cases hx;cases hy
 refine⟨rfl,?_⟩
 have e:decide (V.str i=V.str j)=decide (i=j):=by simp
 rw[e]
 exact f _ M r _ H (KT.refl H) am (.bl _))
end
structure pY(K:Pg)(H1:Hp)(J:It)(ds:List D)(stay:Mem→Prop):Prop where
 go:∀ i H' M',i<ds.length→KT H1 H'→o9 K H' M'→stay M'→J.go i H'
 yld:∀ i H' M' x H'',i<ds.length→KT H1 H'→o9 K H' M'→stay M'→J.yld i H' x H''→∃ d,ds[i]? = some d∧KT H' H''∧o9 K H'' M'∧Has K H'' x d
 stop:∀ i H' M',ds.length≤i→KT H1 H'→o9 K H' M'→stay M'→J.stop i H'
 up:∀ M' p o,stay M'→M' p=none→stay (A8 M' p o)
def upI(K:Pg)(ti:DTI):TI:=fun σ H R=>∃ e M R',A7 K H σ e∧o9 K H M∧ti e M R'∧∀ ds stay M1,R' ds stay M1→∀ H1,KT H H1→o9 K H1 M1→∀ J,pY K H1 J ds stay→R J H1
def DPI(X:Cx)(tg iter:Expr)(ti:DTI):Prop:=PI X tg iter (upI X.K ti)
structure JI(X:Cx)(tg iter:Expr)(ti:DTI):Prop where
 out:DPI X tg iter ti
theorem PI.imp{X:Cx}{tg iter:Expr}{wi wi':TI}(h:PI X tg iter wi)(i:∀ σ H R,wi' σ H R→wi σ H R):PI X tg iter wi':=fun pins s σ H R I q=>h pins s σ H R I (i σ H R q)
section
variable {X:Cx} {tg iter:Expr} {ti:DTE} {ta:DTA}
theorem xK{K:Pg}{H1:Hp}{a:Addr}{xs:List V}{ds:List D}(s:SqT K H1 a xs)(l:HasL K H1 xs ds):pY K H1 (Itt K a) ds (fun _=>True) where
 go:=fun i H' M' hi k _ _=>⟨xs,_,k.sq s,PH (by rw[l.length];exact hi)⟩
 yld:=fun i H' M' x H'' hi k am _ zz=>by
  obtain⟨e,y⟩:=zz
  subst e
  obtain⟨d,hd,r⟩:=l.getV (y xs (k.sq s))
  exact⟨d,hd,KT.refl _,am,r.mono k⟩
 stop:=fun i H' M' hi k _ _=>⟨xs,k.sq s,by rw[l.length];exact hi⟩
 up:=fun _ _ _ _ _=>trivial
theorem xO{K:Pg}{H1:Hp}{p:Addr}{ds:List D}:pY K H1 (Itl K p) ds (fun M'=>M' p=some (.lst ds)) where
 go:=fun i H' M' hi k am st=>by
  obtain⟨ys,hy,ly⟩:=am.lst st
  exact⟨ys,_,SqL.of hy,PH (by rw[ly.length];exact hi)⟩
 yld:=fun i H' M' x H'' hi k am st zz=>by
  obtain⟨e,y⟩:=zz
  subst e
  obtain⟨ys,hy,ly⟩:=am.lst st
  obtain⟨d,hd,r⟩:=ly.getV (y ys (SqL.of hy))
  exact⟨d,hd,KT.refl _,am,r⟩
 stop:=fun i H' M' hi k am st=>by
  obtain⟨ys,hy,ly⟩:=am.lst st
  exact⟨ys,SqL.of hy,by rw[ly.length];exact hi⟩
 up:=fun M' q o st hq=>by rw[J3 (by intro e;subst e;rw[hq]at st;cases st)];exact st
theorem nB{K:Pg}{H1:Hp}{lo:Int}{n:Nat}:pY K H1 (Itr lo n) (K2 lo n) (fun _=>True) where
 go:=fun i H' M' hi k am st=>by rw[E3]at hi;exact hi
 yld:=fun i H' M' x H'' hi k am st zz=>by
  obtain⟨e,y⟩:=zz
  subst e;subst y
  rw[E3]at hi
  exact⟨_,gh hi,KT.refl _,am,.int _⟩
 stop:=fun i H' M' hi k am st=>by rw[E3]at hi;exact hi
 up:=fun _ _ _ _ _=>trivial
theorem Dy{a:Expr}{p p2:Pos}(hr:Gl X "range")(hm:X.mg "range" = none)(ha:JA X [a] ta)(hs0:starEach [a] X.env=[(false,eval a X.env)]:=by rfl):JI X tg (.Call (.Name "range" p) [a] [] p2) (Fz ta):=⟨have ha:=ha.out;PI.imp (vF hr hm ha hs0) (by rintro σ H R ⟨e,M,R',ok,am,t,f⟩;exact⟨e,M,_,ok,am,t,fun ds M1 ⟨j,z,b1,b2,r⟩ vs H1 k1 a1 r1=>by
  subst z
  obtain⟨v,rfl,hv⟩:=r1.one
  cases hv
  exact⟨j,rfl,b1,b2,f _ _ M1 r H1 k1 a1 _ nB⟩⟩)⟩
theorem zN{a b:Expr}{p p2:Pos}(hr:Gl X "range")(hm:X.mg "range" = none)(ha:JA X [a,b] ta)(hs0:starEach [a,b] X.env=[(false,eval a X.env),(false,eval b X.env)]:=by rfl)(hs1:starEach [b] X.env=[(false,eval b X.env)]:=by rfl):JI X tg (.Call (.Name "range" p) [a,b] [] p2) (Ao ta):=⟨have ha:=ha.out;PI.imp (vE hr hm ha hs0 hs1) (by rintro σ H R ⟨e,M,R',ok,am,t,f⟩;exact⟨e,M,_,ok,am,t,fun ds M1 ⟨i,j,z,b1,r⟩ vs H1 k1 a1 r1=>by
  subst z
  cases r1 with
  | cons h1 r1 =>
   obtain⟨v,rfl,hv⟩:=r1.one
   cases h1
   cases hv
   exact⟨i,j,rfl,b1,f _ _ M1 r H1 k1 a1 _ nB⟩⟩)⟩
def v6(M:Mem)(x:D)(ds:List D):Prop:=x = .tup ds∨(∃ p,x = .ref p∧M p=some (.lst ds))∨x = .vl ds
noncomputable def jy:D→Bool
 | .tup _=>false
 | _=>true
theorem A1{K:Pg}{H:Hp}{M:Mem}{v:V}{x:D}{ds:List D}(h:v6 M x ds)(am:o9 K H M)(r:Has K H v x):∃ a xs,v = .ref a∧SqK K (jy x) H a xs∧HasL K H xs ds:=by
 rcases h with rfl|⟨p,rfl,m⟩|rfl
 rotate_left 2
 ·obtain⟨a,xs,e,sq,l⟩:=r.il
  exact⟨a,xs,e,sq,l⟩
 ·cases r with
  | tup s l=>exact⟨_,_,rfl,s,l⟩
 ·cases r
  obtain⟨xs,hx,l⟩:=am.lst m
  exact⟨p,xs,rfl,SqL.of hx,l⟩
theorem X5{M:Mem}{x:D}{ds:List D}{q:Addr}{o:MO}(h:v6 M x ds)(hq:M q=none):v6 (A8 M q o) x ds:=by
 rcases h with h|⟨p,e,h⟩|h
 ·exact .inl h
 ·exact .inr (.inl ⟨p,e,by rw[J3 (by intro e;subst e;rw[hq]at h;cases h)];exact h⟩)
 ·exact .inr (.inr h)
noncomputable def S9(ds es:List D):List D:=List.zipWith (fun a b=>.tup [a,b]) ds es
theorem cN(ds es:List D):(S9 ds es).length=min ds.length es.length:=by simp[S9]
theorem wu{ds es:List D}{i:Nat}{a b:D}(h1:ds[i]? = some a)(h2:es[i]? = some b):(S9 ds es)[i]? = some (.tup [a,b]):=by
 unfold S9
 rw[List.getElem?_zipWith,h1,h2]
theorem xJ{K:Pg}{H1:Hp}{x y:D}{l1 l2:Addr}{ds es:List D}(h1:Has K H1 (.ref l1) x)(h2:Has K H1 (.ref l2) y) :
  pY K H1 (Itz K (jy x) (jy y) l1 l2) (S9 ds es) (fun M'=>v6 M' x ds∧v6 M' y es) where
 go:=fun i H' M' hi k am zz=>by
  obtain⟨s1,s2⟩:=zz
  rw[cN]at hi
  obtain⟨a,xs,e1,q1,m1⟩:=A1 s1 am (h1.mono k)
  obtain⟨b,ys,e2,q2,m2⟩:=A1 s2 am (h2.mono k)
  cases e1;cases e2
  exact⟨xs,ys,_,_,q1,q2,PH (by rw[m1.length];omega),PH (by rw[m2.length];omega)⟩
 yld:=fun i H' M' v H'' hi k am ⟨s1,s2⟩ ⟨T,a,b,hT,ev,eH,u1,u2⟩=>by
  subst ev;subst eH
  obtain⟨a',xs,e1,q1,m1⟩:=A1 s1 am (h1.mono k)
  obtain⟨b',ys,e2,q2,m2⟩:=A1 s2 am (h2.mono k)
  cases e1;cases e2
  obtain⟨d1,g1,r1⟩:=m1.getV (u1 xs q1)
  obtain⟨d2,g2,r2⟩:=m2.getV (u2 ys q2)
  have kt:KT H' (upd H' T (.tup [a,b])):=KT.alloc hT
  exact⟨_,wu g1 g2,kt,am.alloc hT,.tup (SqT.of j4) (.cons (r1.mono kt) (.cons (r2.mono kt) .nil))⟩
 stop:=fun i H' M' hi k am zz=>by
  obtain⟨s1,s2⟩:=zz
  rw[cN]at hi
  obtain⟨a,xs,e1,q1,m1⟩:=A1 s1 am (h1.mono k)
  obtain⟨b,ys,e2,q2,m2⟩:=A1 s2 am (h2.mono k)
  cases e1;cases e2
  refine⟨xs,ys,q1,q2,?_⟩
  rw[m1.length,m2.length]
  omega
 up:=fun _ _ _ st hq=>⟨X5 st.1 hq,X5 st.2 hq⟩
def Fx(ta:DTA):DTI:=fun e M R=>ta e M fun xs M1=>∃ x y ds es,xs=[x,y]∧v6 M1 x ds∧v6 M1 y es∧R (S9 ds es) (fun M'=>v6 M' x ds∧v6 M' y es) M1
theorem eO{elts:List Expr}{kx:Nat}{tp:Pos}{a b:Expr}{p pos:Pos}(hg:Gl X "zip")(hm:X.mg "zip" = none)(ha:JA X [a,b] ta)
  (hs:starEach [a,b] X.env=[(false,eval a X.env),(false,eval b X.env)]:=by rfl) (hs2:starEach [b] X.env=[(false,eval b X.env)]:=by rfl):JI X (.Tuple elts kx tp) (.Call (.Name "zip" p) [a,b] [] pos) (Fx ta):=⟨have ha:=ha.out;PI.imp (Hg hg hm ha hs hs2) (by rintro σ H R ⟨e,M,R',ok,am,t,f⟩;exact⟨e,M,_,ok,am,t,fun xs M1 ⟨x,y,ds,es,z,s1,s2,r⟩ vs H1 k1 a1 r1=>by
  subst z
  obtain⟨v,v',rfl,hv,hv'⟩:=r1.two
  obtain⟨a,zs,rfl,q1,m1⟩:=A1 s1 a1 hv
  obtain⟨b,ws,rfl,q2,m2⟩:=A1 s2 a1 hv'
  exact⟨_,_,a,b,rfl,⟨zs,q1⟩,⟨ws,q2⟩,f _ _ M1 r H1 k1 a1 _ (xJ hv hv')⟩⟩)⟩
end
section
variable {X:Cx} {tg iter:Expr} {body:List Stmt} {ti:DTI} {g:DTG} {tb:DTS} {pos:Pos}
theorem t7(hp:PassesOwn (model X.prog X.w) X.A X.env X.xe)(hc:X.calm=true)(hi:JI X tg iter ti)(hg:JG X tg g)(hb:JSs X body tb)
  (hs:∀ x,foldedSetIterable iter X.env x=pure x:=by intro _;rfl):JS X (.For tg iter body [] pos) (Lj ti g tb):=⟨have hi:=hi.out;have hg:=hg.out;have hb:=hb.out;(He hp hc hi hg hb hs).imp (by rintro E σ H ⟨e,M,F,ok,am,t,f⟩;exact⟨e,M,_,ok,am,t,fun ds stay M1 ⟨W,w0,hst,step,done⟩ H1 k1 a1 J wk=>by
  refine⟨fun i m σ' H'=>m=ds.length - i∧i≤ds.length∧∃ e' M',KT H1 H'∧A7 X.K H' σ' e'∧o9 X.K H' M'∧W i e' M',⟨ds.length,by simp,Qs _,e,M1,KT.refl H1,ok.mono k1,a1,w0⟩,?_⟩
  rintro i m σ2 H2 ⟨rfl,hi,e2,M2,k2,ok2,a2,w2⟩
  have st:=hst i e2 M2 hi w2
  by_cases hlt:i<ds.length
  ·refine .inr ⟨wk.go i H2 M2 hlt k2 a2 st,fun σ' H'=>∃ e' M',KT H1 H'∧A7 X.K H' σ' e'∧o9 X.K H' M'∧W (i+1) e' M',fun σ' H' h=>⟨ds.length - (i+1),by omega,rfl,hlt,h⟩,fun y H' yl=>?_⟩
   obtain⟨d,hd,k3,a3,r⟩:=wk.yld i H2 M2 y H' hlt k2 a2 st yl
   exact Ag f k1 (k2.trans k3) (ok2.mono k3) a3 r (step i d e2 M2 hd w2)
  ·have e':i=ds.length:=by omega
   subst e'
   exact .inl ⟨wk.stop _ H2 M2 (Py _) k2 a2 st,f.nx e2 M2 (done e2 M2 w2) σ2 H2 (k1.trans k2) a2 ok2⟩⟩)⟩
end
noncomputable def pT(n:Nat)(caps:List Nat)(e:Ev):Ev:=Ro n none++caps.map fun i=>(e[i]?).getD none
theorem DJ{K:Pg}{H:Hp}{σ:St}{e:Ev}(n:Nat)(caps:List Nat)(ok:A7 K H σ e):A7 K H (mr n caps σ) (pT n caps e):=by
 refine⟨by simp[mr,pT],fun i d h=>?_⟩
 unfold pT at h
 unfold mr
 rw[Sf]at h ⊢
 rw[RW]at h ⊢
 by_cases hi:i<n
 ·rw[if_pos hi]at h
  rw[QQ]at h
  split at h<;>cases h
 ·rw[if_neg hi]at h ⊢
  rw[PJ]at h ⊢
  cases hj:caps[i - n]? with
  | none=>rw[hj]at h;cases h
  | some j =>
   rw[hj]at h
   have h':(e[j]?).getD none=some d:=by simpa using h
   have he:e[j]? = some (some d):=by
    cases q:e[j]? with
    | none=>rw[q]at h';cases h'
    | some z=>rw[q]at h';rw[show z=some d by simpa using h']
   obtain⟨v,h1,h2⟩:=ok.has j d he
   exact⟨v,by simp[h1],h2⟩
theorem dH{p:Str→Prop}{a:Str}(h:p a):∀ x∈[a],p x:=fun x hx=>by
 simp only[Pn,Qb,or_false]at hx
 subst hx;exact h
theorem Ea{p:Str→Prop}{a b:Str}(h:p a)(h2:p b):∀ x∈[a,b],p x:=fun x hx=>by
 simp only[Pn,Qb,or_false]at hx
 rcases hx with rfl|rfl
 ·exact h
 ·exact h2
section
variable {X:Cx}
def Mm(K:Pg)(tl:TE):TI:=fun σ H R=>tl σ H fun x H1=>∃(a:Addr) (k:Bool),x = .ref a∧(∃ xs,SqK K k H1 a xs)∧R (if k=true then Itl K a else Itt K a) H1
theorem Hh{tg l:Expr}{tl:TE}(hl:PE X l tl):PI X tg l (Mm X.K tl):=by
 intro pins s σ H R I h
 refine thn (hl pins s σ H _ I h) fun v s1 zz=>?_
 obtain⟨x,H1,I1,r1,q1⟩:=zz
 obtain⟨a,k,e,⟨xs,hq⟩,q⟩:=q1
 subst e
 cases r1
 obtain⟨its,rv,p⟩:=I1.sqk hq
 have nf:∀ b∈[s1.heap.objs.size],aN X pins H1 b:=fun b hb=>by
  have e:b=s1.heap.objs.size:=by simpa using hb
  subst e
  exact I1.fpOk (Py _) (I1.hok.fresh (Py _))
 cases k with
 | true=>exact wpAny_pyIter_list p ⟨s1.heap.objs.size,[s1.heap.objs.size],_,_,H1,rfl,I1.kept (t':=s1.toks) fun b o e=>Pl _ e,vh a _,⟨_,PK _ rfl,rfl,rfl⟩,nf,q⟩
 | false=>exact wpAny_pyIter_tuple p ⟨s1.heap.objs.size,[s1.heap.objs.size],_,_,H1,rfl,I1.kept (t':=s1.toks) fun b o e=>Pl _ e,qj a _,⟨_,PK _ rfl,rfl,rfl⟩,nf,q⟩
def Fy(ti:DTE):DTI:=fun e M R=>ti e M fun x M1=>∃ ds,v6 M1 x ds∧R ds (fun M'=>v6 M' x ds) M1
theorem p8{tg iter:Expr}{ti:DTE}(hi:JE X iter ti):JI X tg iter (Fy ti):=⟨have hi:=hi.out;PI.imp (Hh hi) (by rintro σ H R ⟨e,M,R',ok,am,t,f⟩;exact⟨e,M,_,ok,am,t,fun x M1 ⟨ds,sq,r⟩ v H1 k1 a1 r1=>by
 have sq':=sq
 rcases sq with rfl|⟨p,rfl,hm⟩|rfl
 rotate_left 2
 ·obtain⟨a,xs,rfl,sq,l⟩:=r1.il
  have wk:pY X.K H1 (Itl X.K a) ds (fun M'=>v6 M' (.vl ds) ds):=⟨fun i H' M' hi k am _=>by
    obtain⟨a',ys,e,sq',l'⟩:=(r1.mono k).il
    cases e
    exact⟨ys,_,sq',PH (by rw[l'.length];exact hi)⟩,
   fun i H' M' x H'' hi k am _ zz=>by
    obtain⟨e,y⟩:=zz
    subst e
    obtain⟨a',ys,e,sq',l'⟩:=(r1.mono k).il
    cases e
    obtain⟨d,hd,r⟩:=l'.getV (y ys sq')
    exact⟨d,hd,KT.refl _,am,r⟩,
   fun i H' M' hi k am _=>by
    obtain⟨a',ys,e,sq',l'⟩:=(r1.mono k).il
    cases e
    exact⟨ys,sq',by rw[l'.length];exact hi⟩,fun _ _ _ st hq=>X5 st hq⟩
  exact⟨a,true,rfl,⟨xs,sq⟩,f ds _ M1 r H1 k1 a1 _ wk⟩
 ·cases r1 with
  | tup s l =>
   refine⟨_,false,rfl,⟨_,s⟩,f ds _ M1 r H1 k1 a1 _ ?_⟩
   have w:=xK (K:=X.K) s l
   exact⟨fun i H' M' a b c _=>w.go i H' M' a b c trivial,fun i H' M' y H2 a b c _ g=>w.yld i H' M' y H2 a b c trivial g,fun i H' M' a b c _=>w.stop i H' M' a b c trivial,fun _ _ _ st hq=>X5 st hq⟩
 ·cases r1
  obtain⟨xs,hx,l⟩:=a1.lst hm
  refine⟨p,true,rfl,⟨xs,SqL.of hx⟩,f ds _ M1 r H1 k1 a1 _ ?_⟩
  have w:=xO (K:=X.K) (H1:=H1) (p:=p) (ds:=ds)
  have cv:∀{M':Mem},v6 M' (.ref p) ds→M' p=some (.lst ds):=fun z=>by
   rcases z with z|⟨p',z,h⟩|z
   ·cases z
   ·cases z;exact h
   ·cases z
  exact⟨fun i H' M' a b c z=>w.go i H' M' a b c (cv z),fun i H' M' y H2 a b c z g=>w.yld i H' M' y H2 a b c (cv z) g,fun i H' M' a b c z=>w.stop i H' M' a b c (cv z),fun _ _ _ st hq=>X5 st hq⟩⟩)⟩
end
theorem zX{K:Pg}{mg:Str→Option Value}{h:Heap}{x:Str}{a b c:Addr}{od od1 od2:Option Addr}{osl osl1 osl2:Array (Option Value)}{i j k l:Int}{t1 t2 t3 t4:Tok}{cap cap1 cap2:Nat}(X:K.In h)(G:h.Ns mainGlobals mg)
  (n:PySem.W.nsIn K mainGlobals x=some (some (.ref a))) (l0:K.lookup a=some ⟨.type "tuple",od,.seq #[.ref b,.ref c] cap,osl⟩)
  (l1:K.lookup b=some ⟨.type "tuple",od1,.seq #[.int i t1,.int j t2] cap1,osl1⟩) (l2:K.lookup c=some ⟨.type "tuple",od2,.seq #[.int k t3,.int l t4] cap2,osl2⟩):GlD K mg x (.tup [.tup [.int i,.int j],.tup [.int k,.int l]]):=by
 have two:(2:Nat)≤sizeLine:=by decide
 have p1:∀ H:Hp,Has K H (.ref b) (.tup [.int i,.int j]):=fun H=>.tup (xs:=[.int i,.int j]) (.inr ⟨_,_,_,l1,rfl,rfl,two,.cons (show p7 (.int i) (.int i t1)from⟨t1,rfl⟩) (.cons (show p7 (.int j) (.int j t2)from⟨t2,rfl⟩) .nil)⟩) (.cons (.int i) (.cons (.int j) .nil))
 have p2:∀ H:Hp,Has K H (.ref c) (.tup [.int k,.int l]):=fun H=>.tup (xs:=[.int k,.int l]) (.inr ⟨_,_,_,l2,rfl,rfl,two,.cons (show p7 (.int k) (.int k t3)from⟨t3,rfl⟩) (.cons (show p7 (.int l) (.int l t4)from⟨t4,rfl⟩) .nil)⟩) (.cons (.int k) (.cons (.int l) .nil))
 exact⟨.ref a,.ref a,PySem.W.mg_of X G n,rfl,fun H=>.tup (xs:=[.ref b,.ref c]) (.inr ⟨_,_,_,l0,rfl,rfl,two,.cons (show p7 (.ref b) (.ref b)from rfl) (.cons (show p7 (.ref c) (.ref c)from rfl) .nil)⟩) (.cons (p1 H) (.cons (p2 H) .nil))⟩
theorem DY{ds:List D}{r:Int}(h0:0≤r)(h1:r<ds.length):∃ d,atI ds r=some d∧d∈ds:=by
 unfold atI ixN
 rw[if_pos h0,if_pos h1]
 have hl:r.toNat<ds.length:=by omega
 exact⟨ds[r.toNat],by simp[hl],Rm hl⟩
section
variable {X:Cx}
end
section
variable {X:Cx}
def uF:DRM:=fun x xs M R=>∃ l ds v,x = .ref l∧xs=[v]∧M l=some (.lst ds)∧ds.length<sizeLine∧R .non (A8 M l (.lst (ds++[v])))
theorem L8:DMt X "list.append" uF:=MtR.imp (r:=tZ) jt (by
 rintro x xs H Q ⟨dx,ds,M,R,hx,hl,am,⟨l,es,v,e1,e2,hM,hz,r⟩,f⟩
 subst e1;subst e2
 cases hx
 obtain⟨w,rfl,hw⟩:=hl.one
 obtain⟨ys,hy,ly⟩:=am.lst hM
 exact⟨l,ys,w,rfl,rfl,hy,by rw[ly.length];exact hz,f _ _ r _ _ (KT.write hy) (am.write hy (ly.append (.cons hw .nil))) .non⟩)
end
section
variable {X:Cx}
end
noncomputable abbrev DTO:=Ev→Mem→(Option Int→Mem→Prop)→Prop
def upO(K:Pg)(t:DTO):TO:=fun σ H Q=>∃ e M R,A7 K H σ e∧o9 K H M∧t e M R∧∀ o M',R o M'→∀ H',KT H H'→o9 K H' M'→Q o H'
def DPO(X:Cx)(e:Option Expr)(t:DTO):Prop:=PO X e (upO X.K t)
structure JO(X:Cx)(e:Option Expr)(t:DTO):Prop where
 out:DPO X e t
def uP:DTO:=fun _ M R=>R none M
def FE(t:DTE):DTO:=fun e M R=>t e M fun x M1=>∃ i,x = .int i∧R (some i) M1
theorem PO.imp{X:Cx}{e:Option Expr}{t t':TO}(h:PO X e t)(i:∀ σ H Q,t' σ H Q→t σ H Q):PO X e t':=fun pins s σ H Q I q=>h pins s σ H Q I (i σ H Q q)
section
variable {X:Cx} {e:Expr} {te:DTE} {lo hi:Option Expr} {tl th:DTO} {pos p2:Pos}
theorem y4:JO X none uP:=⟨PO.imp CI (by rintro σ H Q ⟨e,M,R,ok,am,t,f⟩;exact f none M t H (KT.refl H) am)⟩
theorem w6(h:JE X e te):JO X (some e) (FE te):=⟨have h:=h.out;PO.imp (CH h) (by rintro σ H Q ⟨e,M,R,ok,am,t,f⟩;exact⟨e,M,_,ok,am,t,fun x M1 ⟨i,z,r⟩ v H1 k1 a1 r1=>by
 subst z;cases r1
 exact⟨i,rfl,f (some i) M1 r H1 k1 a1⟩⟩)⟩
noncomputable def P2(ds:List D)(lo hi:Option Int):List D:=(ds.drop (HT.sIx ds.length 0 lo)).take (HT.sIx ds.length ds.length hi - HT.sIx ds.length 0 lo)
theorem HasL.cut{K:Pg}{H:Hp}{xs:List V}{ds:List D}(h:HasL K H xs ds)(lo hi:Option Int):HasL K H (pH xs lo hi) (P2 ds lo hi):=by
 unfold pH P2
 rw[h.length]
 exact(h.drop _).take _
def Mq(x:D)(lo hi:Option Int)(M:Mem)(R:DK):Prop:=∃ ds,N0 M x=some ds∧∀ p,M p=none→R (.ref p) (A8 M p (.lst (P2 ds lo hi)))
def dSl(te:DTE)(tl th:DTO):DTE:=fun e M R=>te e M fun x M1=>tl e M1 fun l M2=>th e M2 fun u M3=>Mq x l u M3 R
theorem zQ(he:JE X e te)(hl:JO X lo tl)(hu:JO X hi th):JE X (.Subscript e (.Slice lo hi none p2) pos) (dSl te tl th):=⟨have he:=he.out;have hl:=hl.out;have hu:=hu.out;(oy tQ he hl hu).imp (by rintro σ H Q ⟨e,M,R,ok,am,t,f⟩;exact⟨e,M,_,ok,am,t,fun x M1 h1 v H1 k1 a1 r1=>⟨e,M1,_,ok.mono k1,a1,h1,fun l M2 h2 H2 k2 a2=>⟨e,M2,_,(ok.mono k1).mono k2,a2,h2,fun u M3 ⟨ds,hi,r⟩ H3 k3 a3=>by
  obtain⟨a,xs,rfl,sq,lx⟩:=B4 a3 ((r1.mono k2).mono k3) hi
  exact⟨a,xs,rfl,sq,fun p hp=>f _ _ (r p (a3.fresh hp)) _ _ ((k1.trans (k2.trans k3)).trans (KT.alloc hp)) (a3.new hp (lx.cut l u)) (.ref p)⟩⟩⟩⟩)⟩
end
noncomputable def W7(ds:List D):List D:=ds.mapIdx fun i d=>.tup [.int i,d]
theorem L3(ds:List D):(W7 ds).length=ds.length:=by simp[W7]
theorem vZ{ds:List D}{i:Nat}{d:D}(h:ds[i]? = some d):(W7 ds)[i]? = some (.tup [.int i,d]):=by
 unfold W7
 rw[Tt,h];rfl
theorem pB{ds:List D}{i:Nat}{x:D}(h:(W7 ds)[i]? = some x):∃ d,ds[i]? = some d∧x = .tup [.int i,d]:=by
 unfold W7 at h
 rw[Tt]at h
 cases e:ds[i]? with
 | none=>rw[e]at h;cases h
 | some d=>rw[e]at h;exact⟨d,rfl,(Option.some.inj h).symm⟩
theorem vg{K:Pg}{H1:Hp}{x:D}{l:Addr}{ds:List D}(h1:Has K H1 (.ref l) x):pY K H1 (Ite K (jy x) l) (W7 ds) (fun M'=>v6 M' x ds) where
 go:=fun i H' M' hi k am s1=>by
  rw[L3]at hi
  obtain⟨a,xs,e1,q1,m1⟩:=A1 s1 am (h1.mono k)
  cases e1
  exact⟨xs,_,q1,PH (by rw[m1.length];omega)⟩
 yld:=fun i H' M' v H'' hi k am s1 zz=>by
  obtain⟨T,a,hT,ev,eH,u1⟩:=zz
  subst ev;subst eH
  obtain⟨a',xs,e1,q1,m1⟩:=A1 s1 am (h1.mono k)
  cases e1
  obtain⟨d1,g1,r1⟩:=m1.getV (u1 xs q1)
  have kt:KT H' (upd H' T (.tup [.int i,a])):=KT.alloc hT
  exact⟨_,vZ g1,kt,am.alloc hT,.tup (SqT.of j4) (.cons (.int _) (.cons (r1.mono kt) .nil))⟩
 stop:=fun i H' M' hi k am s1=>by
  rw[L3]at hi
  obtain⟨a,xs,e1,q1,m1⟩:=A1 s1 am (h1.mono k)
  cases e1
  exact⟨xs,q1,by rw[m1.length];exact hi⟩
 up:=fun _ _ _ st hq=>X5 st hq
section
variable {X:Cx} {ta:DTA}
def Ap(ta:DTA):DTI:=fun e M R=>ta e M fun xs M1=>∃ x ds,xs=[x]∧v6 M1 x ds∧R (W7 ds) (fun M'=>v6 M' x ds) M1
theorem pd{elts:List Expr}{kx:Nat}{tp:Pos}{a:Expr}{p pos:Pos}(hg:Gl X "enumerate")(hm:X.mg "enumerate" = none)(ha:JA X [a] ta)(hs:starEach [a] X.env=[(false,eval a X.env)]:=by rfl):JI X (.Tuple elts kx tp) (.Call (.Name "enumerate" p) [a] [] pos) (Ap ta):=⟨have ha:=ha.out;PI.imp (CJ hg hm ha hs) (by rintro σ H R ⟨e,M,R',ok,am,t,f⟩;exact⟨e,M,_,ok,am,t,fun xs M1 ⟨x,ds,z,s1,r⟩ vs H1 k1 a1 r1=>by
  subst z
  obtain⟨v,rfl,hv⟩:=r1.one
  obtain⟨a,zs,rfl,q1,m1⟩:=A1 s1 a1 hv
  exact⟨_,a,rfl,⟨zs,q1⟩,f _ _ M1 r H1 k1 a1 _ (vg hv)⟩⟩)⟩
end
noncomputable def cF(M:Mem)(a:Addr):Mem:=fun b=>if b=a then none else M b
theorem lX{M:Mem}{a b:Addr}(h:b≠a):cF M a b=M b:=by unfold cF;rw[if_neg h]
theorem N3{M:Mem}{a:Addr}{o:MO}(h:M a=none):cF (A8 M a o) a=M:=by
 funext b;unfold cF A8;by_cases e:b=a
 ·rw[if_pos e,e,h]
 ·rw[if_neg e,if_neg e]
section
variable {K:Pg} {H:Hp} {M:Mem} {p:Addr}
theorem o9.at{o:HO}(h:o9 K H M)(k:KT0 H (upd H p o))(hp:M p=none):o9 K (upd H p o) M:=fun a u m=>by
 cases u with
 | lst ds =>
  obtain⟨xs,z,l⟩:=h a _ m
  have hn:a≠p:=by intro e;subst e;rw[hp]at m;cases m
  exact⟨xs,by rw[g9 hn];exact z,l.mono0 k⟩
 | ins C fs =>
  obtain⟨C0,dx,ys,z,l,hc⟩:=h a _ m
  have hn:a≠p:=by intro e;subst e;rw[hp]at m;cases m
  exact⟨C0,dx,ys,by rw[g9 hn];exact z,l.mono0 k,hc⟩
theorem o9.del(h:o9 K H M):o9 K H (cF M p):=fun a u m=>by
 by_cases e:a=p
 ·subst e;unfold cF at m;rw[if_pos rfl]at m;cases m
 ·rw[lX e]at m;exact h a u m
theorem jC:cF M p p=none:=by unfold cF;rw[if_pos rfl]
theorem o9.none_ext{φ:Heap→Prop}(h:o9 K H M)(e:H p=some (.ext φ)):M p=none:=by
 cases q:M p with
 | none=>rfl
 | some o =>
  cases o with
  | lst ds=>obtain⟨xs,z,_⟩:=h p _ q;rw[e]at z;cases z
  | ins C fs=>obtain⟨_,dx,ys,z,_⟩:=h p _ q;rw[e]at z;cases z
end
section
variable {X:Cx} {x:Expr} {t:DTE} {es:List Expr} {tr:DTA} {pos:Pos}
def Li(t:DTE):DTE:=fun e M R=>t e M fun x M1=>∃ p ds,x = .ref p∧M1 p=some (.lst ds)∧R (.vl ds) (cF M1 p)
theorem W5(h:JE X x t):JE X x (Li t):=⟨have h:=h.out;(gk h).imp (by rintro σ H Q ⟨e,M,R,ok,am,t,f⟩;exact⟨e,M,_,ok,am,t,fun d M1 ⟨p,ds,z,hm,r⟩ v H1 k1 a1 r1=>by
 subst z
 cases r1
 obtain⟨xs,hx,lx⟩:=a1.lst hm
 exact⟨p,xs,rfl,hx,fun o=>f _ _ r _ _ (k1.trans (KT.any hx)) (a1.del.at (KT.any hx).toKT0 jC) (.vl (.inl ⟨o,j4⟩) (lx.mono (KT.any hx)))⟩⟩)⟩
def Lk(t:DTE):DTE:=fun e M R=>t e M fun x M1=>∃ M2:Mem,(∀ b o,M2 b=some o→M1 b=some o)∧R x M2
theorem W6(h:JE X x t):JE X x (Lk t):=⟨have h:=h.out;PE.imp h (by rintro σ H Q ⟨e,M,R,ok,am,t,f⟩;exact⟨e,M,_,ok,am,t,fun d M1 ⟨M2,hs,r⟩ v H1 k1 a1 r1=>f d M2 r v H1 k1 (fun a o q=>a1 a o (hs a o q)) r1⟩)⟩
def FH(t:DTA):DTE:=fun e M R=>t e M fun ds M1=>ds.length≤sizeLine∧R (.vl ds) M1
theorem eU{K:Pg}{H0 H:Hp}{M:Mem}{R:DK}{Q:VK}{vs:List V}{ds:List D}(f:gT K H0 R Q)(k:KT H0 H)(am:o9 K H M)(l:HasL K H vs ds)(r:R (.vl ds) M)(p:Addr)(hp:H p=none) :
  ∃ q xs,V.ref p = .ref q∧upd H p (.lst vs) q=some (.lst xs)∧∀ o,Q (.ref p) (upd (upd H p (.lst vs)) q (.frz o (.lst xs))) :=
 ⟨p,vs,rfl,j4,fun o=>by
  rw[aQ]
  exact f _ M r _ _ (k.trans (KT.alloc hp)) (am.alloc hp) (.vl (.inl ⟨o,j4⟩) (l.mono (KT.alloc hp)))⟩
theorem G4(h:JA X es tr):JE X (.List es pos) (FH tr):=⟨have h:=h.out;(gk (yS h)).imp (by rintro σ H Q ⟨e,M,R,ok,am,t,f⟩;exact⟨e,M,_,ok,am,t,fun ds M1 ⟨hz,h1⟩ vs H1 k1 a1 r1=>⟨by rw[r1.length];exact hz,fun p hp=>eU f k1 a1 r1 h1 p hp⟩⟩)⟩
def Ab(x y:D)(M:Mem)(R:DK):Prop:=∃ xs ys,N0 M x=some xs∧N0 M y=some ys∧xs.length+ys.length≤sizeLine∧R (.vl (xs++ys)) M
def FL(ta tb:DTE):DTE:=fun e M R=>ta e M fun x M1=>tb e M1 fun y M2=>Ab x y M2 R
theorem L0{a b:Expr}{ta tb:DTE}(ha:JE X a ta)(hb:JE X b tb):JE X (.BinOp a .Add b pos) (FL ta tb):=⟨have ha:=ha.out;have hb:=hb.out;(gk (Fm Dc ha hb)).imp (by rintro σ H Q ⟨e,M,R,ok,am,t,f⟩;exact⟨e,M,_,ok,am,t,fun x M1 h1 v H1 k1 a1 r1=>⟨e,M1,_,ok.mono k1,a1,h1,fun y M2 ⟨xs,ys,e1,e2,hz,r⟩ u H2 k2 a2 r2=>by
  obtain⟨a,vs,rfl,s1,l1⟩:=B4 a2 (r1.mono k2) e1
  obtain⟨b,ws,rfl,s2,l2⟩:=B4 a2 r2 e2
  exact⟨a,b,vs,ws,rfl,rfl,s1,s2,by rw[l1.length,l2.length];exact hz,fun p hp=>eU f (k1.trans k2) a2 (l1.append l2) r p hp⟩⟩⟩)⟩
def vX(x:D)(lo hi:Option Int)(M:Mem)(R:DK):Prop:=(∃ ds,N0 M x=some ds∧R (.vl (P2 ds lo hi)) M) ∨ ∃ ds,x = .tup ds∧¬ (HT.sIx ds.length 0 lo=0∧HT.sIx ds.length ds.length hi=ds.length)∧R (.tup (P2 ds lo hi)) M
def La(te:DTE)(tl th:DTO):DTE:=fun e M R=>te e M fun x M1=>tl e M1 fun l M2=>th e M2 fun u M3=>vX x l u M3 R
theorem A0{e:Expr}{te:DTE}{lo hi:Option Expr}{tl th:DTO}{p2:Pos}(he:JE X e te)(hl:JO X lo tl)(hu:JO X hi th):JE X (.Subscript e (.Slice lo hi none p2) pos) (La te tl th):=⟨have he:=he.out;have hl:=hl.out;have hu:=hu.out;(CO (oy (SlR.or tQ GD) he hl hu)).imp (by rintro σ H Q ⟨e,M,R,ok,am,t,f⟩;exact⟨e,M,_,ok,am,t,fun x M1 h1 v H1 k1 a1 r1=>⟨e,M1,_,ok.mono k1,a1,h1,fun l M2 h2 H2 k2 a2=>⟨e,M2,_,(ok.mono k1).mono k2,a2,h2,fun u M3 h3 H3 k3 a3=>by
  rcases h3 with⟨ds,hi,r⟩|⟨ds,rfl,hw,r⟩
  ·obtain⟨a,xs,rfl,sq,lx⟩:=B4 a3 ((r1.mono k2).mono k3) hi
   exact .inl ⟨a,xs,rfl,sq,fun p hp=>.inl (eU f (k1.trans (k2.trans k3)) a3 (lx.cut l u) r p hp)⟩
  ·cases(r1.mono k2).mono k3 with
   | tup sq lx =>
    exact .inr ⟨_,_,rfl,sq,by rw[lx.length];exact hw,fun p hp=>.inr (f _ M3 r _ _ ((k1.trans (k2.trans k3)).trans (KT.alloc hp)) (a3.alloc hp) (.tup (SqT.of j4) ((lx.cut l u).mono (KT.alloc hp))))⟩⟩⟩⟩)⟩
def lR(ds:List D)(M:Mem)(R:DK):Prop:=∃ x ys,ds=[x]∧v6 M x ys∧R (.vl ys) M
def Aw(t:DTA):DTE:=fun e M R=>t e M fun ds M1=>lR ds M1 R
end
section
variable {X:Cx} {e:Expr} {es:List Expr} {t:DTA} {x:Str} {p pos:Pos}
theorem zR(hg:Gl X x)(hm:X.mg x=none)(hv:bootBuiltins x=some (.type "list"))(ha:JA X (e :: es) t)
  (hn:x ≠ "__name__" := by decide) (hdb:(x == ("__debug__" : Str))=false:=by decide) (he:starEach (e :: es) X.env=(false,eval e X.env) :: starEach es X.env:=by rfl) (hpl:(backTo pos (starEach es X.env)).any (·.1)=false:=by rfl):JE X (.Call (.Name x p) (e :: es) [] pos) (Aw t):=⟨have ha:=ha.out;(gk (vG mv hg hm hv ha hn hdb he hpl)).imp (by rintro σ H Q ⟨e,M,R,ok,am,t,f⟩;exact⟨e,M,_,ok,am,t,fun ds M1 ⟨d,ys,z,sq,r⟩ vs H1 k1 a1 r1=>by
  subst z
  obtain⟨v,rfl,hv⟩:=r1.one
  obtain⟨a,xs,rfl,q1,m1⟩:=A1 sq a1 hv
  refine⟨a,xs,rfl,?_,fun p hp=>eU f k1 a1 m1 r p hp⟩
  cases hk:jy d with
  | true=>rw[hk]at q1;exact .inl q1
  | false=>rw[hk]at q1;exact .inr q1⟩)⟩
variable {te:DTE} {pos':Pos}
end
section
variable {X:Cx}
def KO(neg:Bool):DR2:=fun x y M R=>∃ ds,cl 60 x=true∧v6 M y ds∧clL 59 ds=true∧R (.bl (neg.xor (@decide (x∈ds) (Ql _)))) M
noncomputable def O6(h:Heap)(p:PyData)(y:Value):Bool:=@decide (∃ d as,Reads h y d as∧PyData.eqv d p=true) (Ql _)
theorem vy{h:Heap}{p d:PyData}{y:Value}{as:List Addr}(c:d.canLay0=true)(r:Reads h y d as):O6 h p y=PyData.eqv d p:=by
 unfold O6
 cases e:PyData.eqv d p with
 | true=>exact @decide_eq_true _ (Ql _) ⟨d,as,r,e⟩
 | false =>
  refine @decide_eq_false _ (Ql _) ?_
  rintro⟨d',as',r',e'⟩
  rw[← SeqAt.Reads.unique d d' y as as' c r r',e]at e'
  cases e'
theorem ae{X:Cx}{pins:List (Addr × Obj)}{s:Shared}{σ:St}{H:Hp}{M:Mem}{B:Around}{x:D}{u:Value}{bs:List Addr}(I:Inv X pins σ H s)(am:o9 X.K H M)(hB:B.units+62<cLine)(cx:cl 60 x=true)(rx:Reads s.heap u (pyD x) bs) :
  ∀{ds:List D} {vs:List V} {us:List Value},clL 59 ds=true→HasL X.K H vs ds→j0 vs us→(∀ w∈us,SeqAt.EqAt B s w u (O6 s.heap (pyD x) w))∧us.any (O6 s.heap (pyD x)) = @decide (x∈ds) (Ql _)
 | [],_,_,_,h,r=>by
  cases h;cases r
  refine⟨fun w hw=>(nomatch hw),?_⟩
  rw[List.any_nil]
  exact(@decide_eq_false _ (Ql _) (fun z=>nomatch z)).symm
 | d :: ds,_,_,c,h,r=>by
  cases h with
  | cons h hl =>
   cases r with
   | cons r rl =>
    have c':cl 59 d=true∧clL 59 ds=true:=by simpa[clL]using c
    obtain⟨ih1,ih2⟩:=ae I am hB cx rx c'.2 hl rl
    obtain⟨p1,p2,p3⟩:=jH (M:=M) c'.1
    obtain⟨q1,q2,q3⟩:=jH (M:=M) cx
    obtain⟨as,rd⟩:=M9 I am p1 h r
    have es:=vy (p:=pyD x) p2 rd
    refine⟨fun w hw=>?_,?_⟩
    ·rcases Pn.mp hw with rfl|hw
     ·rw[es]
      exact SeqAt.eqAt_reads _ _ B s _ _ _ _ rd rx p2 q2 (by have:=Uv (pyD d).depth (pyD x).depth;omega)
     ·exact ih1 w hw
    ·rw[List.any_cons,es,ih2]
     have ev:=rF c'.1 cx
     by_cases e:d=x
     ·rw[ev.mpr e]
      exact(@decide_eq_true _ (Ql _) (by rw[e];exact Po)).symm
     ·have:PyData.eqv (pyD d) (pyD x)=false:=by
       cases z:PyData.eqv (pyD d) (pyD x)with
       | false=>rfl
       | true=>exact absurd (ev.mp z) e
      rw[this,Bool.false_or]
      congr 1
      refine propext ⟨fun z=>Pk _ z,fun z=>?_⟩
      rcases Pn.mp z with z|z
      ·exact absurd z.symm e
      ·exact z
theorem zo(hu:X.A.units+64<cLine):DOp X (compareOp .NotIn) (KO true):=by
 intro pins s σ H x y v u Q I rx ry h
 obtain⟨dx,dy,M,R,hx,hy,am,⟨ds,c1,sq,c2,r⟩,f⟩:=h
 obtain⟨a,xs,rfl,q1,m1⟩:=A1 sq am hy
 cases ry
 obtain⟨bs,rd⟩:=M9 I am (jH (M:=M) c1).1 hx rx
 have fin:=f _ M r _ H (KT.refl H) am (.bl _)
 cases hk:jy dy with
 | true =>
  rw[hk]at q1
  obtain⟨its,rv,pl,hz⟩:=I.list q1
  obtain⟨i1,i2⟩:=ae (B:=X.A.in1) I am (by show X.A.units+1+62<cLine;omega) c1 rd c2 m1 rv
  refine SeqAt.notIn_listAt (O6 s.heap (pyD dx)) pl.isList (fun w hw=>i1 w (by simpa using hw)) ⟨.bl _,H,I,rfl,?_⟩
  rw[show its.toArray.any (O6 s.heap (pyD dx))=its.any (O6 s.heap (pyD dx))by simp,i2]
  simpa using fin
 | false =>
  rw[hk]at q1
  obtain⟨its,rv,pl,hz⟩:=I.tuple q1
  obtain⟨i1,i2⟩:=ae (B:=X.A.in1) I am (by show X.A.units+1+62<cLine;omega) c1 rd c2 m1 rv
  refine SeqAt.notIn_tupleAt (O6 s.heap (pyD dx)) pl (fun w hw=>i1 w (by simpa using hw)) ⟨.bl _,H,I,rfl,?_⟩
  rw[show its.toArray.any (O6 s.heap (pyD dx))=its.any (O6 s.heap (pyD dx))by simp,i2]
  simpa using fin
end
noncomputable abbrev bX:=Ev→Mem→(Bool→Mem→Prop)→Prop
abbrev LG(X:Cx)(ifs:List Expr)(t:bX):Prop:=cJ X ifs (upT X.K t)
structure Eh(X:Cx)(ifs:List Expr)(t:bX):Prop where
 out:LG X ifs t
def DN:bX:=fun _ M R=>R true M
theorem cJ.imp{X:Cx}{ifs:List Expr}{t t':TT}(h:cJ X ifs t)(i:∀ σ H Q,t' σ H Q→t σ H Q):cJ X ifs t':=fun pins s σ H Q I q=>h pins s σ H Q I (i σ H Q q)
theorem y9{X:Cx}:Eh X [] DN:=⟨cJ.imp yO (by rintro σ H Q ⟨e,M,R,ok,am,t,f⟩;exact f true M t H (KT.refl H) am)⟩
theorem jz{X:Cx}{c:Expr}{t:DTT}(h:JT X c t):Eh X [c] t:=⟨have h:=h.out;yN h⟩
structure qe(e0:Ev)(g:DTG)(tc:bX)(te:DTE)(ds:List D)(stay:Mem→Prop)(M1:Mem)(E:List D→Mem→Prop)(W:Nat→List D→Mem→Prop):Prop where
 start:W 0 [] M1
 stays:∀ i ys M,i≤ds.length→W i ys M→stay M
 turn:∀(i:Nat) (d:D) ys M,ds[i]? = some d→W i ys M→g d e0 M fun e2 M2=>tc e2 M2 fun b M3=>if b=true then te e2 M3 fun v M4=>ys.length<sizeLine∧W (i+1) (ys++[v]) M4 else W (i+1) ys M3
 done:∀ ys M,W ds.length ys M→E ys M
def Gd(e0:Ev)(g:DTG)(tc:bX)(te:DTE)(ds:List D)(stay:Mem→Prop)(M1:Mem)(R:DK):Prop:=∃ W,qe e0 g tc te ds stay M1 (fun ys M=>R (.vl ys) M) W
def rj(n:Nat)(caps:List Nat)(ti:DTI)(g:DTG)(tc:bX)(te:DTE):DTE:=fun e M R=>ti e M fun ds stay M1=>Gd (pT n caps e) g tc te ds stay M1 R
section
variable {X:Cx} {elt tg iter:Expr} {scope:Scope} {tgs cps:List Str} {caps:List Nat} {ti:DTI} {g:DTG} {tc:bX} {te:DTE} {pos:Pos} {ifs:List Expr}
def CWH(K:Pg)(H1:Hp)(D0:Addr)(len:Nat)(W:Nat→List D→Mem→Prop)(i m:Nat)(H':Hp):Prop:=m=len - i∧i≤len∧∃ M' ys xs,KT H1 H'∧o9 K H' M'∧H' D0=some (.lst xs)∧M' D0=none∧HasL K H' xs ys∧W i ys M'
theorem jF{K:Pg}{H1:Hp}{J:It}{ds:List D}{stay:Mem→Prop}{M1:Mem}{n:Nat}{caps:List Nat}{σ:St}{e:Ev}{E:List D→Mem→Prop}{W:Nat→List D→Mem→Prop}{D0:Addr}{Qd:Hp→Prop}(ok:A7 K H1 σ e)(a1:o9 K H1 M1)(wk:pY K H1 J ds stay)(hD:H1 D0=none)
  (C:qe (pT n caps e) g tc te ds stay M1 E W) (fin:∀ ys M xs H',KT H1 H'→o9 K H' M→H' D0=some (.lst xs)→M D0=none→HasL K H' xs ys→E ys M→Qd H') (i m:Nat) (H2:Hp) (w:CWH K H1 D0 ds.length W i m H2) :
  (J.stop i H2∧Qd H2)∨(J.go i H2∧∀ x H',J.yld i H2 x H'→(∃ p,xT p (upG K g) x (mr n caps σ) H' fun σ2 H3=>∃ p,xS p (upT K tc) σ2 H3 fun b H3'=>if b=true then ∃ p,xU p (up K te) σ2 H3' fun v H4 =>
   ∃ ys,H4 D0=some (.lst ys)∧ys.length<sizeLine∧∃ m',m'<m∧CWH K H1 D0 ds.length W (i+1) m' (upd H4 D0 (.lst (ys++[v])))else ∃ m',m'<m∧CWH K H1 D0 ds.length W (i+1) m' H3')):=by
 obtain⟨rfl,hi,M2,ys,xs,k2,a2,hx,hM,lx,w2⟩:=w
 have a2':o9 K H2 (A8 M2 D0 (.lst ys)):=fun a o q=>by
  by_cases e:a=D0
  ·subst e;rw[f8]at q;cases q;exact⟨xs,hx,lx⟩
  ·rw[J3 e]at q;exact a2 a o q
 have st:=wk.up _ D0 (.lst ys) (C.stays i ys M2 hi w2) hM
 by_cases hlt:i<ds.length
 ·refine .inr ⟨wk.go i H2 _ hlt k2 a2' st,fun y H' yl=>?_⟩
  obtain⟨d,hd,k3,a3',r⟩:=wk.yld i H2 _ y H' hlt k2 a2' st yl
  obtain⟨xs',hx',lx'⟩:=a3'.lst f8
  have a3:o9 K H' M2:=fun a o q=>by
   have e:a≠D0:=by intro e;subst e;rw[hM]at q;cases q
   exact a3' a o (by rw[J3 e];exact q)
  have kh:KT H' (upd H' D0 (bN D0 xs')):=KT.any hx'
  have k1h:=(k2.trans k3).trans kh
  have same:∀{H3:Hp},H3 D0=some (bN D0 xs')→upd (upd H3 D0 (.lst xs')) D0 (bN D0 xs')=H3:=fun{H3} q=>by
   rw[aQ];funext b;by_cases e:b=D0
   ·subst e;rw[j4,q]
   ·rw[g9 e]
  refine⟨D0,xs',hx',d,pT n caps e,M2,_,r.mono kh,DJ n caps (ok.mono k1h),a3.at kh.toKT0 hM,C.turn i d ys M2 hd w2,fun e3 M3 h3 σ3 H3 k4 a4 ok3=>?_⟩
  have q3:H3 D0=some (bN D0 xs'):=k4.ex D0 _ j4
  refine⟨q3,D0,xs',j4,?_⟩
  rw[same q3]
  refine⟨e3,M3,_,ok3,a4,h3,fun b M4 h4 H4 k5 a5=>?_⟩
  have q4:H4 D0=some (bN D0 xs'):=k5.ex D0 _ q3
  refine⟨q4,?_⟩
  have kk:=k1h.trans (k4.trans k5)
  cases b with
  | false =>
   have h4':W (i+1) ys M4:=h4
   show ∃ m',m'<ds.length - i∧CWH K H1 D0 ds.length W (i+1) m' (upd H4 D0 (.lst xs'))
   exact⟨ds.length - (i+1),by omega,rfl,hlt,M4,ys,xs',kk.new hD,a5.at (KT0.ext q4) (a5.none_ext q4),j4,a5.none_ext q4,(lx'.mono (kh.trans (k4.trans k5))).mono0 (KT0.ext q4),h4'⟩
  | true =>
   show ∃ p,xU p (up K te) σ3 (upd H4 D0 (.lst xs')) _
   refine⟨D0,xs',j4,?_⟩
   rw[same q4]
   refine⟨e3,M4,_,ok3.mono k5,a5,h4,fun dv M5 ⟨hz,w5⟩ vv H5 k6 a6 r6=>?_⟩
   have q5:H5 D0=some (bN D0 xs'):=k6.ex D0 _ q4
   refine⟨q5,xs',j4,by rw[lx'.length];exact hz,ds.length - (i+1),by omega,rfl,hlt,M5,ys++[dv],xs'++[vv],?_,?_,j4,a6.none_ext q5,?_,w5⟩
   ·rw[aQ];exact(kk.trans k6).new hD
   ·rw[aQ];exact a6.at (KT0.ext q5) (a6.none_ext q5)
   ·rw[aQ];exact((lx'.mono (kh.trans (k4.trans (k5.trans k6)))).mono0 (KT0.ext q5)).append (.cons (r6.mono0 (KT0.ext q5)) .nil)
 ·have e':i=ds.length:=by omega
  subst e'
  exact .inl ⟨wk.stop _ H2 _ (Py _) k2 a2' st,fin ys M2 xs H2 k2 a2 hx hM lx (C.done ys M2 w2)⟩
theorem E5(caps:List Nat)(tgs cps:List Str)(hc:X.calm=true)(hcell:∀ x∈scope.names,x.2 ≠ .cell)(hkind:scope.kind = .function)(hnames:∀ x∈scope.names,x.2 = .local→scope.names.lookup x.1=some .local)
  (hfr:∀ x∈scope.names,x.2 = .free→x.1∈cps) (hN:caps.map (fun i=>X.N[i]?)=cps.map some) (hX:∀ x∈cps,X.env.scope.names.lookup x=some .cell∧scope.names.lookup x=some .free)
  (hsc:∀ x∈cps,(relabel scope X.env).names.lookup x=some .cell∨(relabel scope X.env).names.lookup x=some .free)
  (hi:JI X tg iter ti) (hg:∀ cl s3 H3 C fp pins,JG (cxF X scope cl (tgs++cps) s3 H3 C fp pins) tg g) (hq:∀ cl s3 H3 C fp pins,Eh (cxF X scope cl (tgs++cps) s3 H3 C fp pins) ifs tc) (he:∀ cl s3 H3 C fp pins,JE (cxF X scope cl (tgs++cps) s3 H3 C fp pins) elt te)
  (hs:∀ x,foldedSetIterable iter X.env x=pure x:=by intro _;rfl):JE X (.ListComp elt [⟨tg,iter,ifs,0⟩] scope pos) (rj tgs.length caps ti g tc te):=⟨have hi:=hi.out;have hg:=fun v0 v1 v2 v3 v4 v5=>(hg v0 v1 v2 v3 v4 v5).out;have hq:=fun v0 v1 v2 v3 v4 v5=>(hq v0 v1 v2 v3 v4 v5).out;have he:=fun v0 v1 v2 v3 v4 v5=>(he v0 v1 v2 v3 v4 v5).out;(gk (yU (tgs:=tgs) (cps:=cps) (caps:=caps) hc hcell hkind hnames hfr hN hX hsc hi (fun cl s3 H3 C fp pins=>ue (hg cl s3 H3 C fp pins)) (fun cl s3 H3 C fp pins=>jl (hq cl s3 H3 C fp pins)) (fun cl s3 H3 C fp pins=>uf (he cl s3 H3 C fp pins)) hs)).imp (by rintro σ H Q ⟨e,M,R,ok,am,t,f⟩;exact⟨e,M,_,ok,am,t,fun ds stay M1 hW H1 k1 a1 J wk=>by
  intro D0 hD
  obtain⟨W,C⟩:=hW
  refine⟨fun i m H'=>CWH X.K H1 D0 ds.length W i m H',⟨ds.length,by simp,Qs _,M1,[],[],KT.alloc hD,a1.alloc hD,j4,a1.fresh hD,.nil,C.start⟩,fun i m H2 w=>jF (Qd:=fun H'=>∃ p xs,V.ref D0 = .ref p∧H' p=some (.lst xs)∧∀ o,Q (.ref D0) (upd H' p (.frz o (.lst xs)))) (ok.mono k1) a1 wk hD C (fun ys M2 xs H' k2 a2 hx hM lx r=>?_) i m H2 w⟩
  exact⟨D0,xs,rfl,hx,fun o=>f _ M2 r _ _ (k1.trans (k2.trans (KT.any hx))) (a2.at (KT.any hx).toKT0 hM) (.vl (.inl ⟨o,j4⟩) (lx.mono (KT.any hx)))⟩⟩)⟩
theorem K9{i:Nat}{x:Str}{pos' pos2:Pos}(caps:List Nat)(tgs cps:List Str)(hNd:X.N.Nodup)(hxi:X.N[i]? = some x)(hx:Loc X.env.scope x)(hc:X.calm=true)(hcell:∀ x∈scope.names,x.2 ≠ .cell)(hkind:scope.kind = .function)(hnames:∀ x∈scope.names,x.2 = .local→scope.names.lookup x.1=some .local)
  (hfr:∀ x∈scope.names,x.2 = .free→x.1∈cps) (hN:caps.map (fun i=>X.N[i]?)=cps.map some) (hX:∀ x∈cps,X.env.scope.names.lookup x=some .cell∧scope.names.lookup x=some .free)
  (hsc:∀ x∈cps,(relabel scope X.env).names.lookup x=some .cell∨(relabel scope X.env).names.lookup x=some .free)
  (hi:JI X tg iter ti) (hg:∀ cl s3 H3 C fp pins,JG (cxF X scope cl (tgs++cps) s3 H3 C fp pins) tg g) (hq:∀ cl s3 H3 C fp pins,Eh (cxF X scope cl (tgs++cps) s3 H3 C fp pins) ifs tc) (he:∀ cl s3 H3 C fp pins,JE (cxF X scope cl (tgs++cps) s3 H3 C fp pins) elt te)
  (hsw:swapsWith (.ListComp elt [⟨tg,iter,ifs,0⟩] scope pos) (some (.Name x pos')) pos2.line X.env=pure true:=by rfl) (hs:∀ x,foldedSetIterable iter X.env x=pure x:=by intro _;rfl) (hf:X.fn x=true∨X.env.scope.names.lookup x=some .local:=by first|exact .inl rfl|exact .inr rfl|assumption):JS X (.Assign [.Name x pos'] (.ListComp elt [⟨tg,iter,ifs,0⟩] scope pos) pos2) (Ax (rj tgs.length caps ti g tc te) (cE i)):=⟨have hi:=hi.out;have hg:=fun v0 v1 v2 v3 v4 v5=>(hg v0 v1 v2 v3 v4 v5).out;have hq:=fun v0 v1 v2 v3 v4 v5=>(hq v0 v1 v2 v3 v4 v5).out;have he:=fun v0 v1 v2 v3 v4 v5=>(he v0 v1 v2 v3 v4 v5).out;(CC (GX (yK (tgs:=tgs) (cps:=cps) (caps:=caps) hc hcell hkind hnames hfr hN hX hsc hi (fun cl s3 H3 C fp pins=>ue (hg cl s3 H3 C fp pins)) (fun cl s3 H3 C fp pins=>jl (hq cl s3 H3 C fp pins)) (fun cl s3 H3 C fp pins=>uf (he cl s3 H3 C fp pins)) hNd hxi hx hf hs)) hsw).imp (by rintro E σ H ⟨e,M,F,ok,am,t,f⟩;exact⟨e,M,_,ok,am,t,fun ds stay M1 hW H1 k1 a1 J wk=>by
  intro D0 hD
  obtain⟨W,C⟩:=hW
  refine⟨fun i m H'=>CWH X.K H1 D0 ds.length W i m H',⟨ds.length,by simp,Qs _,M1,[],[],KT.alloc hD,a1.alloc hD,j4,a1.fresh hD,.nil,C.start⟩,fun j m H2 w=>jF (Qd:=fun H'=>∃ p xs,V.ref D0 = .ref p∧H' p=some (.lst xs)∧∀ o,E.nx (σ.set i (some (.ref D0))) (upd H' p (.frz o (.lst xs)))) (ok.mono k1) a1 wk hD C (fun ys M2 xs H' k2 a2 hx hM lx r=>?_) j m H2 w⟩
  exact⟨D0,xs,rfl,hx,fun o=>f.nx _ M2 r _ _ (k1.trans (k2.trans (KT.any hx))) (a2.at (KT.any hx).toKT0 hM) ((ok.mono (k1.trans (k2.trans (KT.any hx)))).set (.vl (.inl ⟨o,j4⟩) (lx.mono (KT.any hx))) i)⟩⟩)⟩
end
section
variable {X:Cx} {e:Expr} {te:DTE} {p1 p2 pos pos2:Pos}
theorem SqL.upd{K:Pg}{H:Hp}{a it:Addr}{xs:List V}{o:HO}(h:SqL K H a xs)(ne:a≠it):SqL K (upd H it o) a xs:=h.elim (fun z=>.inl (by unfold Rd at z ⊢;rw[g9 ne];exact z)) .inr
theorem SqK.upd{K:Pg}{k:Bool}{H:Hp}{a it:Addr}{xs:List V}{o:HO}(h:SqK K k H a xs)(ne:a≠it):SqK K k (L2.upd H it o) a xs:=by
 cases k with
 | true=>exact SqL.upd (show SqL K H a xs from h) ne
 | false=>exact(show SqT K H a xs from h).elim (fun z=>.inl (by unfold Rd at z ⊢;rw[g9 ne];exact z)) .inr
def Aq(n:Nat)(t:X1):DTG:=fun d e M R=>∃ ds,N0 M d=some ds∧ds.length=n∧t ds e M R
theorem zO{xs:List Expr}{k:Nat}{t:X1}{n:Nat}(hc:X.calm=true)(h:JGs X xs t)
  (hn:(assignEach xs X.env).length=n:=by rfl) (hst:(assignEach xs X.env).findIdx? (·.1)=none:=by rfl):JG X (.Tuple xs k pos) (Aq n t):=⟨have h:=h.out;PG.imp (CL hc h hn hst) (by
  rintro v σ H Q ⟨d,e,M,R,r,ok,am,⟨ds,hi,hl,g⟩,f⟩
  obtain⟨a,xs,e1,sq,lx⟩:=B4 am r hi
  exact⟨a,xs,e1,sq,by rw[lx.length];exact hl,ds,e,M,R,lx,ok,am,g,f⟩)⟩
end
end DL
namespace L2
open PySem PySem.Spec PyProof.Rows
section
variable {X:Cx} {pos:Pos}
end
end L2
namespace DL
open PySem PySem.Spec L2
open PyProof.Rows hiding St
section
variable {X:Cx}
theorem HasL.intsV{K:Pg}{H:Hp}:∀{ns:List Int} {vs:List V},HasL K H vs (ns.map D.int)→vs=ns.map V.int
 | [],_,h=>by cases h;rfl
 | n :: r,_,h=>by
  cases h with
  | cons a b=>cases a;rw[HasL.intsV (ns:=r) b];rfl
end
section
variable {X:Cx}
theorem we(hc:X.calm=true):A4 X (.builtin "sum") (fun xs H Q=>∃(l:Addr) (ns:List Int),xs=[.ref l]∧SqL X.K H l (ns.map V.int)∧Q (.int ns.sum) H):=by
 intro pins s σ H xs us Q I r h
 obtain⟨l,ns,rfl,hS,q⟩:=h
 obtain⟨u,rfl,ru⟩:=nE r
 cases ru
 obtain⟨its,rv,p,_⟩:=I.list hS
 have hi:IntsAre its ns:=gG rv
 have hl:s.heap.IsList l its.toArray:=p.isList
 obtain⟨xs,e⟩:=hi.allInts.items
 have hns:ns=xs.toList.map (·.1):=by
  rw[← hi.numsOf,← nums_intItems,← e]
 rw[e]at hl
 refine PySem.sum_intListG (I.ok.hd hc) hl fun h2 t2 t3 kept2=>?_
 refine⟨.int _,H,I.kept kept2,⟨t3,rfl⟩,?_⟩
 rw[preSum_eq,QI (by simp),← hns]
 exact q
def KH:DRC:=fun ds M R=>∃(d:D) (ns:List Int),ds=[d]∧N0 M d=some (ns.map D.int)∧R (.int ns.sum) M
theorem Ls(hc:X.calm=true):Z7 X (.builtin "sum") KH:=A4.imp (we hc) (by
 rintro xs H Q ⟨ds,M,R,hl,am,⟨d,ns,z,hM,r⟩,f⟩
 subst z
 obtain⟨v,rfl,hv⟩:=hl.one
 obtain⟨a,vs,rfl,s,l⟩:=B4 am hv hM
 rw[l.intsV]at s
 exact⟨a,ns,rfl,s,f _ M r _ H (KT.refl H) am (.int _)⟩)
end
theorem Im:bootBuiltins "sum" = some (.builtin "sum"):=by decide +kernel
section
variable {X:Cx} {a b c:Expr} {ta tb tc:DTE} {pos:Pos}
end
section
variable {K:Pg}
end
section
variable {X:Cx} {x:Expr} {t:DTE}
end
theorem jr{P:Program}{w:World}{H:Hp}{h:Heap}{a:Addr}{o:HO}(x:C1 P w H h a o):∃ u,h.get? a=some u:=by
 cases o with
 | lst _=>obtain⟨_,_,_,_,e⟩:=x;exact⟨_,e⟩
 | tup _=>obtain⟨_,_,_,o,e,_⟩:=x;exact⟨_,e⟩
 | dK _=>obtain⟨_,_,_,_,o,_,_,e,_⟩:=x;exact⟨_,e⟩
 | dT _=>obtain⟨_,_,_,_,o,_,_,e,_⟩:=x;exact⟨_,e⟩
 | set _ _=>obtain⟨o,_,_,_,e,_⟩:=x;exact⟨_,e⟩
 | ins _ _ _=>obtain⟨_,_,_,e,_⟩:=x;exact⟨_,e⟩
 | own _=>exact x
 | xd _=>obtain⟨_,⟨_,_,_,e,_⟩,_⟩:=x;exact⟨_,e⟩
 | rng _ _=>obtain⟨_,_,_,e⟩:=x;exact⟨_,e⟩
 | frz _ _=>exact⟨_,x.1⟩
 | tbl _=>exact⟨_,show h.get? a=some _ from x⟩
 | met _ _=>exact⟨_,show h.get? a=some _ from x⟩
 | ext _=>exact x.2.1
noncomputable def Kn(X:Cx):St:=Ro X.N.length none
def Cov(B s0:Heap)(H':Hp)(fs:List Addr)(h:Heap):Prop:=∀ b o,h.get? b=some o→((∃ u,H' b=some u) ∨ ∃ o0,s0.get? b=some o0)→b∉fs→B.get? b=some o
def Air(B:Heap)(l:List Env)(a:Addr)(cls a0:Value)(h:Heap):Prop:=Heap.FlyingW B l a cls a0 h ∨ ∃ env l' L,l=env :: l'∧env.frame=some L∧Heap.HeldW B l a cls a0 L h
section
variable {M:Model} {A:Around} {E:Value→Shared→Prop} {s:Shared} {B:Heap} {l outer:List Env} {env:Env} {L a:Addr} {cls a0:Value} {Q:Unit→Shared→Prop}
theorem Air.frames{h:Heap}(x:Air B l a cls a0 h):h.FunFrames B l:=by
 rcases x with x|⟨_,_,_,_,_,x⟩
 ·exact x.2.2.1
 ·exact x.2.2.1
theorem Air.base{h:Heap}(x:Air B l a cls a0 h):B.StaysIn h∧B.get? a=none:=by
 rcases x with x|⟨_,_,_,_,_,x⟩
 ·exact⟨x.1,x.2.1⟩
 ·exact⟨x.1,x.2.1⟩
theorem Air.data{h:Heap}(x:Air B l a cls a0 h):∃ oe vs,h.get? a=some oe∧oe.data = .fields vs:=by
 rcases x with⟨_,_,_,oe,vs,_,_,_,h1,_,h2,_⟩|⟨_,_,_,_,_,_,_,_,oe,vs,_,_,_,h1,_,h2,_⟩<;>exact⟨oe,vs,h1,h2⟩
end
noncomputable def XP(X:Cx)(mk:Bool)(EX:Value→Hp→Prop):Value→Shared→Prop:=fun e s' =>
 (mk=true∧∃ a cls h vs H',e = .ref a∧EX cls H'∧Heap.MadeExcOf h s'.heap a cls vs∧Inv X [] (Kn X) H' { s' with heap:=h }) ∨
 (∃ pins σ Hc sc a cls a0 H' B,Inv X pins σ Hc sc∧e = .ref a∧s'.os=sc.os∧AllBare s'.gens∧Un (frs X.stack) [] Hc H' sc.heap s'.heap∧HOk X.prog X.w H' s'.heap ∧
  X.base.StaysIn B∧Cov B sc.heap H' (frs X.stack) s'.heap∧Air B X.stack a cls a0 s'.heap∧EX cls H')
section
variable {P:Program} {w:World} {K:Pg} {mg:Str→Option Value} {base:Heap} {N:List Str} {qual:Str} {scope:Scope} {f:Addr} {cd:Value} {A:Around} {outer:List Env} {s:Shared} {H:Hp} {E:XK}
end
noncomputable def xN(x:Str):Value:=.str x 0
noncomputable def Mx(X:Cx)(H₀:Hp)(Y:DXK):Value→Hp→Prop:=fun c H'=>KT H₀ H'∧∃(x:Str) (C:Addr) (M':Mem),c = .ref C∧X.mg x=some (.ref C)∧o9 X.K H' M'∧Y (xN x) M'
noncomputable abbrev Cx.ex'(X:Cx)(mk:Bool)(H₀:Hp)(Y:DXK):Cx:=X.wish (XP X mk (Mx X H₀ Y))
section
variable {X:Cx} {mk:Bool} {H₀:Hp} {Y:DXK} {st:Stmt} {G8:List Stmt} {t u:DTS} {pos:Pos}
end
section
variable {P:Program} {w:World} {K:Pg} {mg:Str→Option Value} {base:Heap}
end
section
variable {X:Cx} {mk:Bool} {H₀:Hp} {Y:DXK} {pos cpos:Pos} {x:Str} {j:Nat} {ps:List Str} {sp:DSp} {p:Pos} {e:Expr} {es:List Expr} {t:DTA}
end
section
variable {X:Cx} {mk:Bool} {H₀:Hp} {Y:DXK} {pos:Pos} {e:Expr} {te:DTE}
end
section
variable {X:Cx} {mk:Bool} {EX:Value→Hp→Prop}
end
section
variable {X:Cx} {mk:Bool} {H₀:Hp} {Y:DXK} {pos:Pos} {c:Expr} {body:List Stmt} {tc:DTT} {tb:DTS}
end
section
variable {X:Cx} {H₀:Hp} {Y:DXK} {pos cpos np:Pos} {x:Str} {e₀:Expr} {te:DTE}
end
noncomputable abbrev Cx.pinned(X:Cx)(pn:List (Addr × Obj)):Cx:={ X with pn:=pn }
section
variable {X:Cx} {pins pn:List (Addr × Obj)} {σ:St} {H:Hp} {s:Shared}
end
section
variable {X:Cx} {body suite:List Stmt} {b0:Stmt} {c:Str} {np hpos pos:Pos} {tb:DXK→DTS} {ts:DTS}
end
section
variable {X:Cx} {body suite:List Stmt} {b0:Stmt} {c:Str} {np hpos pos:Pos} {tb:DXK→DTS} {ts:DTS}
end
end DL
namespace DL
open PySem PySem.Spec L2
def BlK(x:D)(M:Mem)(Q:Bool→Mem→Prop):Prop:=∃ k,x = .bl k∧Q k M
def IfK(c:Bool)(A B:Prop):Prop:=if c=true then A else B
def SzK(n:Nat)(A:Prop):Prop:=n≤sizeLine∧A
def LA(i j:Nat)(ds:List D)(F:bY)(e:Ev)(M:Mem):Prop:=∃ x y,ds=[x,y]∧F.nx ((e.set i (some x)).set j (some y)) M
def Ef(x:D)(M:Mem)(Q:List D→(Mem→Prop)→Mem→Prop):Prop:=∃ ds,v6 M x ds∧Q ds (fun M'=>v6 M' x ds) M
def Bc(xs:List D)(M:Mem)(Q:List D→(Mem→Prop)→Mem→Prop):Prop:=∃ x ds,xs=[x]∧v6 M x ds∧Q (W7 ds) (fun M'=>v6 M' x ds) M
def AV(xs:List D)(M:Mem)(Q:List D→(Mem→Prop)→Mem→Prop):Prop:=∃ x y ds es,xs=[x,y]∧v6 M x ds∧v6 M y es∧Q (S9 ds es) (fun M'=>v6 M' x ds∧v6 M' y es) M
def Lz(xs:List D)(M:Mem)(Q:List D→(Mem→Prop)→Mem→Prop):Prop:=∃ j:Int,xs=[.int j]∧-(2 ^ 62)≤j∧j<2 ^ 62∧Q (K2 0 j.toNat) (fun _=>True) M
def FY(xs:List D)(M:Mem)(Q:List D→(Mem→Prop)→Mem→Prop):Prop:=∃ i j:Int,xs=[.int i,.int j]∧(-(2 ^ 62)≤i∧i<2 ^ 62∧-(2 ^ 62)≤j∧j<2 ^ 62)∧Q (K2 i (j - i).toNat) (fun _=>True) M
def P4(g:DTG)(tb:DTS)(F:bY)(ds:List D)(stay:Mem→Prop)(e:Ev)(M1:Mem):Prop:=∃ W:Nat→Ev→Mem→Prop,W 0 e M1∧(∀ i e M,i≤ds.length→W i e M→stay M) ∧
 (∀(i:Nat) (d:D) e M,ds[i]? = some d→W i e M→g d e M fun e2 M2=>tb { F with nx:=W (i+1),ct:=W (i+1),bk:=F.nx } e2 M2)∧∀ e M,W ds.length e M→F.nx e M
def Ba(x:D)(M1:Mem)(R:DK):Prop:=∃ p ds,x = .ref p∧M1 p=some (.lst ds)∧R (.vl ds) (cF M1 p)
def FZ(x:D)(M:Mem)(Q:Option Int→Mem→Prop):Prop:=∃ i,x = .int i∧Q (some i) M
def II(x:D)(M1:Mem)(R:DK):Prop:=∃ M2:Mem,(∀ b o,M2 b=some o→M1 b=some o)∧R x M2
def LMK(x:D)(M:Mem)(A:Prop):Prop:=(∃ l ds,x = .ref l∧M l=some (.lst ds))∧A
end DL
namespace DL
open PySem PySem.Spec L2
open PyProof.Rows hiding St
section
variable {e:Ev} {M:Mem} {R:DK} {F:bY} {ta tb tc:DTE} {tA tB:DTT} {tr:DTA} {t u:DTS}
theorem z_C{d:D}:dC d e M R=R d M:=rfl
theorem Jq{g:DR2}:dOp g ta tb e M R=ta e M fun x M1=>tb e M1 fun y M2=>g x y M2 R:=rfl
theorem Jo{g:D→Mem→DK→Prop}:dUn g ta e M R=ta e M fun x M1=>g x M1 R:=rfl
theorem Jm{f:Int→Int→D}{i j:Int}:gF (fI f) (.int i) (.int j) M R=R (f i j) M:=propext ⟨fun zz=>by obtain⟨_,h,r⟩:=zz;cases h;exact r,fun r=>⟨_,rfl,r⟩⟩
theorem Jn{f:Bool→Bool→D}{i j:Bool}:gF (fB f) (.bl i) (.bl j) M R=R (f i j) M:=propext ⟨fun zz=>by obtain⟨_,h,r⟩:=zz;cases h;exact r,fun r=>⟨_,rfl,r⟩⟩
theorem Jl{f:Str→Str→D}{i j:Str}:gF (fS f) (.str i) (.str j) M R=R (f i j) M:=propext ⟨fun zz=>by obtain⟨_,h,r⟩:=zz;cases h;exact r,fun r=>⟨_,rfl,r⟩⟩
theorem Jk{C:Int→Int→Prop}{f:Int→Int→D}{i j:Int}:gI C f (.int i) (.int j) M R=(C i j∧R (f i j) M):=propext ⟨fun zz=>by obtain⟨_,_,h1,h2,c,r⟩:=zz;cases h1;cases h2;exact⟨c,r⟩,fun⟨c,r⟩=>⟨_,_,rfl,rfl,c,r⟩⟩
theorem Jj{f:Int→D}{i:Int}:gU f (.int i) M R=R (f i) M:=propext ⟨fun zz=>by obtain⟨_,h,r⟩:=zz;cases h;exact r,fun r=>⟨_,rfl,r⟩⟩
theorem xm{Q:Bool→Mem→Prop}:uO ta e M Q=ta e M fun x M'=>BlK x M' Q:=rfl
theorem Fc{b:Bool}{Q:Bool→Mem→Prop}:BlK (.bl b) M Q=Q b M:=propext ⟨fun zz=>by obtain⟨_,h,r⟩:=zz;cases h;exact r,fun r=>⟨_,rfl,r⟩⟩
theorem Fe{Q:Bool→Mem→Prop}:Ll tA tB e M Q=tA e M fun c M1=>IfK c (tB e M1 Q) (Q false M1):=rfl
theorem Jp{Q:Bool→Mem→Prop}:dOr tA tB e M Q=tA e M fun c M1=>IfK c (Q true M1) (tB e M1 Q):=rfl
theorem EL{Q:Bool→Mem→Prop}:Le tA e M Q=tA e M fun c M1=>Q (!c) M1:=rfl
theorem xH:FN ta tb e M R=ta e M fun x M1=>BlK x M1 fun c M1=>IfK c (tb e M1 R) (R (.bl false) M1):=rfl
theorem xv:FF ta e M R=ta e M fun x M1=>BlK x M1 fun c M1=>R (.bl (!c)) M1:=rfl
theorem Js:dIf tA ta tb e M R=tA e M fun c M1=>IfK c (ta e M1 R) (tb e M1 R):=rfl
theorem ET:Lh tA t u F e M=tA e M fun c M1=>IfK c (t F e M1) (u F e M1):=rfl
theorem EM{Q:List D→Mem→Prop}:Lf e M Q=Q [] M:=rfl
theorem xE{Q:List D→Mem→Prop}:FK ta tr e M Q=ta e M fun x M1=>tr e M1 fun xs M2=>Q (x :: xs) M2:=rfl
theorem EG:KZ tr e M R=tr e M fun ds M1=>SzK ds.length (R (.tup ds) M1):=rfl
theorem ER:Lg tr e M R=tr e M fun ds M1=>SzK ds.length (∀ p,M1 p=none→R (.ref p) (A8 M1 p (.lst ds))):=rfl
theorem Y8{x y z:D}(h:ixD M x y=some z):gIx x y M R=R z M:=propext ⟨fun zz=>by obtain⟨_,h',r⟩:=zz;rw[h]at h';cases h';exact r,fun r=>⟨_,h,r⟩⟩
theorem T6{neg:Bool}{x y:D}{b:Bool}(h:isD x y=some b):gIs neg x y M R=R (.bl (neg.xor b)) M:=propext ⟨fun zz=>by obtain⟨_,h',r⟩:=zz;rw[h]at h';cases h';exact r,fun r=>⟨_,h,r⟩⟩
theorem Fb{neg:Bool}{x y:D}:HV neg x y M R=(cl 60 x=true∧cl 60 y=true∧R (.bl (neg.xor (@decide (x=y) (Ql _)))) M):=rfl
theorem xG{sp:DSp}{dds:List D}{Y:DXK}:uQ sp dds Y tr e M R=tr e M fun ds M1=>sp (ds++dds) M1 R Y:=rfl
theorem Jt{g:DRC}:dCB g tr e M R=tr e M fun ds M1=>g ds M1 R:=rfl
theorem xw:FG F e M=F.nx e M:=rfl
theorem EI:Lb t u F e M=t { F with nx:=u F } e M:=rfl
theorem xD:FJ ta F e M=ta e M fun _ M1=>F.nx e M1:=rfl
theorem EJ:Lc ta F e M=ta e M F.rt:=rfl
theorem tD:Av F e M=False:=rfl
variable {Q:Ev→Mem→Prop}
theorem sS{i:Nat}{d:D}:cE i d e M Q=Q (e.set i (some d)) M:=rfl
theorem xl:FC [] e M Q=Q e M:=propext ⟨fun h=>h.2,fun h=>⟨rfl,h⟩⟩
theorem sT{g:DTG}{gs:X1}{d:D}{ds:List D}:Ar g gs (d :: ds) e M Q=g d e M fun e' M'=>gs ds e' M' Q:=propext ⟨fun zz=>by obtain⟨_,_,h,r⟩:=zz;cases h;exact r,fun r=>⟨_,_,rfl,r⟩⟩
theorem nk{n:Nat}{gs:X1}{ds:List D}(h:ds.length=n):Aq n gs (.vl ds) e M Q=gs ds e M Q:=propext ⟨fun zz=>by obtain⟨_,h',_,r⟩:=zz;cases h';exact r,fun r=>⟨_,rfl,h,r⟩⟩
theorem fD{n:Nat}{gs:X1}{ds:List D}(h:ds.length=n):pF n gs (.tup ds) e M Q=gs ds e M Q:=propext ⟨fun zz=>by obtain⟨_,h',_,r⟩:=zz;cases h';exact r,fun r=>⟨_,rfl,h,r⟩⟩
theorem xk{to ti:DTE}{ts:Bd}{d:D}:FA to ti ts d e M Q=to e M fun o M1=>ti e M1 fun i M2=>ts o i d M2 fun M3=>Q e M3:=rfl
theorem Fd{g:DTG}:Ax ta g F e M=ta e M fun x M1=>g x e M1 F.nx:=rfl
theorem EK{i j:Nat}:Ld i j tr F e M=tr e M fun ds M1=>LA i j ds F e M1:=rfl
theorem xu{i j:Nat}{x y:D}:LA i j [x,y] F e M=F.nx ((e.set i (some x)).set j (some y)) M:=propext ⟨fun zz=>by obtain⟨_,_,h,r⟩:=zz;cases h;exact r,fun r=>⟨_,_,rfl,r⟩⟩
theorem Ff{i:Int}:KR [.int i] M R=R (.int (i.natAbs:Int)) M:=propext ⟨fun zz=>by obtain⟨_,h,r⟩:=zz;cases h;exact r,fun r=>⟨_,rfl,r⟩⟩
theorem EO{i j:Int}:KN [.int i,.int j] M R=R (.int (max i j)) M:=propext ⟨fun zz=>by obtain⟨_,_,h,r⟩:=zz;cases h;exact r,fun r=>⟨_,_,rfl,r⟩⟩
theorem EN{i j:Int}:KJ [.int i,.int j] M R=R (.int (min i j)) M:=propext ⟨fun zz=>by obtain⟨_,_,h,r⟩:=zz;cases h;exact r,fun r=>⟨_,_,rfl,r⟩⟩
theorem tF{d:D}{n:Nat}(h:HJ M d=some n):vY [d] M R=R (.int (n:Int)) M:=propext ⟨fun zz=>by obtain⟨_,_,h',h2,r⟩:=zz;cases h';rw[h]at h2;cases h2;exact r,fun r=>⟨_,_,rfl,h,r⟩⟩
theorem t5{d:D}{ty T:String}{b:Bool}(h1:tyD M d=some ty)(h2:Ce ty T=some b):B5 [d,.ty T] M R=R (.bl b) M:=propext ⟨fun zz=>by
 obtain⟨_,_,_,_,h,h1',h2',r⟩:=zz
 injection h with h h';subst h;injection h' with h';injection h' with h';subst h'
 rw[h1]at h1';cases h1';rw[h2]at h2';cases h2';exact r,fun r=>⟨_,_,_,_,rfl,h1,h2,r⟩⟩
theorem EU{c:Bool}{A B:Prop}:IfK c A B=((c=true→A)∧(c=false→B)):=by cases c<;>simp[IfK]
theorem ES{A B:Prop}:IfK true A B=A:=by simp[IfK]
theorem EV{A B:Prop}:IfK false A B=B:=by simp[IfK]
theorem C4{n:Nat}{A:Prop}(h:n≤1000):SzK n A=A:=propext ⟨fun h=>h.2,fun a=>⟨sl n h,a⟩⟩
theorem IY{d:D}{r:Ev}:bQ 0 (some d :: r) M R=R d M:=propext ⟨fun zz=>by obtain⟨_,h,q⟩:=zz;cases h;exact q,fun q=>⟨_,rfl,q⟩⟩
theorem Ji{y z:Option D}{r:Ev}:(y :: r:Ev).set 0 z=z :: r:=rfl
theorem IX{x0:Option D}{d:D}{r:Ev}:bQ 1 (x0 :: some d :: r) M R=R d M:=propext ⟨fun zz=>by obtain⟨_,h,q⟩:=zz;cases h;exact q,fun q=>⟨_,rfl,q⟩⟩
theorem Jh{x0:Option D}{y z:Option D}{r:Ev}:(x0 :: y :: r:Ev).set 1 z=x0 :: z :: r:=rfl
theorem IW{x0 x1:Option D}{d:D}{r:Ev}:bQ 2 (x0 :: x1 :: some d :: r) M R=R d M:=propext ⟨fun zz=>by obtain⟨_,h,q⟩:=zz;cases h;exact q,fun q=>⟨_,rfl,q⟩⟩
theorem Jg{x0 x1:Option D}{y z:Option D}{r:Ev}:(x0 :: x1 :: y :: r:Ev).set 2 z=x0 :: x1 :: z :: r:=rfl
theorem IV{x0 x1 x2:Option D}{d:D}{r:Ev}:bQ 3 (x0 :: x1 :: x2 :: some d :: r) M R=R d M:=propext ⟨fun zz=>by obtain⟨_,h,q⟩:=zz;cases h;exact q,fun q=>⟨_,rfl,q⟩⟩
theorem Jf{x0 x1 x2:Option D}{y z:Option D}{r:Ev}:(x0 :: x1 :: x2 :: y :: r:Ev).set 3 z=x0 :: x1 :: x2 :: z :: r:=rfl
theorem IU{x0 x1 x2 x3:Option D}{d:D}{r:Ev}:bQ 4 (x0 :: x1 :: x2 :: x3 :: some d :: r) M R=R d M:=propext ⟨fun zz=>by obtain⟨_,h,q⟩:=zz;cases h;exact q,fun q=>⟨_,rfl,q⟩⟩
theorem Je{x0 x1 x2 x3:Option D}{y z:Option D}{r:Ev}:(x0 :: x1 :: x2 :: x3 :: y :: r:Ev).set 4 z=x0 :: x1 :: x2 :: x3 :: z :: r:=rfl
theorem IT{x0 x1 x2 x3 x4:Option D}{d:D}{r:Ev}:bQ 5 (x0 :: x1 :: x2 :: x3 :: x4 :: some d :: r) M R=R d M:=propext ⟨fun zz=>by obtain⟨_,h,q⟩:=zz;cases h;exact q,fun q=>⟨_,rfl,q⟩⟩
theorem Jd{x0 x1 x2 x3 x4:Option D}{y z:Option D}{r:Ev}:(x0 :: x1 :: x2 :: x3 :: x4 :: y :: r:Ev).set 5 z=x0 :: x1 :: x2 :: x3 :: x4 :: z :: r:=rfl
theorem IS{x0 x1 x2 x3 x4 x5:Option D}{d:D}{r:Ev}:bQ 6 (x0 :: x1 :: x2 :: x3 :: x4 :: x5 :: some d :: r) M R=R d M:=propext ⟨fun zz=>by obtain⟨_,h,q⟩:=zz;cases h;exact q,fun q=>⟨_,rfl,q⟩⟩
theorem Jc{x0 x1 x2 x3 x4 x5:Option D}{y z:Option D}{r:Ev}:(x0 :: x1 :: x2 :: x3 :: x4 :: x5 :: y :: r:Ev).set 6 z=x0 :: x1 :: x2 :: x3 :: x4 :: x5 :: z :: r:=rfl
theorem IQ{x0 x1 x2 x3 x4 x5 x6:Option D}{d:D}{r:Ev}:bQ 7 (x0 :: x1 :: x2 :: x3 :: x4 :: x5 :: x6 :: some d :: r) M R=R d M:=propext ⟨fun zz=>by obtain⟨_,h,q⟩:=zz;cases h;exact q,fun q=>⟨_,rfl,q⟩⟩
theorem Jb{x0 x1 x2 x3 x4 x5 x6:Option D}{y z:Option D}{r:Ev}:(x0 :: x1 :: x2 :: x3 :: x4 :: x5 :: x6 :: y :: r:Ev).set 7 z=x0 :: x1 :: x2 :: x3 :: x4 :: x5 :: x6 :: z :: r:=rfl
theorem IP{x0 x1 x2 x3 x4 x5 x6 x7:Option D}{d:D}{r:Ev}:bQ 8 (x0 :: x1 :: x2 :: x3 :: x4 :: x5 :: x6 :: x7 :: some d :: r) M R=R d M:=propext ⟨fun zz=>by obtain⟨_,h,q⟩:=zz;cases h;exact q,fun q=>⟨_,rfl,q⟩⟩
theorem Ja{x0 x1 x2 x3 x4 x5 x6 x7:Option D}{y z:Option D}{r:Ev}:(x0 :: x1 :: x2 :: x3 :: x4 :: x5 :: x6 :: x7 :: y :: r:Ev).set 8 z=x0 :: x1 :: x2 :: x3 :: x4 :: x5 :: x6 :: x7 :: z :: r:=rfl
theorem IM{x0 x1 x2 x3 x4 x5 x6 x7 x8:Option D}{d:D}{r:Ev}:bQ 9 (x0 :: x1 :: x2 :: x3 :: x4 :: x5 :: x6 :: x7 :: x8 :: some d :: r) M R=R d M:=propext ⟨fun zz=>by obtain⟨_,h,q⟩:=zz;cases h;exact q,fun q=>⟨_,rfl,q⟩⟩
theorem IZ{x0 x1 x2 x3 x4 x5 x6 x7 x8:Option D}{y z:Option D}{r:Ev}:(x0 :: x1 :: x2 :: x3 :: x4 :: x5 :: x6 :: x7 :: x8 :: y :: r:Ev).set 9 z=x0 :: x1 :: x2 :: x3 :: x4 :: x5 :: x6 :: x7 :: x8 :: z :: r:=rfl
theorem En{x0 x1 x2 x3 x4 x5 x6 x7 x8 x9:Option D}{d:D}{r:Ev}:bQ 10 (x0 :: x1 :: x2 :: x3 :: x4 :: x5 :: x6 :: x7 :: x8 :: x9 :: some d :: r) M R=R d M:=propext ⟨fun zz=>by obtain⟨_,h,q⟩:=zz;cases h;exact q,fun q=>⟨_,rfl,q⟩⟩
theorem EE{x0 x1 x2 x3 x4 x5 x6 x7 x8 x9:Option D}{y z:Option D}{r:Ev}:(x0 :: x1 :: x2 :: x3 :: x4 :: x5 :: x6 :: x7 :: x8 :: x9 :: y :: r:Ev).set 10 z=x0 :: x1 :: x2 :: x3 :: x4 :: x5 :: x6 :: x7 :: x8 :: x9 :: z :: r:=rfl
theorem Em{x0 x1 x2 x3 x4 x5 x6 x7 x8 x9 x10:Option D}{d:D}{r:Ev}:bQ 11 (x0 :: x1 :: x2 :: x3 :: x4 :: x5 :: x6 :: x7 :: x8 :: x9 :: x10 :: some d :: r) M R=R d M:=propext ⟨fun zz=>by obtain⟨_,h,q⟩:=zz;cases h;exact q,fun q=>⟨_,rfl,q⟩⟩
theorem ED{x0 x1 x2 x3 x4 x5 x6 x7 x8 x9 x10:Option D}{y z:Option D}{r:Ev}:(x0 :: x1 :: x2 :: x3 :: x4 :: x5 :: x6 :: x7 :: x8 :: x9 :: x10 :: y :: r:Ev).set 11 z=x0 :: x1 :: x2 :: x3 :: x4 :: x5 :: x6 :: x7 :: x8 :: x9 :: x10 :: z :: r:=rfl
theorem El{x0 x1 x2 x3 x4 x5 x6 x7 x8 x9 x10 x11:Option D}{d:D}{r:Ev}:bQ 12 (x0 :: x1 :: x2 :: x3 :: x4 :: x5 :: x6 :: x7 :: x8 :: x9 :: x10 :: x11 :: some d :: r) M R=R d M:=propext ⟨fun zz=>by obtain⟨_,h,q⟩:=zz;cases h;exact q,fun q=>⟨_,rfl,q⟩⟩
theorem EC{x0 x1 x2 x3 x4 x5 x6 x7 x8 x9 x10 x11:Option D}{y z:Option D}{r:Ev}:(x0 :: x1 :: x2 :: x3 :: x4 :: x5 :: x6 :: x7 :: x8 :: x9 :: x10 :: x11 :: y :: r:Ev).set 12 z=x0 :: x1 :: x2 :: x3 :: x4 :: x5 :: x6 :: x7 :: x8 :: x9 :: x10 :: x11 :: z :: r:=rfl
theorem u8{M:Mem}{ds es:List D}:v6 M (.tup ds) es=(es=ds):=by
 apply propext
 constructor
 ·intro h
  rcases h with h|⟨_,h,_⟩|h
  ·injection h with h;exact h.symm
  ·exact absurd h (by intro z;cases z)
  ·exact absurd h (by intro z;cases z)
 ·intro h;exact .inl (by rw[h])
theorem i5{M:Mem}{ds es:List D}:v6 M (.vl ds) es=(es=ds):=by
 apply propext
 constructor
 ·intro h
  rcases h with h|⟨_,h,_⟩|h
  ·exact absurd h (by intro z;cases z)
  ·exact absurd h (by intro z;cases z)
  ·injection h with h;exact h.symm
 ·intro h;exact .inr (.inr (by rw[h]))
theorem u0{ds:List D}{n:Nat}{d:D}(h:ds[n]? = some d):atI ds (n:Int)=some d:=by
 obtain⟨hl,_⟩:=Pw.mp h
 unfold atI ixN
 rw[if_pos (Int.natCast_nonneg n),if_pos (by omega)]
 simpa using h
theorem xx:FH tr e M R=tr e M fun ds M1=>SzK ds.length (R (.vl ds) M1):=rfl
theorem xF:FL ta tb e M R=ta e M fun x M1=>tb e M1 fun y M2=>Ab x y M2 R:=rfl
theorem EH{tl th:DTO}:La ta tl th e M R=ta e M fun x M1=>tl e M1 fun l M2=>th e M2 fun u M3=>vX x l u M3 R:=rfl
theorem nA{Q:Option Int→Mem→Prop}:uP e M Q=Q none M:=rfl
theorem xt{Q:Option Int→Mem→Prop}:FE ta e M Q=ta e M fun x M1=>FZ x M1 Q:=rfl
theorem tw{i:Int}{Q:Option Int→Mem→Prop}:FZ (.int i) M Q=Q (some i) M:=propext ⟨fun zz=>by obtain⟨_,h,r⟩:=zz;cases h;exact r,fun r=>⟨_,rfl,r⟩⟩
theorem tE:Aw tr e M R=tr e M fun ds M1=>lR ds M1 R:=rfl
theorem nq{ds:List D}:lR [.tup ds] M R=R (.vl ds) M:=propext ⟨fun zz=>by obtain⟨_,_,h,h2,r⟩:=zz;cases h;rw[u8]at h2;subst h2;exact r,fun r=>⟨_,_,rfl,.inl rfl,r⟩⟩
theorem xB{neg:Bool}{x:D}{ds:List D}:KO neg x (.vl ds) M R=(cl 60 x=true∧clL 59 ds=true∧R (.bl (neg.xor (@decide (x∈ds) (Ql _)))) M):=propext ⟨fun zz=>by obtain⟨_,a,b,c,r⟩:=zz;rw[i5]at b;subst b;exact⟨a,c,r⟩,fun⟨a,c,r⟩=>⟨ds,a,by rw[i5],c,r⟩⟩
theorem je{ds:List D}:lR [.vl ds] M R=R (.vl ds) M:=propext ⟨fun zz=>by obtain⟨_,_,h,h2,r⟩:=zz;cases h;rw[i5]at h2;subst h2;exact r,fun r=>⟨_,_,rfl,.inr (.inr rfl),r⟩⟩
theorem nu{xs ys:List D}:Ab (.vl xs) (.vl ys) M R=SzK (xs.length+ys.length) (R (.vl (xs++ys)) M):=propext ⟨fun zz=>by obtain⟨_,_,h,h2,z,r⟩:=zz;cases h;cases h2;exact⟨z,r⟩,fun⟨z,r⟩=>⟨_,_,rfl,rfl,z,r⟩⟩
theorem sR{xs:List D}{lo hi:Option Int}:vX (.vl xs) lo hi M R=R (.vl (P2 xs lo hi)) M:=propext ⟨fun h=>by
 rcases h with⟨_,h,r⟩|⟨_,h,_⟩
 ·cases h;exact r
 ·exact(nomatch h),fun r=>.inl ⟨_,rfl,r⟩⟩
theorem jT{xs:List D}{lo hi:Option Int}:vX (.tup xs) lo hi M R=(¬ (HT.sIx xs.length 0 lo=0∧HT.sIx xs.length xs.length hi=xs.length)∧R (.tup (P2 xs lo hi)) M):=propext ⟨fun h=>by
 rcases h with⟨_,h,r⟩|⟨_,h,hw,r⟩
 ·cases h
 ·cases h;exact⟨hw,r⟩,fun⟨hw,r⟩=>.inr ⟨_,rfl,hw,r⟩⟩
theorem EW:Li ta e M R=ta e M fun x M1=>Ba x M1 R:=rfl
theorem fE{p:Addr}{ds:List D}(h:M p=some (.lst ds)):Ba (.ref p) M R=R (.vl ds) (cF M p):=propext ⟨fun zz=>by obtain⟨_,_,e,h',r⟩:=zz;cases e;rw[h]at h';cases h';exact r,fun r=>⟨_,_,rfl,h,r⟩⟩
theorem tJ{n:Nat}{caps:List Nat}{ti:DTI}{g:DTG}{tc:bX}{te:DTE}:rj n caps ti g tc te e M R=ti e M fun ds stay M1=>Gd (pT n caps e) g tc te ds stay M1 R:=rfl
theorem EF{Q:Bool→Mem→Prop}:DN e M Q=Q true M:=rfl
section
variable {Q:List D→(Mem→Prop)→Mem→Prop}
theorem sV:Fy ta e M Q=ta e M fun x M1=>Ef x M1 Q:=rfl
theorem xq{ds:List D}:Ef (.tup ds) M Q=Q ds (fun M'=>v6 M' (.tup ds) ds) M:=propext ⟨fun zz=>by obtain⟨_,h,r⟩:=zz;rw[u8]at h;subst h;exact r,fun r=>⟨_,.inl rfl,r⟩⟩
theorem xp{ds:List D}:Ef (.vl ds) M Q=Q ds (fun M'=>v6 M' (.vl ds) ds) M:=propext ⟨fun zz=>by obtain⟨_,h,r⟩:=zz;rw[i5]at h;subst h;exact r,fun r=>⟨_,.inr (.inr rfl),r⟩⟩
theorem ny:Ap tr e M Q=tr e M fun xs M1=>Bc xs M1 Q:=rfl
theorem tI{ds:List D}:Bc [.tup ds] M Q=Q (W7 ds) (fun M'=>v6 M' (.tup ds) ds) M:=propext ⟨fun zz=>by obtain⟨_,_,h,h2,r⟩:=zz;cases h;rw[u8]at h2;subst h2;exact r,fun r=>⟨_,_,rfl,.inl rfl,r⟩⟩
theorem tH{ds:List D}:Bc [.vl ds] M Q=Q (W7 ds) (fun M'=>v6 M' (.vl ds) ds) M:=propext ⟨fun zz=>by obtain⟨_,_,h,h2,r⟩:=zz;cases h;rw[i5]at h2;subst h2;exact r,fun r=>⟨_,_,rfl,.inr (.inr rfl),r⟩⟩
theorem sU:Fx tr e M Q=tr e M fun xs M1=>AV xs M1 Q:=rfl
theorem tm{ds es:List D}:AV [.tup ds,.tup es] M Q=Q (S9 ds es) (fun M'=>v6 M' (.tup ds) ds∧v6 M' (.tup es) es) M:=propext ⟨fun zz=>by obtain⟨_,_,_,_,h,h2,h3,r⟩:=zz;cases h;rw[u8]at h2 h3;subst h2;subst h3;exact r,fun r=>⟨_,_,_,_,rfl,.inl rfl,.inl rfl,r⟩⟩
theorem sX{ds es:List D}:AV [.vl ds,.vl es] M Q=Q (S9 ds es) (fun M'=>v6 M' (.vl ds) ds∧v6 M' (.vl es) es) M:=propext ⟨fun zz=>by obtain⟨_,_,_,_,h,h2,h3,r⟩:=zz;cases h;rw[i5]at h2 h3;subst h2;subst h3;exact r,fun r=>⟨_,_,_,_,rfl,.inr (.inr rfl),.inr (.inr rfl),r⟩⟩
theorem sZ{ds es:List D}:AV [.tup ds,.vl es] M Q=Q (S9 ds es) (fun M'=>v6 M' (.tup ds) ds∧v6 M' (.vl es) es) M:=propext ⟨fun zz=>by obtain⟨_,_,_,_,h,h2,h3,r⟩:=zz;cases h;rw[u8]at h2;rw[i5]at h3;subst h2;subst h3;exact r,fun r=>⟨_,_,_,_,rfl,.inl rfl,.inr (.inr rfl),r⟩⟩
theorem sY{ds es:List D}:AV [.vl ds,.tup es] M Q=Q (S9 ds es) (fun M'=>v6 M' (.vl ds) ds∧v6 M' (.tup es) es) M:=propext ⟨fun zz=>by obtain⟨_,_,_,_,h,h2,h3,r⟩:=zz;cases h;rw[i5]at h2;rw[u8]at h3;subst h2;subst h3;exact r,fun r=>⟨_,_,_,_,rfl,.inr (.inr rfl),.inl rfl,r⟩⟩
theorem sW:Fz tr e M Q=tr e M fun xs M1=>Lz xs M1 Q:=rfl
theorem xr{j:Int}:Lz [.int j] M Q=((-(2 ^ 62)≤j∧j<2 ^ 62)∧Q (K2 0 j.toNat) (fun _=>True) M):=propext ⟨fun zz=>by obtain⟨_,h,a,b,r⟩:=zz;cases h;exact⟨⟨a,b⟩,r⟩,fun⟨⟨a,b⟩,r⟩=>⟨_,rfl,a,b,r⟩⟩
theorem nv:Ao tr e M Q=tr e M fun xs M1=>FY xs M1 Q:=rfl
theorem tu{i j:Int}:FY [.int i,.int j] M Q=((-(2 ^ 62)≤i∧i<2 ^ 62∧-(2 ^ 62)≤j∧j<2 ^ 62)∧Q (K2 i (j - i).toNat) (fun _=>True) M):=propext ⟨fun zz=>by obtain⟨_,_,h,a,r⟩:=zz;cases h;exact⟨a,r⟩,fun⟨a,r⟩=>⟨_,_,rfl,a,r⟩⟩
end
theorem EY{ti:DTI}{g:DTG}:Lj ti g t F e M=ti e M fun ds stay M1=>P4 g t F ds stay e M1:=rfl
theorem P4.by{g:DTG}{ds:List D}{stay:Mem→Prop}{M1:Mem}(W:Nat→Ev→Mem→Prop)(w0:W 0 e M1)(st:∀ i e M,i≤ds.length→W i e M→stay M)
  (turn:∀(i:Nat) (d:D) e M,ds[i]? = some d→W i e M→g d e M fun e2 M2=>t { F with nx:=W (i+1),ct:=W (i+1),bk:=F.nx } e2 M2) (done:∀ e M,W ds.length e M→F.nx e M):P4 g t F ds stay e M1:=⟨W,w0,st,turn,done⟩
theorem uY{F:bY}(W:Nat→Ev→Mem→Prop)(m:Nat)(w0:W m e M)(turn:∀ m e M,W m e M→tA e M fun b M1=>IfK b (t { F with nx:=fun e' M'=>∃ m',m'<m∧W m' e' M',ct:=fun e' M'=>∃ m',m'<m∧W m' e' M',bk:=F.nx } e M1) (F.nx e M1)):Au tA t F e M:=⟨W,⟨m,w0⟩,turn⟩
theorem IG{F:bY}(P:Ev→Mem→Prop)(h1:t { F with nx:=P } e M)(h2:∀ e' M',P e' M'→u F e' M'):FD t u F e M:=⟨P,h1,h2⟩
theorem Jr{g:DRM}:dLM g ta tr e M R=ta e M fun x M1=>LMK x M1 (tr e M1 fun xs M2=>g x xs M2 R):=rfl
theorem T5{x0:D}{r:List D}:gIx (.tup (x0 :: r)) (.int 0) M R=R x0 M:=Y8 (u0 (n:=0) rfl)
theorem xc{x0:D}{r:List D}:gIx (.vl (x0 :: r)) (.int 0) M R=R x0 M:=Y8 (u0 (n:=0) rfl)
theorem T0{x0 x1:D}{r:List D}:gIx (.tup (x0 :: x1 :: r)) (.int 1) M R=R x1 M:=Y8 (u0 (n:=1) rfl)
theorem wZ{x0 x1:D}{r:List D}:gIx (.vl (x0 :: x1 :: r)) (.int 1) M R=R x1 M:=Y8 (u0 (n:=1) rfl)
theorem jS{x0 x1 x2:D}{r:List D}:gIx (.tup (x0 :: x1 :: x2 :: r)) (.int 2) M R=R x2 M:=Y8 (u0 (n:=2) rfl)
theorem wY{x0 x1 x2:D}{r:List D}:gIx (.vl (x0 :: x1 :: x2 :: r)) (.int 2) M R=R x2 M:=Y8 (u0 (n:=2) rfl)
theorem xj{x0 x1 x2 x3:D}{r:List D}:gIx (.tup (x0 :: x1 :: x2 :: x3 :: r)) (.int 3) M R=R x3 M:=Y8 (u0 (n:=3) rfl)
theorem wX{x0 x1 x2 x3:D}{r:List D}:gIx (.vl (x0 :: x1 :: x2 :: x3 :: r)) (.int 3) M R=R x3 M:=Y8 (u0 (n:=3) rfl)
theorem xi{x0 x1 x2 x3 x4:D}{r:List D}:gIx (.tup (x0 :: x1 :: x2 :: x3 :: x4 :: r)) (.int 4) M R=R x4 M:=Y8 (u0 (n:=4) rfl)
theorem wW{x0 x1 x2 x3 x4:D}{r:List D}:gIx (.vl (x0 :: x1 :: x2 :: x3 :: x4 :: r)) (.int 4) M R=R x4 M:=Y8 (u0 (n:=4) rfl)
theorem xh{x0 x1 x2 x3 x4 x5:D}{r:List D}:gIx (.tup (x0 :: x1 :: x2 :: x3 :: x4 :: x5 :: r)) (.int 5) M R=R x5 M:=Y8 (u0 (n:=5) rfl)
theorem wV{x0 x1 x2 x3 x4 x5:D}{r:List D}:gIx (.vl (x0 :: x1 :: x2 :: x3 :: x4 :: x5 :: r)) (.int 5) M R=R x5 M:=Y8 (u0 (n:=5) rfl)
theorem xg{x0 x1 x2 x3 x4 x5 x6:D}{r:List D}:gIx (.tup (x0 :: x1 :: x2 :: x3 :: x4 :: x5 :: x6 :: r)) (.int 6) M R=R x6 M:=Y8 (u0 (n:=6) rfl)
theorem wU{x0 x1 x2 x3 x4 x5 x6:D}{r:List D}:gIx (.vl (x0 :: x1 :: x2 :: x3 :: x4 :: x5 :: x6 :: r)) (.int 6) M R=R x6 M:=Y8 (u0 (n:=6) rfl)
theorem xf{x0 x1 x2 x3 x4 x5 x6 x7:D}{r:List D}:gIx (.tup (x0 :: x1 :: x2 :: x3 :: x4 :: x5 :: x6 :: x7 :: r)) (.int 7) M R=R x7 M:=Y8 (u0 (n:=7) rfl)
theorem wR{x0 x1 x2 x3 x4 x5 x6 x7:D}{r:List D}:gIx (.vl (x0 :: x1 :: x2 :: x3 :: x4 :: x5 :: x6 :: x7 :: r)) (.int 7) M R=R x7 M:=Y8 (u0 (n:=7) rfl)
theorem Ez{A:Prop}:SzK (0) A=A:=C4 (by decide)
theorem Ey{A:Prop}:SzK (0+1) A=A:=C4 (by decide)
theorem Ex{A:Prop}:SzK (0+1+1) A=A:=C4 (by decide)
theorem Ew{A:Prop}:SzK (0+1+1+1) A=A:=C4 (by decide)
theorem Eu{A:Prop}:SzK (0+1+1+1+1) A=A:=C4 (by decide)
theorem Et{A:Prop}:SzK (0+1+1+1+1+1) A=A:=C4 (by decide)
theorem Es{A:Prop}:SzK (0+1+1+1+1+1+1) A=A:=C4 (by decide)
theorem Er{A:Prop}:SzK (0+1+1+1+1+1+1+1) A=A:=C4 (by decide)
theorem Ep{A:Prop}:SzK (0+1+1+1+1+1+1+1+1) A=A:=C4 (by decide)
theorem Eo{A:Prop}:SzK (0+1+1+1+1+1+1+1+1+1) A=A:=C4 (by decide)
theorem BS{i:Int}:cl 60 (.int i)=true:=rfl
theorem BM:cl 60 .non=true:=rfl
theorem BC{ds:List D}:cl 60 (.tup ds)=clL 59 ds:=rfl
theorem Bw{ds:List D}:cl 60 (.vl ds)=clL 59 ds:=rfl
theorem Bk:clL 59 []=true:=rfl
theorem Bq{d:D}{r:List D}:clL 59 (d :: r)=(cl 59 d && clL 59 r):=rfl
theorem BU{i:Int}:cl 59 (.int i)=true:=rfl
theorem BN:cl 59 .non=true:=rfl
theorem BD{ds:List D}:cl 59 (.tup ds)=clL 58 ds:=rfl
theorem Bx{ds:List D}:cl 59 (.vl ds)=clL 58 ds:=rfl
theorem Bl:clL 58 []=true:=rfl
theorem Br{d:D}{r:List D}:clL 58 (d :: r)=(cl 58 d && clL 58 r):=rfl
theorem BV{i:Int}:cl 58 (.int i)=true:=rfl
theorem BO:cl 58 .non=true:=rfl
theorem BE{ds:List D}:cl 58 (.tup ds)=clL 57 ds:=rfl
theorem By{ds:List D}:cl 58 (.vl ds)=clL 57 ds:=rfl
theorem Bm:clL 57 []=true:=rfl
theorem Bs{d:D}{r:List D}:clL 57 (d :: r)=(cl 57 d && clL 57 r):=rfl
theorem BW{i:Int}:cl 57 (.int i)=true:=rfl
theorem BP:cl 57 .non=true:=rfl
theorem BF{ds:List D}:cl 57 (.tup ds)=clL 56 ds:=rfl
theorem Bz{ds:List D}:cl 57 (.vl ds)=clL 56 ds:=rfl
theorem Bn:clL 56 []=true:=rfl
theorem Bt{d:D}{r:List D}:clL 56 (d :: r)=(cl 56 d && clL 56 r):=rfl
theorem BX{i:Int}:cl 56 (.int i)=true:=rfl
theorem BQ:cl 56 .non=true:=rfl
theorem BG{ds:List D}:cl 56 (.tup ds)=clL 55 ds:=rfl
theorem BA{ds:List D}:cl 56 (.vl ds)=clL 55 ds:=rfl
theorem Bo:clL 55 []=true:=rfl
theorem Bu{d:D}{r:List D}:clL 55 (d :: r)=(cl 55 d && clL 55 r):=rfl
theorem BY{i:Int}:cl 55 (.int i)=true:=rfl
theorem BR:cl 55 .non=true:=rfl
theorem BH{ds:List D}:cl 55 (.tup ds)=clL 54 ds:=rfl
theorem BB{ds:List D}:cl 55 (.vl ds)=clL 54 ds:=rfl
theorem Bp:clL 54 []=true:=rfl
theorem Bv{d:D}{r:List D}:clL 54 (d :: r)=(cl 54 d && clL 54 r):=rfl
theorem xy{xs:List D}:vY [.vl xs] M R=R (.int (xs.length:Int)) M:=tF rfl
theorem xA{xs:List D}:vY [.tup xs] M R=R (.int (xs.length:Int)) M:=tF rfl
theorem Gr{A:Prop}:SzK 1 A=A:=C4 (by decide)
theorem Gq{A:Prop}:SzK 2 A=A:=C4 (by decide)
theorem Gp{A:Prop}:SzK 3 A=A:=C4 (by decide)
theorem Gn{A:Prop}:SzK 4 A=A:=C4 (by decide)
theorem Gm{A:Prop}:SzK 5 A=A:=C4 (by decide)
theorem Gk{A:Prop}:SzK 6 A=A:=C4 (by decide)
theorem Gj{A:Prop}:SzK 7 A=A:=C4 (by decide)
theorem Gi{A:Prop}:SzK 8 A=A:=C4 (by decide)
theorem Gh{A:Prop}:SzK 9 A=A:=C4 (by decide)
theorem Bj{A:Prop}:SzK 10 A=A:=C4 (by decide)
theorem Bi{A:Prop}:SzK 11 A=A:=C4 (by decide)
theorem Bh{A:Prop}:SzK 12 A=A:=C4 (by decide)
theorem xI{bs:List Bool}:KQ [.vl (bs.map D.bl)] M R=R (.bl (bs.all id)) M:=propext ⟨fun zz=>by
 obtain⟨_,bs',e,h,r⟩:=zz
 cases e
 have e2:bs.map D.bl=bs'.map D.bl:=Option.some.inj h
 have e3:bs=bs':=(Qz (fun a b z=>by injection z)).mp e2
 subst e3;exact r,fun r=>⟨_,bs,rfl,rfl,r⟩⟩
theorem cW:B5 [.dic,.ty "tuple"] M R=R (.bl false) M:=t5 rfl rfl
theorem ft:B5 [.dic,.ty "list"] M R=R (.bl false) M:=t5 rfl rfl
theorem ja:B5 [.dic,.ty "int"] M R=R (.bl false) M:=t5 rfl rfl
theorem fu:B5 [.dic,.ty "bool"] M R=R (.bl false) M:=t5 rfl rfl
theorem iZ:B5 [.dic,.ty "str"] M R=R (.bl false) M:=t5 rfl rfl
theorem cS{ds:List D}:B5 [.tup ds,.ty "tuple"] M R=R (.bl true) M:=t5 rfl rfl
theorem ff{ds:List D}:B5 [.tup ds,.ty "list"] M R=R (.bl false) M:=t5 rfl rfl
theorem iS{ds:List D}:B5 [.tup ds,.ty "int"] M R=R (.bl false) M:=t5 rfl rfl
theorem fg{ds:List D}:B5 [.tup ds,.ty "bool"] M R=R (.bl false) M:=t5 rfl rfl
theorem iR{ds:List D}:B5 [.tup ds,.ty "str"] M R=R (.bl false) M:=t5 rfl rfl
theorem cR{ds:List D}:B5 [.vl ds,.ty "tuple"] M R=R (.bl false) M:=t5 rfl rfl
theorem fc{ds:List D}:B5 [.vl ds,.ty "list"] M R=R (.bl true) M:=t5 rfl rfl
theorem iQ{ds:List D}:B5 [.vl ds,.ty "int"] M R=R (.bl false) M:=t5 rfl rfl
theorem fe{ds:List D}:B5 [.vl ds,.ty "bool"] M R=R (.bl false) M:=t5 rfl rfl
theorem iP{ds:List D}:B5 [.vl ds,.ty "str"] M R=R (.bl false) M:=t5 rfl rfl
theorem cV{i:Int}:B5 [.int i,.ty "tuple"] M R=R (.bl false) M:=t5 rfl rfl
theorem fm{i:Int}:B5 [.int i,.ty "list"] M R=R (.bl false) M:=t5 rfl rfl
theorem iY{i:Int}:B5 [.int i,.ty "int"] M R=R (.bl true) M:=t5 rfl rfl
theorem fq{i:Int}:B5 [.int i,.ty "bool"] M R=R (.bl false) M:=t5 rfl rfl
theorem iX{i:Int}:B5 [.int i,.ty "str"] M R=R (.bl false) M:=t5 rfl rfl
theorem cU:B5 [.non,.ty "tuple"] M R=R (.bl false) M:=t5 rfl rfl
theorem fj:B5 [.non,.ty "list"] M R=R (.bl false) M:=t5 rfl rfl
theorem iW:B5 [.non,.ty "int"] M R=R (.bl false) M:=t5 rfl rfl
theorem fk:B5 [.non,.ty "bool"] M R=R (.bl false) M:=t5 rfl rfl
theorem iV:B5 [.non,.ty "str"] M R=R (.bl false) M:=t5 rfl rfl
theorem cT{x:Str}:B5 [.str x,.ty "tuple"] M R=R (.bl false) M:=t5 rfl rfl
theorem fh{x:Str}:B5 [.str x,.ty "list"] M R=R (.bl false) M:=t5 rfl rfl
theorem iU{x:Str}:B5 [.str x,.ty "int"] M R=R (.bl false) M:=t5 rfl rfl
theorem fi{x:Str}:B5 [.str x,.ty "bool"] M R=R (.bl false) M:=t5 rfl rfl
theorem iT{x:Str}:B5 [.str x,.ty "str"] M R=R (.bl true) M:=t5 rfl rfl
theorem cX{b:Bool}:B5 [.bl b,.ty "tuple"] M R=R (.bl false) M:=t5 rfl rfl
theorem fw{b:Bool}:B5 [.bl b,.ty "list"] M R=R (.bl false) M:=t5 rfl rfl
theorem jd{b:Bool}:B5 [.bl b,.ty "int"] M R=R (.bl true) M:=t5 rfl rfl
theorem fy{b:Bool}:B5 [.bl b,.ty "bool"] M R=R (.bl true) M:=t5 rfl rfl
theorem jb{b:Bool}:B5 [.bl b,.ty "str"] M R=R (.bl false) M:=t5 rfl rfl
theorem EZ:Lk ta e M R=ta e M fun x M1=>II x M1 R:=rfl
theorem mB{x:D}{ds:List D}{Q:List D→(Mem→Prop)→Mem→Prop}(h:v6 M x ds)(r:Q ds (fun M'=>v6 M' x ds) M):Ef x M Q:=⟨ds,h,r⟩
theorem cL{l:Addr}{ds:List D}{A:Prop}(h:M l=some (.lst ds))(a:A):LMK (.ref l) M A:=⟨⟨l,ds,rfl,h⟩,a⟩
theorem cM{l:Addr}{ds:List D}{v:D}(h:M l=some (.lst ds))(hz:ds.length<1000)(r:R .non (A8 M l (.lst (ds++[v])))):uF (.ref l) [v] M R:=⟨l,ds,v,rfl,rfl,h,Pt hz (by decide),r⟩
theorem uZ{p:Addr}{ds:List D}{j:Nat}{v:D}{Q:Mem→Prop}(h:M p=some (.lst ds))(hj:j<ds.length)(r:Q (A8 M p (.lst (ds.set j v)))):Ft (.ref p) (.int (j:Int)) v M Q:=⟨p,ds,j,j,rfl,rfl,h,by unfold ixN;rw[if_pos (by omega),if_pos (by omega)];rfl,r⟩
theorem mF{p:Addr}{ds:List D}(h:M p=none)(r:R (.vl ds) M):Ba (.ref p) (A8 M p (.lst ds)) R:=⟨p,ds,rfl,f8,by rw[N3 h];exact r⟩
theorem mH{x:D}{M1 M2:Mem}(h:∀ b o,M2 b=some o→M1 b=some o)(r:R x M2):II x M1 R:=⟨M2,h,r⟩
theorem xo{ns:List Int}:KH [.vl (ns.map D.int)] M R=R (.int ns.sum) M:=propext ⟨fun zz=>by
 obtain⟨_,ms,e,h,r⟩:=zz
 cases e
 have h:ns.map D.int=ms.map D.int:=Option.some.inj h
 have e2:ns=ms:=(Qz (fun a b z=>by injection z)).mp h
 rw[e2];exact r,fun r=>⟨_,ns,rfl,rfl,r⟩⟩
end
theorem aM{p:Str→Prop}:∀ x∈([]:List Str),p x:=fun _ h=>nomatch h
section
variable {e0:Ev} {g:DTG} {te:DTE} {tc:bX} {ds:List D} {stay:Mem→Prop} {M1:Mem} {E:List D→Mem→Prop}
theorem B1{α:Type}{xs:List α}{enc:α→D}(f:α→D)(hn:xs.length≤1000)(hst:stay M1)(step:∀ x∈xs,∀ Q:DK,Q (f x) M1→g (enc x) e0 M1 fun e2 M2=>te e2 M2 Q)(h:E (xs.map f) M1):∃ W,qe e0 g DN te (xs.map enc) stay M1 E W:=by
 refine⟨fun i ys M=>M=M1∧ys=(xs.take i).map f,⟨⟨rfl,rfl⟩,fun i ys M _ w=>by rw[w.1];exact hst,fun i d ys M hd w=>?_,fun ys M w=>?_⟩⟩
 ·obtain⟨rfl,rfl⟩:=w
  rw[PJ]at hd
  cases hx:xs[i]? with
  | none=>rw[hx]at hd;cases hd
  | some x =>
   rw[hx]at hd
   obtain rfl:enc x=d:=by simpa using hd
   refine step x (Px hx) _ ⟨?_,rfl,?_⟩
   ·rw[Pj,PX]
    exact PV (Pu (Sb _ _) hn) (by decide)
   ·obtain⟨hl,he⟩:=Pw.mp hx
    rw[QG hl,PQ,he];rfl
 ·obtain⟨rfl,rfl⟩:=w
  rw[Pj,Qp];exact h
theorem bU{α:Type}{xs:List α}{enc:α→D}(p:α→Bool)(f:α→D)(hn:xs.length≤1000)(hst:stay M1)
  (step:∀ x∈xs,∀(Q:DK) (N:Prop),(p x=true→Q (f x) M1)→(p x=false→N)→g (enc x) e0 M1 fun e2 M2=>tc e2 M2 fun b M3=>IfK b (te e2 M3 Q) (M3=M1∧N)) (h:E ((xs.filter p).map f) M1):∃ W,qe e0 g tc te (xs.map enc) stay M1 E W:=by
 refine⟨fun i ys M=>M=M1∧ys=((xs.take i).filter p).map f,⟨⟨rfl,rfl⟩,fun i ys M _ w=>by rw[w.1];exact hst,fun i d ys M hd w=>?_,fun ys M w=>?_⟩⟩
 ·obtain⟨rfl,rfl⟩:=w
  rw[PJ]at hd
  cases hx:xs[i]? with
  | none=>rw[hx]at hd;cases hd
  | some x =>
   rw[hx]at hd
   obtain rfl:enc x=d:=by simpa using hd
   obtain⟨hl,he⟩:=Pw.mp hx
   have hle:(((xs.take i).filter p).map f).length<sizeLine:=by
    rw[Pj]
    have h1:=QX p (xs.take i)
    rw[PX]at h1
    exact PV (Pu h1 (Pu (Sb _ _) hn)) (by decide)
   have hs:=step x (Px hx) (fun v M4=>(((xs.take i).filter p).map f).length<sizeLine∧M4=M∧((xs.take i).filter p).map f++[v]=((xs.take (i+1)).filter p).map f) (((xs.take i).filter p).map f=((xs.take (i+1)).filter p).map f)
    (fun hp=>⟨hle,rfl,by rw[QG hl,TQ,PQ,he];simp[hp]⟩)
    (fun hp=>by rw[QG hl,TQ,PQ,he];simp[hp])
   exact hs
 ·obtain⟨rfl,rfl⟩:=w
  rw[Pj,Qp];exact h
theorem rE{α:Type}(enc:α→D)(ok:α→Prop)(St:Mem→Mem→Prop)(n:Nat)(hl:ds.length=n)(hn:n≤1000)(hst:∀ M,St M1 M→stay M)(s0:St M1 M1)
  (step:∀ d∈ds,∀ M,St M1 M→∀ Q:DK,(∀ x M',ok x→St M1 M'→Q (enc x) M')→g d e0 M fun e2 M2=>te e2 M2 Q) (h:∀(xs:List α) M,xs.length=n→(∀ x∈xs,ok x)→St M1 M→E (xs.map enc) M):∃ W,qe e0 g DN te ds stay M1 E W:=by
 refine⟨fun i ys M=>St M1 M∧∃ xs:List α,xs.length=i∧(∀ x∈xs,ok x)∧ys=xs.map enc,⟨⟨s0,[],rfl,(fun _ z=>nomatch z),rfl⟩,fun i ys M _ w=>hst M w.1,fun i d ys M hd w=>?_,fun ys M w=>?_⟩⟩
 ·obtain⟨sM,xs,hl,hok,rfl⟩:=w
  have hi:i<ds.length:=(Pw.mp hd).1
  refine step d (Px hd) M sM _ fun x M' hx sM'=>⟨?_,sM',xs++[x],by simp[hl],fun z hz=>?_,by simp⟩
  ·rw[Pj,hl];exact Pt (Pt hi (by omega)) (show 1000≤sizeLine by decide)
  ·rcases PL.mp hz with z1|z1
   ·exact hok z z1
   ·rw[PY.mp z1];exact hx
 ·obtain⟨sM,xs,hl,hok,rfl⟩:=w
  exact h xs M (by omega) hok sM
end
section
variable {X:Cx} {pos:Pos}
theorem jc{x:Str}{j k:Nat}{ps:List Str}{sp:DSp}{p:Pos}{e:Expr}{es:List Expr}{t:DTA}(G:Fn X.prog X.w X.K X.mg X.base x j ps sp)(hr:K1 k X.A)(ha:JA X (e :: es) t)(hk:j≤k:=by decide)(hg:Gl X x:=by rfl)
  (hdb:(x == ("__debug__" : Str))=false:=by decide) (he:starEach (e :: es) X.env=(false,eval e X.env) :: starEach es X.env:=by rfl) (hpl:(backTo pos (starEach es X.env)).any (·.1)=false:=by rfl):JE X (.Call (.Name x p) (e :: es) [] pos) (uQ sp [] Y0 t):=zS G (hr.mono hk) hg ha hdb he hpl
theorem jx{a b:Expr}{ta tb:DTE}(ha:JE X a ta)(hb:JE X b tb)(hs:mC b:=by exact fun _ _=>rfl):JE X (.Subscript a b pos) (dOp gIx ta tb):=Kv KA ha hb hs
theorem jst(i:Nat){x:Str}{e:Expr}{tx:DTE}{q:Pos}(hN:X.N.Nodup)(he:JE X e tx)(hi:X.N[i]? = some x:=by rfl)(hx:Loc X.env.scope x:=by first|exact .inl rfl|exact .inr rfl)(hs:swapsWith e (some (.Name x q)) pos.line X.env=pure false:=by rfl)
  (hf:X.fn x=true∨X.env.scope.names.lookup x=some .local:=by first|exact .inl rfl|exact .inr rfl|assumption):JS X (.Assign [.Name x q] e pos) (Ax tx (cE i)):=Dz hN hi hx he hs hf
theorem jn(i:Nat){x:Str}(hN:X.N.Nodup)(hi:X.N[i]? = some x:=by rfl)(hx:Loc X.env.scope x:=by first|exact .inl rfl|exact .inr rfl)(hf:X.fn x=true∨X.env.scope.names.lookup x=some .local:=by first|exact .inl rfl|exact .inr rfl|assumption):JG X (.Name x pos) (cE i):=zP hN hi hx hf
theorem jm{op:CmpOp}{g:DR2}{a b:Expr}{ta tb:DTE}(ho:DOp X (compareOp op) g)(ha:JE X a ta)(hb:JE X b tb)(hm:behindInMarks op b=false:=by first|exact zt _|with_unfolding_all rfl):JE X (.Compare a [op] [b] pos) (dOp g ta tb):=HQ ho ha hb hm
theorem jtm{op:CmpOp}{g:DR2}{a b:Expr}{ta tb:DTE}(ho:DOp X (compareOp op) g)(ha:JE X a ta)(hb:JE X b tb)(hm:behindInMarks op b=false:=by first|exact zt _|with_unfolding_all rfl):JT X (.Compare a [op] [b] pos) (uO (dOp g ta tb)):=DB ho ha hb hm
end
end DL
namespace GM
open PySem PySem.Spec L2 DL
open PyProof.Rows hiding St
noncomputable def d8(q:Rat):D:=.tup [.int q.num,.int (q.den:Int)]
theorem V9{q r:Rat}(h:d8 q=d8 r):q=r:=by
 unfold d8 at h
 injection h with h
 injection h with h1 h2
 injection h1 with h1
 injection h2 with h2 _
 injection h2 with h2
 exact Rat.ext h1 (by omega)
theorem g8{q r:Rat}:d8 q=d8 r↔q=r:=⟨V9,fun h=>by rw[h]⟩
structure E2(M:Mem)(p:Addr):Prop where
 ex:∃ x y z:Int,M p=some (.lst [.int x,.int y,.int z])
def MK(M M':Mem):Prop:=∀ b o,M b=some o→M' b=some o
theorem MK.refl(M:Mem):MK M M:=fun _ _ h=>h
theorem MK.trans{M M1 M2:Mem}(a:MK M M1)(b:MK M1 M2):MK M M2:=fun c o h=>b c o (a c o h)
theorem MK.new{M:Mem}{p:Addr}{o:MO}(h:M p=none):MK M (A8 M p o):=fun b u e=>by
 have:b≠p:=by intro z;subst z;rw[h]at e;cases e
 rw[J3 this];exact e
theorem MK.pool{M M':Mem}(k:MK M M'){p:Addr}(h:E2 M p):E2 M' p:=let ⟨x,y,z,e⟩:=h.ex;⟨x,y,z,k _ _ e⟩
structure K7(p:Addr)(M M':Mem):Prop where
 keep:∀ b o,b≠p→M b=some o→M' b=some o
 pool:E2 M' p
theorem K7.refl{p:Addr}{M:Mem}(h:E2 M p):K7 p M M:=⟨fun _ _ _ h=>h,h⟩
theorem K7.trans{p:Addr}{M M1 M2:Mem}(a:K7 p M M1)(b:K7 p M1 M2):K7 p M M2:=⟨fun c o n h=>b.keep c o n (a.keep c o n h),b.pool⟩
theorem K7.upd{p:Addr}{M:Mem}(x y z:Int):K7 p M (A8 M p (.lst [.int x,.int y,.int z])):=⟨fun b o n h=>by rw[J3 n];exact h,⟨x,y,z,f8⟩⟩
theorem E2.ne{M:Mem}{p l:Addr}(h:E2 M p)(hl:M l=none):l≠p:=by
 intro e;subst e;obtain⟨x,y,z,q⟩:=h.ex;rw[hl]at q;cases q
def qt:DSp:=fun ds M R _=>∃ c:Int,ds=[.int c]∧∀ p M',M p=none→MK M M'→E2 M' p→R (.ref p) M'
def fJ:DSp:=fun ds M R _=>∃(p:Addr) (b:Int),ds=[.ref p,.int b]∧E2 M p∧0<b∧b.natAbs.log2<9000∧∀(r:Int) M',0≤r→r<b→K7 p M M'→R (.int r) M'
theorem Ln:IL 10 18:=⟨by decide,by decide,by decide⟩
theorem HD{a b:Int}(h1:-(2 ^ 64)<a)(h2:a<2 ^ 64):IntMulOk a b:=.of_left (intBits_le_64 h1 h2)
theorem Mg{x m k b:Int}(hm:0<m)(hm2:m<2 ^ 60)(hk:0≤k)(hk2:k<2 ^ 60):IntMulOk (x % m+k) b:=by
 have h1:=Sq x (show m≠0 by omega)
 have h2:=RJ x hm
 exact HD (by omega) (by omega)
theorem Kp{x m b:Int}(hm:0<m)(hm2:m<2 ^ 60):IntMulOk (x % m) b:=by
 have h1:=Sq x (show m≠0 by omega)
 have h2:=RJ x hm
 exact HD (by omega) (by omega)
theorem Mt{i:Int}:CFd i 8:=⟨by decide,by decide⟩
theorem Y4{a b:Int}(ha:0≤a)(hb:0≤b):a.fdiv b=a / b:=Int.fdiv_eq_ediv_of_nonneg a hb
theorem zY{a b:Int}(hb:b≠0):((QD a.natAbs b.natAbs:Nat):Int)≠0:=by
 have hp:0<b.natAbs:=Int.natAbs_pos.mpr hb
 have:=Rc a.natAbs hp
 omega
theorem eM{a b s:Int}(hb:b≠0)(hs:s=if b<0 then -((QD a.natAbs b.natAbs:Nat):Int)else((QD a.natAbs b.natAbs:Nat):Int)){M:Mem}{R:DK}(k:R (d8 (Qu a b)) M) :
  R (.tup [.int (a.fdiv s),.int (b.fdiv s)]) M:=by
 obtain⟨h1,h2⟩:=RM.HH a b hb s hs
 rw[h1,h2];exact k
theorem aC{a b:Int}{n:Nat}(hn:0<n)(h1:a.natAbs<2 ^ n)(h2:b.natAbs<2 ^ n)(hb:b≠0):RM.sz (Qu a b)≤n :=
 Pu (RM.P6 a b hb) (SG.mpr ⟨RM.gR h1 hn,RM.gR h2 hn⟩)
def tO:DSp:=fun ds M R _=>∃ n:Int,ds=[.int n]∧R (.bl true) M
end GM
namespace GM
open PySem PySem.Spec L2 DL
def tP:DSp:=fun ds _ R _=>∃ ns:List Int,ds=[.vl (ns.map D.int)]∧ns.length≤63∧∀ M',R (.bl true) M'
end GM
namespace GM
open PySem PySem.Spec L2 DL
open RM (sz)
def L5:DSp:=fun ds M R _=>∃ a b:Nat,ds=[.int (a:Int),.int (b:Int)]∧R (.int ((QD a b:Nat):Int)) M
def cY:DSp:=fun ds M R _=>∃ q:Rat,ds=[d8 q]∧R (d8 (-q)) M
def aa:DSp:=fun ds M R _=>∃ q r:Rat,ds=[d8 q,d8 r]∧sz q+sz r≤8900∧R (d8 (q+r)) M
def aS:DSp:=fun ds M R _=>∃ q r:Rat,ds=[d8 q,d8 r]∧sz q+sz r≤8900∧R (d8 (q - r)) M
def jX:DSp:=fun ds M R _=>∃ q r:Rat,ds=[d8 q,d8 r]∧r≠0∧sz q+sz r≤8900∧R (d8 (q / r)) M
def fK:DSp:=fun ds M R _=>∃ q r:Rat,ds=[d8 q,d8 r]∧sz q+sz r≤8900∧R (.bl (decide (q<r))) M
theorem D2(q:Rat):q.num.natAbs<2 ^ sz q:=Pt (RM.bI _) (Qj (by decide) (RM.T7 q))
theorem y8(q:Rat):((q.den:Int)).natAbs<2 ^ sz q:=by rw[Pr];exact Pt (RM.bI _) (Qj (by decide) (RM.O3 q))
theorem mND{q r:Rat}(h:sz q+sz r≤8900):IntMulOk q.num (r.den:Int):=r9 _ _ (D2 q) (y8 r) (by omega)
theorem mDD{q r:Rat}(h:sz q+sz r≤8900):IntMulOk (q.den:Int) (r.den:Int):=r9 _ _ (y8 q) (y8 r) (by omega)
theorem mDN{q r:Rat}(h:sz q+sz r≤8900):IntMulOk (q.den:Int) r.num:=r9 _ _ (y8 q) (D2 r) (by omega)
theorem HB{r:Rat}(h:r≠0):r.num≠0:=fun z=>h (Ut.mp z)
noncomputable def j9(q:Rat):Rat:=if 0≤q then q else -q
theorem Ec(q:Rat):0≤j9 q:=by
 unfold j9;split
 ·assumption
 ·grind
theorem IA(q:Rat):d8 (j9 q) = .tup [.int (q.num.natAbs:Int),.int (q.den:Int)]:=by
 unfold j9 d8
 have hz:0≤q↔0≤q.num:=SE.symm
 split
 ·rename_i h
  have:=hz.mp h
  rw[show q.num=(q.num.natAbs:Int)by omega];simp
 ·rename_i h
  have h':¬ 0≤q.num:=fun z=>h (hz.mpr z)
  rw[SM,Tx,show -q.num=(q.num.natAbs:Int)by omega]
theorem de(t:Rat):t.num<0↔t<0:=by
 have:=SE (q:=t)
 constructor
 ·intro h;have:¬ 0≤t:=fun z=>by have:=SE.mpr z;omega
  grind
 ·intro h;have h':¬ 0≤t.num:=fun z=>by have:=SE.mp z;grind
  omega
end GM
namespace GM
open RM (sz)
theorem jJ{a:Rat}{A:Int}{D S:Nat}(hS:0<S)(hD:D≠0)(hd:D<2 ^ S)(h:a*(D:Rat)=(A:Rat))(hA:A.natAbs<2 ^ S):sz a≤S:=by
 have hD':(D:Rat)≠0:=by
  intro z;exact hD (by exact_mod_cast z)
 have e:a=Qu A (D:Int):=by
  rw[RR]
  have:a=(A:Rat) / (D:Rat):=by grind
  rw[this];rfl
 rw[e]
 exact Pu (RM.P6 A D (by omega)) (SG.mpr ⟨RM.gR hA hS,RM.gR (by rw[Pr];exact hd) hS⟩)
structure CD(S:Nat)(a b c d:Rat):Prop where
 ex:∃(A B C E:Int) (D:Nat),D≠0∧D<2 ^ S∧(A.natAbs<2 ^ S∧B.natAbs<2 ^ S∧C.natAbs<2 ^ S∧E.natAbs<2 ^ S)∧a*(D:Rat)=(A:Rat)∧b*(D:Rat)=(B:Rat)∧c*(D:Rat)=(C:Rat)∧d*(D:Rat)=(E:Rat)
theorem E6(q:Rat){k:Nat}(h:sz q≤k):q.num.natAbs<2 ^ k:=Pt (RM.bI _) (Qj (by decide) (Pu (RM.T7 q) h))
theorem o8(q:Rat){k:Nat}(h:sz q≤k):q.den<2 ^ k:=Pt (RM.bI _) (Qj (by decide) (Pu (RM.O3 q) h))
theorem D6(q:Rat):q*(q.den:Rat)=(q.num:Rat):=by
 have h:(q.den:Rat)≠0:=by
  intro z;exact q.den_nz (by exact_mod_cast z)
 have e:=Sy q
 rw[RR,Qa]at e
 grind
theorem F0{a b m n:Nat}(h1:a<2 ^ m)(h2:b<2 ^ n):a*b<2 ^ (m+n):=by
 rw[QZ];exact QW h1 h2
theorem g7{a b:Int}{m n:Nat}(h1:a.natAbs<2 ^ m)(h2:b.natAbs<2 ^ n):(a*b).natAbs<2 ^ (m+n):=by
 rw[Qn];exact F0 h1 h2
theorem aF{a b:Int}{m:Nat}(h1:a.natAbs<2 ^ m)(h2:b.natAbs<2 ^ m):(a+b).natAbs<2 ^ (m+1):=by
 have:=Ub a b
 rw[RX];omega
theorem E4{a m n:Nat}(h:a<2 ^ m)(hn:m≤n):a<2 ^ n:=Pt h (Qj (by decide) hn)
theorem CD.one:CD 1 1 0 0 1:=⟨1,0,0,1,1,by decide,by decide,⟨by decide,by decide,by decide,by decide⟩,by grind,by grind,by grind,by grind⟩
theorem CD.neg{S:Nat}{a b c d:Rat}(h:CD S a b c d):CD S (-a) (-b) (-c) (-d):=by
 obtain⟨A,B,C,E,D,h0,hd,⟨h1,h2,h3,h4⟩,e1,e2,e3,e4⟩:=h.ex
 refine⟨-A,-B,-C,-E,D,h0,hd,⟨by rw[Qr];exact h1,by rw[Qr];exact h2,by rw[Qr];exact h3,by rw[Qr];exact h4⟩,?_,?_,?_,?_⟩<;>(rw[RK];grind)
theorem CD.swap{S:Nat}{a b c d:Rat}(h:CD S a b c d):CD S c d a b:=by
 obtain⟨A,B,C,E,D,h0,hd,⟨h1,h2,h3,h4⟩,e1,e2,e3,e4⟩:=h.ex
 exact⟨C,E,A,B,D,h0,hd,⟨h3,h4,h1,h2⟩,e3,e4,e1,e2⟩
theorem CD.step{S k:Nat}{a b c d q:Rat}(h:CD S a b c d)(hq:sz q≤k):CD (S+k+1) (a+q*c) (b+q*d) c d:=by
 obtain⟨A,B,C,E,D,h0,hd,⟨h1,h2,h3,h4⟩,e1,e2,e3,e4⟩:=h.ex
 have hn:=E6 q hq
 have hm:=o8 q hq
 have hm':(q.den:Int).natAbs<2 ^ k:=by rw[Pr];exact hm
 have e:=D6 q
 have z:∀{X:Int},X.natAbs<2 ^ S→(X*(q.den:Int)).natAbs<2 ^ (S+k):=fun h=>g7 h hm'
 have z2:∀{X:Int},X.natAbs<2 ^ S→(X*q.num).natAbs<2 ^ (S+k):=fun h=>g7 h hn
 refine⟨A*(q.den:Int)+C*q.num,B*(q.den:Int)+E*q.num,C*(q.den:Int),E*(q.den:Int),D*q.den,RL h0 q.den_nz,E4 (F0 hd hm) (by omega),
  ⟨aF (z h1) (z2 h3),aF (z h2) (z2 h4),E4 (z h3) (by omega),E4 (z h4) (by omega)⟩,?_,?_,?_,?_⟩
 all_goals (simp only[QE,RN,PF,Qa];grind)
theorem CD.scale{S k:Nat}{a b c d q r:Rat}(h:CD S a b c d)(hq:sz q≤k)(hp:0<q.num)(hr:r*q=1):CD (S+2*k) (q*a) (q*b) (r*c) (r*d):=by
 obtain⟨A,B,C,E,D,h0,hd,⟨h1,h2,h3,h4⟩,e1,e2,e3,e4⟩:=h.ex
 have hn:=E6 q hq
 have hm:=o8 q hq
 have hm':(q.den:Int).natAbs<2 ^ k:=by rw[Pr];exact hm
 have e:=D6 q
 obtain⟨n,en⟩:∃ n:Nat,q.num=(n:Int):=⟨q.num.toNat,by omega⟩
 rw[en]at hn e hp
 rw[Pr]at hn
 rw[Qa]at e
 have hn':(n:Int).natAbs<2 ^ k:=by rw[Pr];exact hn
 refine⟨A*((n:Int)*n),B*((n:Int)*n),C*((q.den:Int)*q.den),E*((q.den:Int)*q.den),D*(n*q.den),RL h0 (RL (by omega) q.den_nz),?_,⟨?_,?_,?_,?_⟩,?_,?_,?_,?_⟩
 ·rw[show S+2*k=S+(k+k)by omega];exact F0 hd (F0 hn hm)
 ·rw[show S+2*k=S+(k+k)by omega];exact g7 h1 (g7 hn' hn')
 ·rw[show S+2*k=S+(k+k)by omega];exact g7 h2 (g7 hn' hn')
 ·rw[show S+2*k=S+(k+k)by omega];exact g7 h3 (g7 hm' hm')
 ·rw[show S+2*k=S+(k+k)by omega];exact g7 h4 (g7 hm' hm')
 all_goals (simp only[QE,PF,Qa];grind)
end GM
namespace GM
open PySem PySem.Spec L2 DL
open RM (sz)
noncomputable abbrev gY(a b c d:Rat):D:=.tup [d8 a,d8 b,d8 c,d8 d]
noncomputable abbrev D5(y u:Rat):D:=.tup [d8 y,d8 u]
structure T4(S:Nat)(a b c d:Rat):Prop where
 a:sz a≤S
 b:sz b≤S
 c:sz c≤S
 d:sz d≤S
structure T2(S:Nat)(y u:Rat):Prop where
 y:sz y≤S
 u:sz u≤S
theorem CD.t4{S:Nat}{a b c d:Rat}(h:CD S a b c d)(hS:0<S:=by omega):T4 S a b c d:=by
 obtain⟨A,B,C,E,D,h0,hd,⟨h1,h2,h3,h4⟩,e1,e2,e3,e4⟩:=h.ex
 exact⟨jJ hS h0 hd e1 h1,jJ hS h0 hd e2 h2,jJ hS h0 hd e3 h3,jJ hS h0 hd e4 h4⟩
def cf:DSp:=fun ds M R _=>∃ a b c d:Rat,ds=[D5 a c,D5 b d]∧R (gY a b c d) M
theorem CD.mono{S S':Nat}{a b c d:Rat}(h:CD S a b c d)(hs:S≤S'):CD S' a b c d:=by
 obtain⟨A,B,C,E,D,h0,hd,⟨h1,h2,h3,h4⟩,e1,e2,e3,e4⟩:=h.ex
 exact⟨A,B,C,E,D,h0,E4 hd hs,⟨E4 h1 hs,E4 h2 hs,E4 h3 hs,E4 h4 hs⟩,e1,e2,e3,e4⟩
theorem R0(q:Rat):sz (j9 q)=sz q:=by
 unfold j9;split
 ·rfl
 ·exact RM.F7 q
theorem Eb{q:Rat}(h:q≠0):0<j9 q:=by
 unfold j9;split
 ·grind
 ·grind
noncomputable def m8(x:Str × Rat):D:=.tup [.str x.1,d8 x.2]
structure B6(x:Str × Rat):Prop where
 kind:(x.1 = "gap" ∧ 0≤x.2)∨x.1 = "glass" ∨ (x.1 = "stop" ∧ 0<x.2)
 sz:RM.sz x.2≤41
noncomputable def Q3(x:Str × Rat)(y u:Rat):Rat × Rat:=if x.1 = "gap" then(y+x.2*u,u)else if x.1 = "glass" then(y,u - x.2*y)else(y,u)
noncomputable def j7(bs:List (Str × Rat))(r:Rat × Rat):Rat × Rat:=bs.foldl (fun r x=>Q3 x r.1 r.2) r
noncomputable def LJ(bs:List (Str × Rat)):D:=gY (j7 bs (1,0)).1 (j7 bs (0,1)).1 (j7 bs (1,0)).2 (j7 bs (0,1)).2
theorem CD.led{S:Nat}{x:Str × Rat}{y u:Rat}(h:CD S y 0 u 0)(hx:sz x.2≤41):CD (S+42) (Q3 x y u).1 0 (Q3 x y u).2 0:=by
 unfold Q3
 split
 ·have:=h.step hx
  rw[show(0:Rat)+x.2*0=0 by grind]at this
  exact this
 ·split
  ·have:=(h.swap.step (q:=-x.2) (k:=41) (by rw[RM.F7];exact hx)).swap
   rw[show(0:Rat) + -x.2*0=0 by grind,show u + -x.2*y=u - x.2*y by grind]at this
   exact this
  ·exact h.mono (by omega)
theorem CD.t2{S:Nat}{y u:Rat}(h:CD S y 0 u 0)(hS:0<S:=by omega):T2 S y u:=⟨h.t4.a,h.t4.c⟩
theorem CD.ray{y u:Rat}{k:Nat}(h1:sz y≤k)(h2:sz u≤k):CD (2*k) y 0 u 0:=by
 have n1:=E6 y h1
 have d1:=o8 y h1
 have n2:=E6 u h2
 have d2:=o8 u h2
 have d1':(y.den:Int).natAbs<2 ^ k:=by rw[Pr];exact d1
 have d2':(u.den:Int).natAbs<2 ^ k:=by rw[Pr];exact d2
 have e1:=D6 y
 have e2:=D6 u
 refine⟨y.num*(u.den:Int),0,u.num*(y.den:Int),0,y.den*u.den,RL y.den_nz u.den_nz,?_,⟨?_,?_,?_,?_⟩,?_,?_,?_,?_⟩
 ·rw[show 2*k=k+k by omega];exact F0 d1 d2
 ·rw[show 2*k=k+k by omega];exact g7 n1 d2'
 ·exact Uw _
 ·rw[show 2*k=k+k by omega];exact g7 n2 d1'
 ·exact Uw _
 all_goals (simp only[QE,PF,Qa,Rat.intCast_zero];grind)
theorem bC{bs:List (Str × Rat)}{i:Nat}{x:Str × Rat}(h:bs[i]? = some x)(r:Rat × Rat):j7 (bs.take (i+1)) r=Q3 x (j7 (bs.take i) r).1 (j7 (bs.take i) r).2:=by
 obtain⟨hl,he⟩:=Pw.mp h
 unfold j7
 rw[QG hl,QC,he]
 rfl
theorem Ht{bs:List (Str × Rat)}{y u:Rat}{S:Nat}(h:CD S y 0 u 0)(hb:∀ x∈bs,B6 x):CD (S+42*bs.length) (j7 bs (y,u)).1 0 (j7 bs (y,u)).2 0:=by
 induction bs generalizing y u S with
 | nil=>exact h
 | cons x r ih =>
  have h1:=h.led (hb x Po).sz
  have h2:=ih (y:=(Q3 x y u).1) (u:=(Q3 x y u).2) h1 fun z hz=>hb z (Pk _ hz)
  exact h2.mono (by simp only[Pp];omega)
theorem jo{bs:List (Str × Rat)}{i:Nat}{d:D}(h:(bs.map m8)[i]? = some d):∃ x,bs[i]? = some x∧d=m8 x:=by
 rw[PJ]at h
 cases e:bs[i]? with
 | none=>rw[e]at h;cases h
 | some x=>rw[e]at h;exact⟨x,rfl,(Option.some.inj h).symm⟩
def nK:DSp:=fun ds M R _=>∃ q:Rat,ds=[d8 q]∧R (d8 (j9 q)) M
theorem jq{x y:Str × Rat}(h:m8 x=m8 y):x=y:=by
 unfold m8 at h
 injection h with h
 injection h with h1 h2
 injection h1 with h1
 injection h2 with h2 _
 exact Prod.ext h1 (V9 h2)
theorem h9{x y:Str × Rat}:m8 x=m8 y↔x=y:=⟨jq,fun h=>by rw[h]⟩
theorem f9{xs ys:List (Str × Rat)}:xs.map m8=ys.map m8↔xs=ys:=Qz (fun _ _ h=>jq h)
noncomputable def h7(l:Rat × Rat × Rat):D:=.tup [d8 l.1,d8 l.2.1,d8 l.2.2]
theorem jv{x y:Rat × Rat × Rat}(h:h7 x=h7 y):x=y:=by
 unfold h7 at h
 injection h with h
 injection h with h1 h2
 injection h2 with h2 h3
 injection h3 with h3 _
 exact Prod.ext (V9 h1) (Prod.ext (V9 h2) (V9 h3))
theorem i3{x y:Rat × Rat × Rat}:h7 x=h7 y↔x=y:=⟨jv,fun h=>by rw[h]⟩
theorem g5{xs ys:List (Rat × Rat × Rat)}:xs.map h7=ys.map h7↔xs=ys:=Qz (fun _ _ h=>jv h)
theorem GU{p q r:Rat}:D.tup [d8 p,d8 q,d8 r]=h7 (p,q,r):=rfl
theorem sN{gs:X1}{l:Rat × Rat × Rat}{e:Ev}{M:Mem}{Q:Ev→Mem→Prop}:pF 3 gs (h7 l) e M Q=gs [d8 l.1,d8 l.2.1,d8 l.2.2] e M Q:=fD rfl
theorem sQ{l:Rat × Rat × Rat}{M:Mem}{R:DK}:gIx (h7 l) (.int 0) M R=R (d8 l.1) M:=T5
theorem sP{l:Rat × Rat × Rat}{M:Mem}{R:DK}:gIx (h7 l) (.int 1) M R=R (d8 l.2.1) M:=T0
theorem sO{l:Rat × Rat × Rat}{M:Mem}{R:DK}:gIx (h7 l) (.int 2) M R=R (d8 l.2.2) M:=jS
theorem wQ{q:Rat}{M:Mem}{R:DK}:gIx (d8 q) (.int 0) M R=R (.int q.num) M:=T5
theorem wO{q:Rat}{M:Mem}{R:DK}:gIx (d8 q) (.int 1) M R=R (.int (q.den:Int)) M:=T0
theorem wN{gs:X1}{q:Rat}{e:Ev}{M:Mem}{Q:Ev→Mem→Prop}:pF 2 gs (d8 q) e M Q=gs [.int q.num,.int (q.den:Int)] e M Q:=fD rfl
theorem wM{q:Rat}{M:Mem}{R:DK}:vY [d8 q] M R=R (.int 2) M:=tF rfl
theorem sL{x:Str × Rat}{M:Mem}{R:DK}:gIx (m8 x) (.int 0) M R=R (.str x.1) M:=T5
theorem sJ{x:Str × Rat}{M:Mem}{R:DK}:gIx (m8 x) (.int 1) M R=R (d8 x.2) M:=T0
theorem sI{gs:X1}{x:Str × Rat}{e:Ev}{M:Mem}{Q:Ev→Mem→Prop}:pF 2 gs (m8 x) e M Q=gs [.str x.1,d8 x.2] e M Q:=fD rfl
theorem nj{q:Rat}{M:Mem}{R:DK}:B5 [d8 q,.ty "tuple"] M R=R (.bl true) M:=t5 rfl rfl
theorem iN{x:Str × Rat}{M:Mem}{R:DK}:B5 [m8 x,.ty "tuple"] M R=R (.bl true) M:=t5 rfl rfl
theorem sH{x:Str × Rat}{M:Mem}{R:DK}:vY [m8 x] M R=R (.int 2) M:=tF rfl
theorem BI{q:Rat}:cl 60 (d8 q)=true:=rfl
theorem BJ{q:Rat}:cl 59 (d8 q)=true:=rfl
theorem BK{q:Rat}:cl 58 (d8 q)=true:=rfl
theorem BL{q:Rat}:cl 57 (d8 q)=true:=rfl
theorem r0:D.tup [.int 0,.int 1]=d8 0:=rfl
theorem r1:D.tup [.int 1,.int 1]=d8 1:=rfl
theorem r2:D.tup [.int 2,.int 1]=d8 2:=rfl
theorem r4:D.tup [.int 4,.int 1]=d8 4:=rfl
theorem JR{q:Rat}:D.tup [.int (q.num.natAbs:Int),.int (q.den:Int)]=d8 (j9 q):=(IA q).symm
theorem Fl{q:Rat}:D.tup [.int (-q.num),.int (q.den:Int)]=d8 (-q):=by unfold d8;rw[SM,Tx]
theorem GS{q:Rat}:D.tup [.int q.num,.int (q.den:Int)]=d8 q:=rfl
theorem rm2:D.tup [.int (-2),.int 1]=d8 (-2):=rfl
theorem rm1:D.tup [.int (-1),.int 1]=d8 (-1):=rfl
end GM
local macro_rules|`(tactic| walk_at "inj")=>`(tactic| (rename_i e h;simp only[List.cons.injEq,and_true,true_and,GM.g8,GM.h9,GM.f9,GM.i3,GM.g5,DL.D.tup.injEq,DL.D.ref.injEq,DL.D.int.injEq,DL.D.str.injEq,DL.D.bl.injEq,DL.D.vl.injEq,PM,and_assoc]at e;(repeat(obtain⟨e1,e⟩:=e;subst e1));subst e;exact h))
local macro_rules|`(tactic| walk_at "injs")=>`(tactic| (rename_i e o h;rcases o with o|o<;>(subst o;first|(exfalso;simp only[DL.D.tup.injEq,List.cons.injEq,reduceCtorEq,false_and,and_false]at e;done)|(simp only[List.cons.injEq,and_true,true_and,GM.g8,GM.h9,GM.f9,GM.i3,GM.g5,DL.D.tup.injEq,DL.D.ref.injEq,DL.D.int.injEq,DL.D.str.injEq,DL.D.bl.injEq,DL.D.vl.injEq,PM,and_assoc]at e;(repeat(obtain⟨e1,e⟩:=e;subst e1));subst e;exact h))))
namespace GM
open PySem PySem.Spec L2 DL
open RM (sz)
theorem cO{a b:Nat}{M:Mem}{R:DK}{Y:DXK}:L5 [.int (a:Int),.int (b:Int)] M R Y=(R (.int ((QD a b:Nat):Int)) M):=propext ⟨fun z=>by obtain⟨_,_,_,_⟩:=z;walk_at "inj",fun h=>⟨a,b,rfl,h⟩⟩
theorem rS{q:Rat}{M:Mem}{R:DK}{Y:DXK}:cY [d8 q] M R Y=(R (d8 (-q)) M):=propext ⟨fun z=>by obtain⟨_,_,_⟩:=z;walk_at "inj",fun h=>⟨q,rfl,h⟩⟩
theorem mK{q r:Rat}{M:Mem}{R:DK}{Y:DXK}:aa [d8 q,d8 r] M R Y=(sz q+sz r≤8900∧R (d8 (q+r)) M):=propext ⟨fun z=>by obtain⟨_,_,_,_⟩:=z;walk_at "inj",fun h=>⟨q,r,rfl,h⟩⟩
theorem iA{q r:Rat}{M:Mem}{R:DK}{Y:DXK}:aS [d8 q,d8 r] M R Y=(sz q+sz r≤8900∧R (d8 (q - r)) M):=propext ⟨fun z=>by obtain⟨_,_,_,_⟩:=z;walk_at "inj",fun h=>⟨q,r,rfl,h⟩⟩
theorem mL{q r:Rat}{M:Mem}{R:DK}{Y:DXK}:jX [d8 q,d8 r] M R Y=(r≠0∧sz q+sz r≤8900∧R (d8 (q / r)) M):=propext ⟨fun z=>by obtain⟨_,_,_,_⟩:=z;walk_at "inj",fun h=>⟨q,r,rfl,h⟩⟩
theorem mN{q r:Rat}{M:Mem}{R:DK}{Y:DXK}:fK [d8 q,d8 r] M R Y=(sz q+sz r≤8900∧R (.bl (decide (q<r))) M):=propext ⟨fun z=>by obtain⟨_,_,_,_⟩:=z;walk_at "inj",fun h=>⟨q,r,rfl,h⟩⟩
theorem mJ{c:Int}{M:Mem}{R:DK}{Y:DXK}:qt [.int c] M R Y=(∀ p M',M p=none→MK M M'→E2 M' p→R (.ref p) M'):=propext ⟨fun z=>by obtain⟨_,_,_⟩:=z;walk_at "inj",fun h=>⟨c,rfl,h⟩⟩
theorem mM{p:Addr}{b:Int}{M:Mem}{R:DK}{Y:DXK}:fJ [.ref p,.int b] M R Y=(E2 M p∧0<b∧b.natAbs.log2<9000∧∀(r:Int) M',0≤r→r<b→K7 p M M'→R (.int r) M'):=propext ⟨fun z=>by obtain⟨_,_,_,_⟩:=z;walk_at "inj",fun h=>⟨p,b,rfl,h⟩⟩
theorem rT{q:Rat}{M:Mem}{R:DK}{Y:DXK}:nK [d8 q] M R Y=(R (d8 (j9 q)) M):=propext ⟨fun z=>by obtain⟨_,_,_⟩:=z;walk_at "inj",fun h=>⟨q,rfl,h⟩⟩
theorem cP{a b c d:Rat}{M:Mem}{R:DK}{Y:DXK}:cf [D5 a c,D5 b d] M R Y=(R (gY a b c d) M):=propext ⟨fun z=>by obtain⟨_,_,_,_,_,_⟩:=z;walk_at "inj",fun h=>⟨a,b,c,d,rfl,h⟩⟩
abbrev kQ(a b c d y u:Rat)(M:Mem)(R:DK)(Y:DXK):Prop:=sz a+sz y+(sz b+sz u)≤8900∧sz c+sz y+(sz d+sz u)≤8900∧R (D5 (a*y+b*u) (c*y+d*u)) M
def GJ:DSp:=fun ds M R Y=>∃(a b c d y u:Rat),ds=[gY a b c d,D5 y u]∧kQ a b c d y u M R Y
theorem wG{a b c d y u:Rat}{M:Mem}{R:DK}{Y:DXK}:GJ [gY a b c d,D5 y u] M R Y=(kQ a b c d y u M R Y):=propext ⟨fun z=>by obtain⟨_,_,_,_,_,_,_,_⟩:=z;walk_at "inj",fun h=>⟨a,b,c,d,y,u,rfl,h⟩⟩
abbrev eD(x:Str × Rat)(y u:Rat)(M:Mem)(R:DK)(Y:DXK):Prop:=sz x.2+sz y+sz u≤8900∧R (D5 (Q3 x y u).1 (Q3 x y u).2) M
def tU:DSp:=fun ds M R Y=>∃(x:Str × Rat) (y u:Rat),ds=[m8 x,D5 y u]∧eD x y u M R Y
theorem sC{x:Str × Rat}{y u:Rat}{M:Mem}{R:DK}{Y:DXK}:tU [m8 x,D5 y u] M R Y=(eD x y u M R Y):=propext ⟨fun z=>by obtain⟨_,_,_,_,_⟩:=z;walk_at "inj",fun h=>⟨x,y,u,rfl,h⟩⟩
theorem AG{k:Nat}:∀{ds:List D},(∀ x∈ds,cl k x=true)→clL k ds=true
 | [],_=>rfl
 | d :: r,h=>by
  show(cl k d && clL k r)=true
  rw[h d Po,AG (fun x hx=>h x (Pk _ hx))];rfl
theorem P5{bs:List (Str × Rat)}{y u:Rat}{S:Nat}(h:CD S y 0 u 0)(hb:∀ x∈bs,B6 x)(i:Nat):CD (S+42*bs.length) (j7 (bs.take i) (y,u)).1 0 (j7 (bs.take i) (y,u)).2 0 :=
 (Ht h fun x hx=>hb x (Qm hx)).mono (by
  rw[PX];omega)
theorem K7.del{p l:Addr}{M M':Mem}(h:K7 p M M')(hl:M l=none)(hp:l≠p):K7 p M (cF M' l):=⟨fun b u hb e=>by
  rw[lX (by intro z;subst z;rw[hl]at e;cases e)];exact h.keep b u hb e,by
  obtain⟨x,y,z,e⟩:=h.pool.ex
  exact⟨x,y,z,by rw[lX (Ne.symm hp)];exact e⟩⟩
theorem cG{ds:List D}{n:Nat}:P2 ds none (some (n:Int))=ds.take n:=by
 unfold P2 HT.sIx
 simp only[UH,Nat.sub_zero]
 rw[if_neg (by omega)]
 by_cases h:n≤ds.length
 ·congr 1;omega
 ·rw[QI (by omega),QI (by omega)]
theorem DH{xs:List D}{r:Int}{M:Mem}{R:DK}(h0:0≤r)(h1:r<xs.length)(h:∀ d∈xs,R d M):gIx (.vl xs) (.int r) M R:=by
 obtain⟨z,e,hz⟩:=DY h0 h1
 exact⟨z,e,h z hz⟩
end GM
set_option maxHeartbeats 1000000
namespace L2
open PySem PySem.Spec PyProof.Rows
section
variable {X:Cx} {pins:List (Addr × Obj)} {σ:St} {H:Hp} {s:Shared} {h':Heap}
theorem Inv.keptL{t':Nat}(I:Inv X pins σ H s)(k:∀ b o,b≠X.env.locals→s.heap.get? b=some o→h'.get? b=some o)(ns:∀ m,s.heap.Ns X.env.locals m→h'.Ns X.env.locals m):Inv X pins σ H { s with heap:=h',toks:=t' }:=by
 have ne:∀{b:Addr} {o:Obj},X.s₀.heap.get? b=some o→b≠X.env.locals:=fun{b o} e z=>by
  have h1:=Pz e
  rw[z]at h1
  exact absurd h1 (Nat.not_lt.mpr I.ok.above)
 have nL:∀{b:Addr} {u:HO},H b=some u→b≠X.env.locals:=fun{b u} e z=>by rw[z,I.free]at e;cases e
 obtain⟨m,hn,hl⟩:=I.loc
 have cel:∀{c:Addr} {v:Option Value},s.heap.IsCell c v→h'.IsCell c v:=fun{c v} d=>by
  obtain⟨o,e1,e2⟩:=d
  refine⟨o,k c o (fun z=>?_) e1,e2⟩
  obtain⟨o2,es,ep,e3,e4,_⟩:=hn
  rw[← z,e1]at e3
  cases e3
  rw[e2]at e4;cases e4
 refine⟨I.ok,I.os,I.bare,⟨fun b o q n hb hx=>k b o (ne q) (I.base.keep b o q n hb hx),fun b o q n hb hx=>?_,I.base.free,fun b o q hx=>?_,I.base.tups,I.base.frzs,I.base.tbls⟩,⟨m,ns m hn,fun i x v e1 e2 e3=>?_⟩,fun x c e=>?_,I.free,I.freeC,fun p hp=>?_,fun b u e=>?_,I.len⟩
 ·obtain⟨sl,z⟩:=I.base.slot b o q n hb hx
  exact⟨sl,k b _ (ne q) z⟩
 ·obtain⟨o',z⟩:=I.base.there b o q hx
  exact⟨o',k b _ (ne q) z⟩
 ·obtain⟨u,r,lk⟩:=hl i x v e1 e2 e3
  exact⟨u,r,lk.imp id fun⟨a,c,b,d⟩=>⟨a,c,b,cel d⟩⟩
 ·obtain⟨v,d⟩:=I.cell x c e
  exact⟨v,cel d⟩
 ·obtain⟨a,b,c,d⟩:=I.pin p hp
  exact⟨k _ _ c a,b,c,d⟩
 ·refine(I.hok b u e).stay (fun c v hc q=>k c v ?_ q) (fun _ q=>q) fun _ _ q=>q
  rcases hc with rfl|hc
  ·exact nL e
  ·exact nL hc
theorem gv{P:Program}{w:World}{h:Heap}{a:Addr}{o:HO}(x:C1 P w H h a o):∃ u,h.get? a=some u:=DL.jr x
theorem Inv.laidL{t':Nat}{a:Addr}{o:HO}(I:Inv X pins σ H s)(k:∀ b o,b≠X.env.locals→s.heap.get? b=some o→h'.get? b=some o)(ns:∀ m,s.heap.Ns X.env.locals m→h'.Ns X.env.locals m)(hn:s.heap.get? a=none)(hL:a≠X.env.locals)(nt:∀ xs,o ≠ .tup xs)(new:C1 X.prog X.w (upd H a o) h' a o):Inv X pins σ (upd H a o) { s with heap:=h',toks:=t' }:=by
 have J:=I.keptL (t':=t') k ns
 have nH:H a=none:=by
  cases e:H a with
  | none=>rfl
  | some u=>obtain⟨x,hx⟩:=gv (I.hok a u e);rw[hn]at hx;cases hx
 have ne:∀{b:Addr} {u:HO},H b=some u→b≠a:=fun{b u} e z=>by rw[z,nH]at e;cases e
 refine⟨J.ok,J.os,J.bare,⟨J.base.keep,J.base.slot,fun b o' q n hx=>?_,J.base.there,fun b xs q=>?_,fun b o' u q=>?_,fun b ps q=>?_⟩,J.loc,J.cell,?_,fun x c e=>?_,fun p hp=>?_,fun b u e=>?_,J.len⟩
 ·have hb:b≠a:=fun z=>by
   obtain⟨o2,e2⟩:=I.base.there b o' q hx
   rw[z,hn]at e2;cases e2
  rw[g9 hb];exact J.base.free b o' q n hx
 ·have:=J.base.tups b xs q
  rw[g9 (ne this)];exact this
 ·have:=J.base.frzs b o' u q
  rw[g9 (ne this)];exact this
 ·obtain⟨more,this⟩:=J.base.tbls b ps q
  exact⟨more,by rw[g9 (ne this)];exact this⟩
 ·rw[g9 (Ne.symm hL)];exact J.free
 ·have hb:c≠a:=fun z=>by
   obtain⟨v,o2,e2,_⟩:=I.cell x c e
   rw[z,hn]at e2;cases e2
  rw[g9 hb];exact J.freeC x c e
 ·obtain⟨p1,p2,p3⟩:=J.pin p hp
  have hb:p.1≠a:=fun z=>by
   have:=(I.pin p hp).1
   rw[z,hn]at this;cases this
  exact⟨p1,by rw[g9 hb];exact p2,p3⟩
 ·by_cases hb:b=a
  ·subst hb
   rw[j4]at e
   cases e
   exact new
  ·rw[g9 hb]at e
   refine(J.hok b u e).stay (fun _ _ _ q=>q) (fun c q=>?_) fun c xs q=>?_
   ·rw[g9 (ne q)];exact q
   ·rw[g9 (ne q)];exact q
theorem Du{prog:Program}{w:World}{A:Around}{κ:SortKind}{vs:List Value}{G:Array Nat→Shared→Prop}{s:Shared}(h:wpAny (model prog w) A (keyLt' κ (vs.getD 1 Value.none) (vs.getD 0 Value.none)) (fun b s'=>(b=true→G #[1,0] s')∧(b=false→G #[0,1] s')) (fun _ _=>False) s) :
  (PySem.W.kas_sort 2).kasWp (PySem.W.kas_ask prog w A κ vs) G s:=by
 show PySem.W.kas_ask prog w A κ vs 1 0 (fun b s'=>PySem.W.KasT.kasWp (PySem.W.kas_ask prog w A κ vs) _ G s') s
 unfold PySem.W.kas_ask
 refine wpAny_mono h (fun b s' hb=>?_) fun _ _ z=>z
 cases b with
 | true=>exact hb.1 rfl
 | false=>exact hb.2 rfl
theorem rz:A4 X (.builtin "sorted") (fun xs H Q=>∃ l a b i j xa xb,xs=[.ref l]∧SqL X.K H l [.ref a,.ref b]∧SqT X.K H a (.int i :: xa)∧SqT X.K H b (.int j :: xb)∧i≠j ∧
  ∀ p,H p=none→Q (.ref p) (upd H p (.lst (if j<i then[.ref b,.ref a]else[.ref a,.ref b])))):=by
 intro pins s σ H xs us Q I rv h
 obtain⟨l,a,b,i,j,xa,xb,rfl,hl,ha,hb,ne,q⟩:=h
 obtain⟨u,rfl,ru⟩:=j0.one rv
 obtain rfl:u=Value.ref l:=ru
 obtain⟨its,rl,isl,_⟩:=I.list hl
 obtain⟨ia,ra,⟨oa,ha1,ha2,na,ha3⟩,_⟩:=I.tuple ha
 obtain⟨ib,rb,⟨ob,hb1,hb2,nb,hb3⟩,_⟩:=I.tuple hb
 obtain rfl:its=[Value.ref a,Value.ref b]:=by
  obtain⟨u1,u2,e,r1,r2⟩:=j0.two rl
  rw[e,show u1=Value.ref a from r1,show u2=Value.ref b from r2]
 cases ra with
 | cons ra1 ra2 =>
 cases rb with
 | cons rb1 rb2 =>
 obtain⟨ta,rfl⟩:=ra1
 obtain⟨tb,rfl⟩:=rb1
 rename_i va vb
 obtain⟨m,F⟩:=I.fr
 obtain⟨ol,nl,hl1,hl2,_,hl3⟩:=isl
 refine PySem.W.kat_sorted (vs:=[Value.ref a,Value.ref b]) F (oV (g:=X.base)) ⟨ol,hl1,hl2,nl,hl3⟩ (by show 2≤2;decide) (by show 2<64;decide) fun Dl e1 h1 F1 N1 lt1=>?_
 have keep:∀ c o,c≠X.env.locals→s.heap.get? c=some o→h1.get? c=some o:=fun c o n e=>by
  cases q:X.base.get? c with
  | some u =>
   have:=I.bk c u q
   rw[e]at this;cases this
   exact F1.keep c _ q
  | none=>exact(N1 (c,o) (.tail _ (F3 n q e))).1
 have nL:∀{c:Addr} {o:Obj},s.heap.get? c=some o→o.cls = .type "tuple" → (∃ xs n,o.data = .seq xs n)→c≠X.env.locals:=fun{c o} e1 _ ⟨xs,n,e2⟩ z=>by
  obtain⟨o2,es,ep,e3,e4,_⟩:=F.ns
  rw[← z,e1]at e3
  cases e3
  rw[e2]at e4;cases e4
 have nLa:a≠X.env.locals:=nL ha1 ha2 ⟨_,_,ha3⟩
 have nLb:b≠X.env.locals:=nL hb1 hb2 ⟨_,_,hb3⟩
 have ha4:=keep a oa nLa ha1
 have hb4:=keep b ob nLb hb1
 refine PySem.W.kat_kind (fs:=[.int i ta,.int j tb]) (T:=.type "int") (.cons ha4 ha2 ha3 rfl (.cons hb4 hb2 hb3 rfl .nil)) (by show 0<2;decide) (fun v hv=>?_) rfl ?_
 ·simp only[Pn,Qb,or_false]at hv
  rcases hv with rfl|rfl
  ·exact .now
  ·exact .now
 ·refine Du (PySem.W.kat_lt hb4 hb3 ha4 ha3 (PySem.W.kat_cons (wpAny_eqBool_int ?_)))
  rw[show(j == i)=false from beq_eq_false_iff_ne.mpr (Ne.symm ne)]
  refine PySem.W.kat_no (oneLt_int ?_)
  have fin:∀(vs':List Value) (xs':List V),j0 xs' vs'→xs'=(if j<i then[V.ref b,V.ref a]else[V.ref a,V.ref b])→PySem.W.KasFin X.base X.env.locals m Dl e1 vs' (fun s3=>EP X pins σ Q (Value.ref Dl) s3) { s with heap:=h1 }:=fun vs' xs' rv' ex=>by
   have hD0:=N1 (Dl,seqObj "list" #[] e1) (.head _)
   have hDn:s.heap.get? Dl=none:=by
    cases e:s.heap.get? Dl with
    | none=>rfl
    | some u=>exact absurd (lt1 (Dl,u) (F3 hD0.2.1 hD0.2.2 e)) (QP _)
   refine PySem.W.KasFin.intro F1 N1 (.head fun p hp=>Qi (lt1 p hp)) fun h2 c2 F2 N2=>?_
   have keep2:∀ c o,c≠X.env.locals→s.heap.get? c=some o→h2.get? c=some o:=fun c o n e=>by
    cases q:X.base.get? c with
    | some u =>
     have:=I.bk c u q
     rw[e]at this;cases this
     exact F2.keep c _ q
    | none=>exact(N2 (c,o) (.tail _ (F3 n q e))).1
   have hD2:=N2 (Dl,PySem.W.listOf (Ti vs') c2) (.head _)
   have I2:Inv X pins σ (upd H Dl (.lst xs')) { s with heap:=h2,toks:=s.toks }:=I.laidL keep2 (fun m' hm=>by
    obtain⟨o1,es1,ep1,a1,a2,_,a4⟩:=hm
    obtain⟨o2,es2,ep2,b1,b2,_,b4⟩:=F.ns
    rw[a1]at b1;cases b1
    rw[a2]at b2;cases b2
    have:m'=m:=funext fun x=>(a4 x).symm.trans (b4 x)
    rw[this];exact F2.ns) hDn hD0.2.1 (fun _ z=>nomatch z) ⟨?_,vs',c2,rv',hD2.1⟩
   ·refine⟨.ref Dl,_,I2,rfl,?_⟩
    rw[ex]
    exact q Dl (by
     cases e:H Dl with
     | none=>rfl
     | some u=>obtain⟨x,hx⟩:=gv (I.hok Dl u e);rw[hDn]at hx;cases hx)
   ·have:xs'.length≤2:=by rw[ex];split<;>exact Py _
    exact Pu this (by decide)
  refine⟨fun z=>fin _ [V.ref b,V.ref a] (.cons rfl (.cons rfl .nil)) (by rw[if_pos (of_decide_eq_true z)]),fun z=>fin _ [V.ref a,V.ref b] (.cons rfl (.cons rfl .nil)) (by rw[if_neg (of_decide_eq_false z)])⟩
end
section
variable {prog:Program} {w:World} {A:Around} {E:Value→Shared→Prop} {s:Shared}
theorem yb{a:Addr}{ws:List Value}{k:Nat}{P:PySem.Fin→Shared→Prop}(there:s.heap.get? a=some (seqObj "list" ws.toArray k))(few:ws.length<2)
  (go:P (.done (.ret .none)) { s with heap:=sortedHeap s.heap a ws ws.toArray }):wpAny (model prog w) A (Builtin.«list.sort» ⟨[.ref a],[]⟩) P E s:=by
 have inb:=Pz there
 obtain⟨ep,bare⟩:∃ ep,(s.heap.update a (Obj.mapSeq fun _=>#[])).get? a=some (seqObj "list" #[] ep):=⟨_,get?_update_seq there _⟩
 have bare2:(((s.heap.update a (Obj.mapSeq fun _=>#[])).push (seqObj "tuple" ws.toArray 0)).push (seqObj "list" #[] 0)).get? a=some (seqObj "list" #[] ep) :=
  Pl _ (Pl _ bare)
 have small:ws.toArray.size<2:=by rw[PR];exact few
 have line:ws.length≤sizeLine:=Pu (Ri few) (by decide)
 rw[list_sort_plain]
 refine Ph (listItems_at there rfl
  (Ph (listUpdate_at there rfl
   (Ph (seqEpoch_at bare rfl
    (Ph (wpAny_newTuple
     (Ph (wpAny_newList
      (wpAny_holding ?_) (Qs _))) line)))) (by rw[PR];omega) (Qs _))))
 show wpAny (model prog w) A _ P E { s with heap:=((s.heap.update a (Obj.mapSeq fun _=>#[])).push (seqObj "tuple" ws.toArray 0)).push (seqObj "list" #[] 0) }
 dsimp only
 rw[if_pos small]
 refine Ph (PD ?_)
 rw[if_pos small,StateT.run_pure]
 refine Ph (PD ?_)
 have same:Array.map (fun x=>x.snd) (ws.toArray.zip ws.toArray)=ws.toArray:=by
  match ws,few with
  | [],_=>simp
  | [_],_=>simp
 show wpAny (model prog w) A (do
  let __do_lift ← seqEpoch a
  Builtin.List.listUpdate (Value.ref a) fun _=>Array.map (fun x=>x.snd) (ws.toArray.zip ws.toArray)
  if (__do_lift != ep)=true then _ else ret Value.none) P E _
 rw[same]
 refine Ph (seqEpoch_at bare2 rfl
  (Ph (listUpdate_at bare2 rfl ?_ (Qs _) (by rw[PR];omega))))
 rw[bne_self_eq_false,if_neg PZ]
 exact PD go
theorem qu{l:Addr}{ws:List Value}{Q:Value→Shared→Prop}(hl:s.heap.IsList l ws.toArray)(few:ws.length<2)
  (go:Q (.ref (s.heap.objs.size+1)) { s with heap:=sortedAll s.heap ws ws.toArray }):wpAny (model prog w) A (call (.builtin "sorted") [.ref l]) Q E s:=by
 have line:ws.length≤sizeLine:=Pu (Ri few) (by decide)
 refine Calls.call_function_entry kind_sorted plain_sorted entry_sorted (args_sorted1 _) ?_
 unfold Builtin.«sorted»
 refine Ph (m:=checkCount "sorted" 1 1 _) (PD (Ph (collect_list hl (Ph (wpAny_newList ?_ line)) line)))
 have sz:((s.heap.push (seqObj "list" #[] 0)).update s.heap.objs.size (Obj.mapSeq (· ++ ws.toArray))).objs.size=s.heap.objs.size+1:=by rw[SV,size_push']
 have at1:(((s.heap.push (seqObj "list" #[] 0)).update s.heap.objs.size (Obj.mapSeq (· ++ ws.toArray))).push (seqObj "list" ws.toArray 0)).get? (s.heap.objs.size+1)=some (seqObj "list" ws.toArray 0):=by
  rw[← sz]
  exact PK _ rfl
 show wpAny _ _ _ _ _ { s with heap:=((s.heap.push (seqObj "list" #[] 0)).update s.heap.objs.size (Obj.mapSeq (· ++ ws.toArray))).push (seqObj "list" ws.toArray 0) }
 rw[sz]
 exact Ph (wpAny_holding (wpAny_call_entry slot_list_sort ⟨_,at1,rfl⟩ entry_list_sort
  (yb at1 few ⟨_,rfl,PD ⟨_,rfl,go⟩⟩) (args_list_sort _)))
end
theorem di{h:Heap}{ws:List Value}{out:Array Value}:∀ b o,h.get? b=some o→(sortedAll h ws out).get? b=some o:=fun b o e=>by
 have hb:=Pz e
 have sz:((h.push (seqObj "list" #[] 0)).update h.objs.size (Obj.mapSeq (· ++ ws.toArray))).objs.size=h.objs.size+1:=by rw[SV,size_push']
 have e1:(((h.push (seqObj "list" #[] 0)).update h.objs.size (Obj.mapSeq (· ++ ws.toArray))).push (seqObj "list" ws.toArray 0)).get? b=some o :=
  Pl _ (by rw[Sr _ _ _ _ (Qi hb)];exact Pl _ e)
 unfold sortedAll sortedHeap
 have nb:b≠h.objs.size+1:=Qi (Nat.lt_succ_of_lt hb)
 rw[Sr _ _ _ _ nb]
 refine Pl _ (Pl _ ?_)
 rw[Sr _ _ _ _ nb]
 exact e1
theorem gZ{h:Heap}{ws:List Value}{out:Array Value}:∃ n,(sortedAll h ws out).get? (h.objs.size+1)=some (seqObj "list" out n):=by
 have sz:((h.push (seqObj "list" #[] 0)).update h.objs.size (Obj.mapSeq (· ++ ws.toArray))).objs.size=h.objs.size+1:=by rw[SV,size_push']
 have at1:(((h.push (seqObj "list" #[] 0)).update h.objs.size (Obj.mapSeq (· ++ ws.toArray))).push (seqObj "list" ws.toArray 0)).get? (h.objs.size+1)=some (seqObj "list" ws.toArray 0):=by
  rw[← sz]
  exact PK _ rfl
 obtain⟨ep,bare⟩:∃ ep,((((h.push (seqObj "list" #[] 0)).update h.objs.size (Obj.mapSeq (· ++ ws.toArray))).push (seqObj "list" ws.toArray 0)).update (h.objs.size+1) (Obj.mapSeq fun _=>#[])).get? (h.objs.size+1)=some (seqObj "list" #[] ep):=⟨_,get?_update_seq at1 _⟩
 unfold sortedAll sortedHeap
 exact⟨_,get?_update_seq (Pl _ (Pl _ bare)) _⟩
theorem rB{X:Cx}:A4 X (.builtin "sorted") (fun xs H Q=>∃ l ys,xs=[.ref l]∧SqL X.K H l ys∧ys.length<2∧∀ p,H p=none→Q (.ref p) (upd H p (.lst ys))):=by
 intro pins s σ H xs us Q I rv h
 obtain⟨l,ys,rfl,hl,few,q⟩:=h
 obtain⟨u,rfl,ru⟩:=j0.one rv
 obtain rfl:u=Value.ref l:=ru
 obtain⟨its,rl,⟨ol,nl,hl1,hl2,_,hl3⟩,hz⟩:=I.list hl
 refine qu (ws:=its) ⟨ol,hl1,hl2,nl,hl3⟩ (by rw[← rl.length];exact few) ?_
 obtain⟨n,hn⟩:=gZ (h:=s.heap) (ws:=its) (out:=its.toArray)
 exact⟨.ref (s.heap.objs.size+1),_,I.laid (t':=s.toks) (o:=.lst ys) di (Nat.le_succ _) ⟨hz,its,n,rl,hn⟩,rfl,q _ (I.hok.fresh (Nat.le_succ _))⟩
end L2
namespace DL
open PySem PySem.Spec L2
open PyProof.Rows hiding St
def KI:DRC:=fun ds M R=>∃ x xs,ds=[x]∧N0 M x=some xs∧((xs.length<2∧∀ p,M p=none→R (.ref p) (A8 M p (.lst xs))) ∨
 ∃ i j ra rb,xs=[.tup (.int i :: ra),.tup (.int j :: rb)]∧i≠j∧∀ p,M p=none→R (.ref p) (A8 M p (.lst (if j<i then[.tup (.int j :: rb),.tup (.int i :: ra)]else[.tup (.int i :: ra),.tup (.int j :: rb)]))))
theorem AL{X:Cx}:Z7 X (.builtin "sorted") KI:=A4.imp (A4.or rB rz) fun xs H Q ⟨ds,M,R,hl,am,⟨x,ys,z,hi,h⟩,f⟩=>by
 subst z
 obtain⟨v,rfl,hv⟩:=hl.one
 obtain⟨a,us,rfl,sq,lx⟩:=B4 am hv hi
 rcases h with⟨few,r⟩|⟨i,j,ra,rb,rfl,ne,r⟩
 ·refine .inl ⟨a,us,rfl,sq,by rw[lx.length];exact few,fun p hp=>f _ _ (r p (am.fresh hp)) _ _ (KT.alloc hp) (am.new hp lx) (.ref p)⟩
 ·cases lx with
  | cons h1 t1 =>
  cases t1 with
  | cons h2 t2 =>
  cases t2
  cases h1 with
  | tup s1 l1 =>
  cases h2 with
  | tup s2 l2 =>
  rename_i a1 x1 a2 x2
  cases l1 with
  | cons g1 l1 =>
  cases l2 with
  | cons g2 l2 =>
  cases g1
  cases g2
  refine .inr ⟨a,a1,a2,i,j,_,_,rfl,sq,s1,s2,ne,fun p hp=>?_⟩
  have rr:=r p (am.fresh hp)
  have t1:Has X.K H (.ref a1) (.tup (.int i :: ra)):=.tup s1 (.cons (.int i) l1)
  have t2:Has X.K H (.ref a2) (.tup (.int j :: rb)):=.tup s2 (.cons (.int j) l2)
  by_cases hji:j<i
  ·rw[if_pos hji]at rr ⊢
   exact f _ _ rr _ _ (KT.alloc hp) (am.new hp (.cons t2 (.cons t1 .nil))) (.ref p)
  ·rw[if_neg hji]at rr ⊢
   exact f _ _ rr _ _ (KT.alloc hp) (am.new hp (.cons t1 (.cons t2 .nil))) (.ref p)
theorem cH:bootBuiltins "sorted" = some (.builtin "sorted"):=by decide +kernel
end DL
namespace L2
open PySem PySem.Spec PyProof.Rows
section
variable {N:Nat} {o:Nat→Nat→Bool} {s:Shared} {cmp:Nat→Nat→(Bool→Shared→Prop)→Shared→Prop}
structure rO(N:Nat)(o:Nat→Nat→Bool):Prop where
 tr:∀ i j k,i<N→j<N→k<N→o i j=true→o j k=true→o i k=true
 tot:∀ i j,i<N→j<N→i≠j→o i j=false→o j i=true
def jR(N:Nat)(o:Nat→Nat→Bool)(s:Shared)(cmp:Nat→Nat→(Bool→Shared→Prop)→Shared→Prop):Prop:=∀ i j C,i<N→j<N→C (o i j) s→cmp i j C s
def PPm(N:Nat)(p:Array Nat):Prop:=p.Perm (Ti (QM N))
noncomputable abbrev gA(p:Array Nat)(i:Nat):Nat:=p.getD i 0
theorem PPm.size{p:Array Nat}(h:PPm N p):p.size=N:=by
 have:=h.size_eq
 simpa using this
theorem Ac{p:Array Nat}{i v:Nat}(h:p[i]? = some v):gA p i=v:=by
 show p.getD i 0=v
 rw[Array.getD_eq_getD_getElem?,h];rfl
theorem O0{p:Array Nat}{i:Nat}(h:i<p.size):p[i]? = some (gA p i):=by
 show p[i]? = some (p.getD i 0)
 rw[Array.getD_eq_getD_getElem?,Array.getElem?_eq_getElem h];rfl
theorem PPm.lt{p:Array Nat}(h:PPm N p){i:Nat}(hi:i<N):gA p i<N:=by
 have hs:=O0 (p:=p) (i:=i) (by rw[h.size];exact hi)
 have hm:gA p i∈p:=Array.mem_of_getElem? hs
 have:=(Array.Perm.mem_iff h).mp hm
 simpa using this
theorem PPm.inj{p:Array Nat}(h:PPm N p){i j:Nat}(hi:i<N)(hj:j<N)(e:gA p i=gA p j):i=j:=by
 have hn:p.toList.Nodup:=(Array.perm_iff_toList_perm.mp h).nodup_iff.mpr (by simpa using List.nodup_range)
 have e1:p.toList[i]? = p.toList[j]?:=by
  rw[Array.getElem?_toList,Array.getElem?_toList,O0 (by rw[h.size];exact hi),O0 (by rw[h.size];exact hj),e]
 exact(List.getElem?_inj (by rw[Array.length_toList,h.size];exact hi) hn).mp e1
def rN(o:Nat→Nat→Bool)(p:Array Nat)(m:Nat):Prop:=∀ i j,i<j→j<m→o (gA p i) (gA p j)=true
def LF(o:Nat→Nat→Bool)(p:Array Nat)(m:Nat):Prop:=∀ i j,i<j→j<m→o (gA p j) (gA p i)=true
theorem rH(O:rO N o)(hc:jR N o s cmp){p:Array Nat}(hp:PPm N p){Q:Nat→Shared→Prop}:∀(f n:Nat),1≤n→n+f≤N→rN o p n →
  (∀ m,n≤m→m≤n+f→rN o p m→(m=n+f∨o (gA p m) (gA p (m - 1))=true)→Q m s)→(PySem.W.kas_asc p f n).kasWp cmp Q s
 | 0,n,_,_,hs,q=>q n (Py _) (Py _) hs (.inl rfl)
 | f+1,n,h1,hn,hs,q=>by
  show cmp (gA p n) (gA p (n - 1)) (fun b s'=>(if b=true then PySem.W.KasT.ret n else PySem.W.kas_asc p f (n+1)).kasWp cmp Q s') s
  refine hc _ _ _ (hp.lt (by omega)) (hp.lt (by omega)) ?_
  cases e:o (gA p n) (gA p (n - 1))with
  | true =>
   rw[if_pos rfl]
   exact q n (Py _) (by omega) hs (.inr e)
  | false =>
   rw[if_neg (by decide)]
   have up:o (gA p (n - 1)) (gA p n)=true:=O.tot _ _ (hp.lt (by omega)) (hp.lt (by omega)) (fun z=>by have:=hp.inj (by omega) (by omega) z;omega) e
   refine rH O hc hp f (n+1) (by omega) (by omega) (fun i j hij hj=>?_) (fun m a1 a2 a3 a4=>q m (by omega) (by omega) a3 (by rcases a4 with h|h;exact .inl (by omega);exact .inr h))
   rcases QN (Tj.mp hj)with c|c
   ·exact hs i j hij c
   ·subst c
    rcases QN (show i≤j - 1 by omega)with d|d
    ·exact O.tr _ _ _ (hp.lt (by omega)) (hp.lt (by omega)) (hp.lt (by omega)) (hs i (j - 1) d (by omega)) up
    ·rw[d];exact up
theorem uK(O:rO N o)(hc:jR N o s cmp){p:Array Nat}(hp:PPm N p){Q:Array Nat × Nat × Nat→Shared→Prop}:∀(f n:Nat),1≤n→n+f≤N→LF o p n →
  (∀ m,n≤m→m≤n+f→LF o p m→Q (p,m,0) s)→(PySem.W.kas_desc f p n 0).kasWp cmp Q s
 | 0,n,_,_,hs,q=>q n (Py _) (Py _) hs
 | f+1,n,h1,hn,hs,q=>by
  show cmp (gA p n) (gA p (n - 1)) (fun b s'=>(if b=true then(if (0:Nat) > 0 then PySem.W.kas_desc f (PySem.W.kas_rev p (n - (0+1)) n) (n+1) 0 else PySem.W.kas_desc f p (n+1) 0)
   else .ask (gA p (n - 1)) (gA p n) fun d=>if d=true then .ret (p,n,0)else PySem.W.kas_desc f p (n+1) (0+1)).kasWp cmp Q s') s
  refine hc _ _ _ (hp.lt (by omega)) (hp.lt (by omega)) ?_
  cases e:o (gA p n) (gA p (n - 1))with
  | true =>
   rw[if_pos rfl,if_neg (by decide)]
   refine uK O hc hp f (n+1) (by omega) (by omega) (fun i j hij hj=>?_) (fun m a1 a2 a3=>q m (by omega) (by omega) a3)
   rcases QN (Tj.mp hj)with c|c
   ·exact hs i j hij c
   ·subst c
    rcases QN (show i≤j - 1 by omega)with d|d
    ·exact O.tr _ _ _ (hp.lt (by omega)) (hp.lt (by omega)) (hp.lt (by omega)) e (hs i (j - 1) d (by omega))
    ·rw[d];exact e
  | false =>
   rw[if_neg (by decide)]
   show cmp (gA p (n - 1)) (gA p n) (fun d s'=>(if d=true then PySem.W.KasT.ret (p,n,0)else PySem.W.kas_desc f p (n+1) (0+1)).kasWp cmp Q s') s
   refine hc _ _ _ (hp.lt (by omega)) (hp.lt (by omega)) ?_
   rw[O.tot _ _ (hp.lt (by omega)) (hp.lt (by omega)) (fun z=>by have:=hp.inj (by omega) (by omega) z;omega) e,if_pos rfl]
   exact q n (Py _) (by omega) hs
theorem yF{p:Array Nat}{n:Nat}(hn:n≤p.size){k:Nat}(hk:k<p.size):gA (PySem.W.kas_rev p 0 n) k=if k<n then gA p (n - 1 - k)else gA p k:=by
 have e:=getElem?_mirror_all (xs:=p) (i:=0) hn k
 refine Ac ?_
 show(mirror p 0 n ((n - 0) / 2))[k]? = _
 rw[e]
 by_cases c:k<n
 ·rw[if_pos ⟨Qs _,c⟩,if_pos c,show 0+n - 1 - k=n - 1 - k by omega]
  exact O0 (by omega)
 ·rw[if_neg (fun z=>c z.2),if_neg c]
  exact O0 hk
theorem GR{p:Array Nat}{n:Nat}(h:PPm N p):PPm N (PySem.W.kas_rev p 0 n):=(mirror_perm p 0 n _).trans h
theorem AA(O:rO N o)(hc:jR N o s cmp){p:Array Nat}(hp:PPm N p)(h1:1≤N){Q:Nat × Array Nat→Shared→Prop}
  (q:∀ m p',1≤m→m≤N→PPm N p'→rN o p' m→Q (m,p') s):(PySem.W.kas_count N p).kasWp cmp Q s:=by
 unfold PySem.W.kas_count
 rw[PySem.W.KasT.kasWp_bind]
 refine rH O hc hp (N - 1) 1 (Py 1) (by omega) (fun i j hij hj=>absurd hij (by omega)) fun n n1 n2 hs ho=>?_
 by_cases e:n=N
 ·subst e
  rw[if_pos (by simp)]
  exact q n p n1 (Py _) hp hs
 rw[if_neg (by simpa using e)]
 by_cases e2:n > 1
 ·rw[if_pos e2]
  show cmp (gA p 0) (gA p (n - 1)) (fun b s'=>(if b=true then PySem.W.KasT.ret (n,p)else PySem.W.kas_descPart n N (PySem.W.kas_rev p 0 n)).kasWp cmp Q s') s
  refine hc _ _ _ (hp.lt (by omega)) (hp.lt (by omega)) ?_
  rw[hs 0 (n - 1) (by omega) (by omega),if_pos rfl]
  exact q n p n1 (by omega) hp hs
 ·rw[if_neg e2]
  obtain rfl:n=1:=by omega
  have e0:o (gA p 1) (gA p 0)=true:=by
   rcases ho with h|h
   ·omega
   ·exact h
  unfold PySem.W.kas_descPart
  rw[PySem.W.KasT.kasWp_bind]
  refine uK O hc hp (N - (1+1)) (1+1) (by omega) (by omega) (fun i j hij hj=>?_) fun m m1 m2 hd=>?_
  ·obtain rfl:j=1:=by omega
   obtain rfl:i=0:=by omega
   exact e0
  show(if (0:Nat) > 0 then PySem.W.kas_tail3 m N (PySem.W.kas_rev p (m - (0+1)) m)else PySem.W.kas_tail3 m N p).kasWp cmp Q s
  rw[if_neg (by decide)]
  unfold PySem.W.kas_tail3
  rw[PySem.W.KasT.kasWp_bind]
  have hp':PPm N (PySem.W.kas_rev p 0 m):=GR hp
  have sz:=hp.size
  refine rH O hc hp' (N - m) m (by omega) (by omega) (fun i j hij hj=>?_) fun k k1 k2 hk _=>q k _ (by omega) (by omega) hp' hk
  rw[yF (by omega) (by omega),yF (by omega) (by omega),if_pos (by omega),if_pos (by omega)]
  exact hd _ _ (by omega) (by omega)
theorem gj(O:rO N o)(hc:jR N o s cmp){p:Array Nat}(hp:PPm N p){k:Nat}(hk:k<N)(hs:rN o p k){Q:Nat→Shared→Prop}:∀(f l r:Nat),r - l≤f→l≤r→r≤k →
  (∀ i,i<l→o (gA p i) (gA p k)=true)→(∀ i,r≤i→i<k→o (gA p k) (gA p i)=true) →
  (∀ l,l≤k→(∀ i,i<l→o (gA p i) (gA p k)=true)→(∀ i,l≤i→i<k→o (gA p k) (gA p i)=true)→Q l s)→(PySem.W.kas_place p k f l r).kasWp cmp Q s
 | 0,l,r,hf,h1,h2,a,b,q=>q l (by omega) a ((show l=r by omega)▸b)
 | f+1,l,r,hf,h1,h2,a,b,q=>by
  unfold PySem.W.kas_place
  by_cases c:l≥r
  ·rw[if_pos c]
   exact q l (by omega) a ((show l=r by omega)▸b)
  rw[if_neg c]
  show cmp (gA p k) (gA p ((l+r) / 2)) (fun c s'=>(if c=true then PySem.W.kas_place p k f l ((l+r) / 2)else PySem.W.kas_place p k f ((l+r) / 2+1) r).kasWp cmp Q s') s
  have hm:(l+r) / 2<r:=by omega
  have hm2:l≤(l+r) / 2:=by omega
  generalize (l+r) / 2=m at *
  refine hc _ _ _ (hp.lt (by omega)) (hp.lt (by omega)) ?_
  cases e:o (gA p k) (gA p m)with
  | true =>
   rw[if_pos rfl]
   refine gj O hc hp hk hs f l m (by omega) (by omega) (by omega) a (fun i hi hik=>?_) q
   rcases QN hi with d|d
   ·exact O.tr _ _ _ (hp.lt (by omega)) (hp.lt (by omega)) (hp.lt (by omega)) e (hs m i d hik)
   ·rw[← d];exact e
  | false =>
   rw[if_neg (by decide)]
   have up:o (gA p m) (gA p k)=true:=O.tot _ _ (hp.lt (by omega)) (hp.lt (by omega)) (fun z=>by have:=hp.inj (by omega) (by omega) z;omega) e
   refine gj O hc hp hk hs f (m+1) r (by omega) (by omega) h2 (fun i hi=>?_) b q
   rcases QN (Tj.mp hi)with d|d
   ·exact O.tr _ _ _ (hp.lt (by omega)) (hp.lt (by omega)) (hp.lt (by omega)) (hs i m d (by omega)) up
   ·rw[d];exact up
theorem AM{p:Array Nat}{k l:Nat}(hk:k<p.size)(hl:l≤k){i:Nat}(hi:i<p.size):gA (bubble p k (k - l)) i=if i=l then gA p k else if l<i∧i≤k then gA p (i - 1)else gA p i:=by
 have e:=getElem?_bubble hk (k - l) (by omega) i
 rw[show k - (k - l)=l by omega]at e
 refine Ac ?_
 rw[e]
 by_cases c:i=l
 ·rw[if_pos c,if_pos c];exact O0 hk
 ·rw[if_neg c,if_neg c]
  by_cases d:l<i∧i≤k
  ·rw[if_pos d,if_pos d];exact O0 (by omega)
  ·rw[if_neg d,if_neg d];exact O0 hi
theorem AS(O:rO N o)(hc:jR N o s cmp){Q:Array Nat→Shared→Prop}:∀(f k:Nat) (p:Array Nat),PPm N p→k+f=N→rN o p k→(∀ p',PPm N p'→rN o p' N→Q p' s)→(PySem.W.kas_bin f p k).kasWp cmp Q s
 | 0,k,p,hp,hk,hs,q=>by
  obtain rfl:k=N:=by omega
  exact q p hp hs
 | f+1,k,p,hp,hk,hs,q=>by
  unfold PySem.W.kas_bin
  rw[PySem.W.KasT.kasWp_bind]
  refine gj O hc hp (by omega) hs k 0 k (by omega) (by omega) (Py _) (fun i hi=>absurd hi (by omega)) (fun i h1 h2=>absurd h2 (by omega)) fun l hl a b=>?_
  have sz:=hp.size
  refine AS O hc f (k+1) _ ((bubble_perm p k (k - l)).trans hp) (by omega) (fun i j hij hj=>?_) q
  rw[AM (by omega) hl (by omega),AM (by omega) hl (by omega)]
  by_cases c1:i=l
  ·rw[if_pos c1,if_neg (by omega),if_pos (by omega)]
   exact b _ (by omega) (by omega)
  ·rw[if_neg c1]
   by_cases c2:l<i
   ·rw[if_pos ⟨c2,by omega⟩,if_neg (by omega),if_pos (by omega)]
    exact hs _ _ (by omega) (by omega)
   ·rw[if_neg (by omega)]
    by_cases c3:j=l
    ·rw[if_pos c3]
     exact a i (by omega)
    ·rw[if_neg c3]
     by_cases c4:l<j
     ·rw[if_pos ⟨c4,by omega⟩]
      exact hs _ _ (by omega) (by omega)
     ·rw[if_neg (by omega)]
      exact hs _ _ hij (by omega)
theorem Cf(O:rO N o)(hc:jR N o s cmp)(h1:1≤N){Q:Array Nat→Shared→Prop}(q:∀ p',PPm N p'→rN o p' N→Q p' s):(PySem.W.kas_sort N).kasWp cmp Q s:=by
 unfold PySem.W.kas_sort
 rw[PySem.W.KasT.kasWp_bind]
 refine AA O hc (p:=Ti (QM N)) (Array.Perm.refl _) h1 fun m p' m1 m2 hp hs=>?_
 show(if m<N then PySem.W.kas_bin (N - max m 1) p' (max m 1)else .ret p').kasWp cmp Q s
 by_cases c:m<N
 ·rw[if_pos c,show max m 1=m by omega]
  exact AS O hc _ m p' hp (by omega) hs q
 ·rw[if_neg c]
  obtain rfl:m=N:=by omega
  exact q p' hp hs
end
noncomputable abbrev dJ:=List Int × List Int
noncomputable def lt2(k k':dJ):Bool:=if k.1=k'.1 then HT.F4 k.2 k'.2 else HT.F4 k.1 k'.1
theorem eN:∀(xs:List Int),HT.F4 xs xs=false
 | []=>rfl
 | x :: xs=>by rw[HT.S1,if_pos rfl];exact eN xs
theorem qY:∀(xs ys zs:List Int),HT.F4 xs ys=true→HT.F4 ys zs=true→HT.F4 xs zs=true
 | [],[],_,h,_=>by cases h
 | [],_ :: _,[],_,h=>by cases h
 | [],_ :: _,_ :: _,_,_=>rfl
 | _ :: _,[],_,h,_=>by cases h
 | _ :: _,_ :: _,[],_,h=>by cases h
 | x :: xs,y :: ys,z :: zs,h1,h2=>by
  rw[HT.S1]at h1 h2 ⊢
  by_cases c1:x=y
  ·subst c1
   rw[if_pos rfl]at h1
   by_cases c2:x=z
   ·rw[if_pos c2]at h2 ⊢
    exact qY xs ys zs h1 h2
   ·rw[if_neg c2]at h2 ⊢
    exact h2
  ·rw[if_neg c1]at h1
   have h1:=of_decide_eq_true h1
   by_cases c2:y=z
   ·rw[if_neg (by omega)];exact decide_eq_true (by omega)
   ·rw[if_neg c2]at h2
    have h2:=of_decide_eq_true h2
    rw[if_neg (by omega)];exact decide_eq_true (by omega)
theorem lN:∀(xs ys:List Int),xs≠ys→HT.F4 xs ys=false→HT.F4 ys xs=true
 | [],[],h,_=>absurd rfl h
 | [],_ :: _,_,h=>by cases h
 | _ :: _,[],_,_=>rfl
 | x :: xs,y :: ys,h,h1=>by
  rw[HT.S1]at h1 ⊢
  by_cases c:x=y
  ·subst c
   rw[if_pos rfl]at h1 ⊢
   exact lN xs ys (fun z=>h (by rw[z])) h1
  ·rw[if_neg c]at h1
   have:=of_decide_eq_false h1
   rw[if_neg (fun z=>c z.symm)];exact decide_eq_true (by omega)
theorem lK(k:dJ):lt2 k k=false:=by unfold lt2;rw[if_pos rfl];exact eN _
theorem zy{a b c:dJ}(h1:lt2 a b=true)(h2:lt2 b c=true):lt2 a c=true:=by
 unfold lt2 at *
 by_cases c1:a.1=b.1
 ·rw[if_pos c1]at h1
  by_cases c2:b.1=c.1
  ·rw[if_pos c2]at h2
   rw[if_pos (c1.trans c2)];exact qY _ _ _ h1 h2
  ·rw[if_neg c2]at h2
   rw[if_neg (by rw[c1];exact c2),c1];exact h2
 ·rw[if_neg c1]at h1
  by_cases c2:b.1=c.1
  ·rw[if_neg (by rw[← c2];exact c1),← c2];exact h1
  ·rw[if_neg c2]at h2
   have:=qY _ _ _ h1 h2
   rw[if_neg (fun z=>by rw[z,eN]at this;cases this)];exact this
theorem Dq{a b:dJ}(h:a≠b)(h1:lt2 a b=false):lt2 b a=true:=by
 unfold lt2 at *
 by_cases c:a.1=b.1
 ·rw[if_pos c]at h1
  rw[if_pos c.symm]
  exact lN _ _ (fun z=>h (Prod.ext c z)) h1
 ·rw[if_neg c]at h1
  rw[if_neg (fun z=>c z.symm)]
  exact lN _ _ c h1
theorem om:∀(xs ys:List dJ),xs.Pairwise (fun a b=>lt2 a b=true)→ys.Pairwise (fun a b=>lt2 a b=true)→(∀ k,k∈xs↔k∈ys)→xs=ys
 | [],[],_,_,_=>rfl
 | [],y :: _,_,_,h=>by cases(h y).mpr (.head _)
 | x :: _,[],_,_,h=>by cases(h x).mp (.head _)
 | x :: xs,y :: ys,hx,hy,h=>by
  obtain⟨hx1,hx2⟩:=QA.mp hx
  obtain⟨hy1,hy2⟩:=QA.mp hy
  have e:x=y:=by
   rcases Pn.mp ((h x).mp (.head _))with e|e
   ·exact e
   ·rcases Pn.mp ((h y).mpr (.head _))with e2|e2
    ·exact e2.symm
    ·have:=zy (hy1 x e) (hx1 y e2)
     rw[lK]at this;cases this
  subst e
  congr 1
  refine om xs ys hx2 hy2 fun k=>⟨fun hk=>?_,fun hk=>?_⟩
  ·rcases Pn.mp ((h k).mp (.tail _ hk))with e|e
   ·have:=hx1 k hk
    rw[e,lK]at this;cases this
   ·exact e
  ·rcases Pn.mp ((h k).mpr (.tail _ hk))with e|e
   ·have:=hy1 k hk
    rw[e,lK]at this;cases this
   ·exact e
theorem zT{us:List Value}{ns:List Int}(h:IntsAre us ns):∀{ms:List Int},IntsAre us ms→ns=ms:=by
 induction h with
 | nil=>intro ms h;cases h;rfl
 | cons a t h ih =>
  intro ms h2
  cases h2 with
  | cons a2 t2 h2=>rw[ih h2]
theorem uI{A:Around}{s:Shared}{l b:Addr}{us vs:List Value}{ns ms:List Int}(hl:IsTup s.heap l us.toArray)(hb:IsTup s.heap b vs.toArray)(hi:IntsAre us ns)(hj:IntsAre vs ms)(hu:A.units<cLine):∃ e,SeqAt.EqAt A s (.ref l) (.ref b) e∧(e=true↔ns=ms):=by
 by_cases c:l=b
 ·subst c
  refine⟨true,SeqAt.EqAt.same _,⟨fun _=>?_,fun _=>rfl⟩⟩
  obtain⟨o,h1,_,n,h2⟩:=hl
  obtain⟨o',h1',_,n',h2'⟩:=hb
  rw[h1]at h1';cases h1'
  rw[h2]at h2'
  injection h2' with h2'
  have h3:us=vs:=by simpa using h2'
  subst h3
  exact zT hi hj
 ·have item:∀{us:List Value} {ns:List Int},IntsAre us ns→∀(j:Nat) (h:j<us.toArray.size),∃ t,us.toArray[j] = .int (ns.getD j 0) t:=fun{us ns} h=>by
   induction h with
   | nil=>intro j h;exact absurd h (by simp)
   | cons a t h ih =>
    intro j hj
    cases j with
    | zero=>exact⟨t,by simp⟩
    | succ j =>
     obtain⟨t',e⟩:=ih j (by simpa using hj)
     exact⟨t',by simpa using e⟩
  refine⟨_,SeqAt.EqAt.of_refs c (SeqAt.RcAt.tuples (e:=fun j=>decide (ns.getD j 0=ms.getD j 0)) hl hb hu fun j h1 h2=>?_),?_⟩
  ·obtain⟨t,e1⟩:=item hi j h1
   obtain⟨u,e2⟩:=item hj j h2
   rw[e1,e2]
   obtain⟨e,he,hiff⟩:=HT.pA A.in1 s (ns.getD j 0) t (ms.getD j 0) u
   have:e=decide (ns.getD j 0=ms.getD j 0):=by
    by_cases z:ns.getD j 0=ms.getD j 0
    ·rw[hiff.mpr z,decide_eq_true z]
    ·rw[decide_eq_false z]
     cases e with
     | false=>rfl
     | true=>exact absurd (hiff.mp rfl) z
   rw[← this];exact he
  ·rw[Rl,Qq]
   have z1:=hi.length
   have z2:=hj.length
   simp only[PR,z1,z2,RU,beq_iff_eq,decide_eq_true_eq]
   constructor
   ·rintro⟨h1,h2⟩
    refine Rz h2 fun i a1 a2=>?_
    have:=h1 i (by omega)
    simpa[a1,a2]using this
   ·rintro rfl
    exact⟨fun _ _=>rfl,rfl⟩
section
variable {X:Cx} {pins:List (Addr × Obj)} {σ:St} {H:Hp} {s:Shared}
inductive Z6 (K:Pg) (H:Hp):List V→List dJ→Prop
 | nil:Z6 K H [] []
 | cons {a b c:Addr} {ns ms:List Int} {ys:List V} {ks:List dJ} (h1:SqT K H a [.ref b,.ref c]) (h2:SqT K H b (ns.map V.int)) (h3:SqT K H c (ms.map V.int)) (t:Z6 K H ys ks):Z6 K H (.ref a :: ys) ((ns,ms) :: ks)
theorem Z6.length{K:Pg}{H:Hp}{ys:List V}{ks:List dJ}(h:Z6 K H ys ks):ys.length=ks.length:=by
 induction h with
 | nil=>rfl
 | cons _ _ _ _ ih=>rw[Pp,Pp,ih]
theorem Z6.at{K:Pg}{H:Hp}{ys:List V}{ks:List dJ}(h:Z6 K H ys ks):∀{i:Nat},i<ys.length→∃ a b c,ys.getD i .non = .ref a∧SqT K H a [.ref b,.ref c]∧SqT K H b ((ks.getD i ([],[])).1.map V.int)∧SqT K H c ((ks.getD i ([],[])).2.map V.int):=by
 induction h with
 | nil=>intro i hi;exact absurd hi (by simp)
 | cons h1 h2 h3 t ih =>
  intro i hi
  cases i with
  | zero=>exact⟨_,_,_,rfl,h1,h2,h3⟩
  | succ i=>exact ih (by simpa using hi)
theorem bZ{ys:List V}{us:List Value}(r:j0 ys us):∀{i:Nat} {a:Addr},ys.getD i .non = .ref a→us.getD i Value.none = .ref a:=by
 induction r with
 | nil=>intro i a h;cases h
 | cons r t ih =>
  intro i a h
  cases i with
  | zero =>
   have h:_=V.ref a:=h
   subst h
   exact r
  | succ i=>exact ih h
theorem vR(I:Inv X pins σ H s){ys:List V}{ks:List dJ}(h:Z6 X.K H ys ks):∀{us:List Value},j0 ys us→∃ fs,PySem.W.KatTups s.heap us fs∧fs.length=us.length∧∀ v∈fs,∃ b o,v=Value.ref b∧s.heap.get? b=some o∧o.cls = .type "tuple" := by
 induction h with
 | nil=>intro us r;cases r;exact⟨[],trivial,rfl,fun v hv=>nomatch hv⟩
 | cons h1 h2 h3 t ih =>
  intro us r
  cases r with
  | cons r rl =>
   obtain rfl:=r
   obtain⟨fs,k1,k2,k3⟩:=ih rl
   obtain⟨its,rv,⟨o,e1,e2,n,e3⟩,_⟩:=I.tuple h1
   obtain⟨its2,rv2,⟨o2,g1,g2,n2,g3⟩,_⟩:=I.tuple h2
   obtain⟨u1,u2,e,r1,r2⟩:=j0.two rv
   obtain rfl:=r1
   obtain rfl:=r2
   subst e
   refine⟨_ :: fs,.cons e1 e2 e3 rfl k1,by rw[Pp,Pp,k2],fun v hv=>?_⟩
   rcases Pn.mp hv with rfl|hv
   ·exact⟨_,o2,rfl,g1,g2⟩
   ·exact k3 v hv
theorem rq(hu:X.A.units+64<cLine):A4 X (.builtin "sorted") (fun xs H Q=>∃(l:Addr) (ys:List V) (ks:List dJ),xs=[.ref l]∧SqL X.K H l ys∧Z6 X.K H ys ks∧2≤ys.length∧ys.length<64∧ks.Nodup ∧
  ∀ is:List Nat,is.Perm (QM ys.length)→(is.map fun i=>ks.getD i ([],[])).Pairwise (fun a b=>lt2 a b=true)→∀ p,H p=none→Q (.ref p) (upd H p (.lst (is.map fun i=>ys.getD i .non)))):=by
 intro pins s σ H xs us Q I rv h
 obtain⟨l,ys,ks,rfl,hl,hk,l2,l64,nd,q⟩:=h
 obtain⟨u,rfl,ru⟩:=j0.one rv
 obtain rfl:u=Value.ref l:=ru
 obtain⟨its,rl,isl,_⟩:=I.list hl
 obtain⟨m,F⟩:=I.fr
 obtain⟨ol,nl,hl1,hl2,_,hl3⟩:=isl
 have len:ys.length=its.length:=rl.length
 have klen:=hk.length
 refine PySem.W.kat_sorted (vs:=its) F (oV (g:=X.base)) ⟨ol,hl1,hl2,nl,hl3⟩ (by omega) (by omega) fun Dl e1 h1 F1 N1 lt1=>?_
 have keep:∀ c o,c≠X.env.locals→s.heap.get? c=some o→h1.get? c=some o:=fun c o n e=>by
  cases q:X.base.get? c with
  | some u =>
   have:=I.bk c u q
   rw[e]at this;cases this
   exact F1.keep c _ q
  | none=>exact(N1 (c,o) (.tail _ (F3 n q e))).1
 have nsOf:∀{h2:Heap},Fr X.base X.env.locals h2 m→∀ m',s.heap.Ns X.env.locals m'→h2.Ns X.env.locals m':=fun{h2} F2 m' hm=>by
  obtain⟨o1,es1,ep1,a1,a2,_,a4⟩:=hm
  obtain⟨o2,es2,ep2,b1,b2,_,b4⟩:=F.ns
  rw[a1]at b1;cases b1
  rw[a2]at b2;cases b2
  have:m'=m:=funext fun x=>(a4 x).symm.trans (b4 x)
  rw[this];exact F2.ns
 have I1:Inv X pins σ H { s with heap:=h1,toks:=s.toks }:=I.keptL keep (nsOf F1)
 obtain⟨fs,t1,t2,t3⟩:=vR I1 hk rl
 refine PySem.W.kat_kind (fs:=fs) (T:=.type "tuple") t1 (by omega) (fun v hv=>?_) rfl ?_
 ·obtain⟨b,o,rfl,g1,g2⟩:=t3 v hv
  have:PySem.W.Looks (model X.prog X.w) h1 (typeOf (.ref b)) o.cls:=(PySem.W.Looks.ld g1).andThen .now
  rw[g2]at this
  exact this
 have et:(Value.type "tuple" != Value.type "tuple")=false:=by rfl
 rw[et]
 have pk:∀{i j:Nat},i<ys.length→j<ys.length→i≠j→ks.getD i ([],[])≠ks.getD j ([],[]):=fun{i j} hi hj ne e=>by
  have hi':i<ks.length:=by omega
  have hj':j<ks.length:=by omega
  have e1:ks.getD i ([],[])=ks[i]:=by simp[hi']
  have e2:ks.getD j ([],[])=ks[j]:=by simp[hj']
  rw[e1,e2]at e
  exact ne ((Ul nd).mp e)
 have O:rO its.length (fun i j=>lt2 (ks.getD i ([],[])) (ks.getD j ([],[]))):=⟨fun i j k _ _ _ a b=>zy a b,fun i j hi hj ne e=>Dq (pk (by omega) (by omega) ne) e⟩
 refine Cf O (fun i j C hi hj hC=>?_) (by omega) fun p' hp hs=>?_
 ·obtain⟨a,b,c,ea,s1,s2,s3⟩:=hk.at (i:=i) (by omega)
  obtain⟨a',b',c',ea',s1',s2',s3'⟩:=hk.at (i:=j) (by omega)
  have w1:∀{x y z:Addr},SqT X.K H x [.ref y,.ref z]→∃ o n,h1.get? x=some o∧o.data = .seq #[.ref y,.ref z] n:=fun{x y z} hx=>by
   obtain⟨its,rv,⟨o,e1,e2,n,e3⟩,_⟩:=I1.tuple hx
   obtain⟨u1,u2,e,r1,r2⟩:=j0.two rv
   obtain rfl:=r1
   obtain rfl:=r2
   subst e
   exact⟨o,n,e1,e3⟩
  obtain⟨o1,n1,g1,d1⟩:=w1 s1
  obtain⟨o2,n2,g2,d2⟩:=w1 s1'
  have tp:∀{x:Addr} {ns:List Int},SqT X.K H x (ns.map V.int)→∃ us:List Value,IsTup h1 x us.toArray∧IntsAre us ns:=fun{x ns} hx=>by
   obtain⟨us,r,p,_⟩:=I1.tuple hx
   exact⟨us,p,gG r⟩
  obtain⟨ub,pb,ib⟩:=tp s2
  obtain⟨ub',pb',ib'⟩:=tp s2'
  obtain⟨uc,pc,ic⟩:=tp s3
  obtain⟨uc',pc',ic'⟩:=tp s3'
  have hu2:X.A.in1.in1.units<cLine:=by show X.A.units+1+1<cLine;omega
  obtain⟨e,he,hiff⟩:=uI (A:=X.A.in1.in1) (s:={ s with heap:=h1 }) pb pb' ib ib' hu2
  obtain⟨e',he',hiff'⟩:=uI (A:=X.A.in1.in1) (s:={ s with heap:=h1 }) pc pc' ic ic' hu2
  show wpAny (model X.prog X.w) X.A.in1.in1 (keyLt' (tuples' false) (its.getD i Value.none) (its.getD j Value.none)) C (fun _ _=>False) { s with heap:=h1 }
  rw[bZ rl ea,bZ rl ea']
  have hC:C (lt2 (ks.getD i ([],[])) (ks.getD j ([],[]))) { s with heap:=h1 }:=hC
  generalize ks.getD i ([],[])=k1 at *
  generalize ks.getD j ([],[])=k2 at *
  unfold lt2 at hC
  refine PySem.W.kat_lt g1 d1 g2 d2 (PySem.W.kat_cons (he _ _ _ _ ?_))
  cases e with
  | true =>
   rw[if_pos (hiff.mp rfl)]at hC
   refine PySem.W.kat_yes (PySem.W.kat_cons (he' _ _ _ _ ?_))
   cases e' with
   | true =>
    rw[hiff'.mp rfl,eN]at hC
    exact PySem.W.kat_yes (PySem.W.kat_nil hC)
   | false=>exact PySem.W.kat_no (PySem.W.kat_one _ _ (HT.gz pc pc' ic ic' hu2 hC))
  | false =>
   rw[if_neg (fun z=>by cases hiff.mpr z)]at hC
   exact PySem.W.kat_no (PySem.W.kat_one _ _ (HT.gz pb pb' ib ib' hu2 hC))
 ·have hD0:=N1 (Dl,seqObj "list" #[] e1) (.head _)
  have hDn:s.heap.get? Dl=none:=by
   cases e:s.heap.get? Dl with
   | none=>rfl
   | some u=>exact absurd (lt1 (Dl,u) (F3 hD0.2.1 hD0.2.2 e)) (QP _)
  refine PySem.W.KasFin.intro F1 N1 (.head fun p hp=>Qi (lt1 p hp)) fun h2 c2 F2 N2=>?_
  have keep2:∀ c o,c≠X.env.locals→s.heap.get? c=some o→h2.get? c=some o:=fun c o n e=>by
   cases q:X.base.get? c with
   | some u =>
    have:=I.bk c u q
    rw[e]at this;cases this
    exact F2.keep c _ q
   | none=>exact(N2 (c,o) (.tail _ (F3 n q e))).1
  have hD2:=N2 (Dl,PySem.W.listOf (Ti _) c2) (.head _)
  have pr:p'.toList.Perm (QM ys.length):=by
   rw[len];have:=Array.perm_iff_toList_perm.mp hp;simpa using this
  have rl':j0 (p'.toList.map fun i=>ys.getD i .non) (p'.toList.map fun i=>its.getD i Value.none):=by
   have hlt:∀ i∈p'.toList,i<ys.length:=fun i hi=>by simpa using pr.mem_iff.mp hi
   generalize p'.toList=is at hlt ⊢
   induction is with
   | nil=>exact .nil
   | cons i is ih =>
    refine .cons ?_ (ih fun j hj=>hlt j (.tail _ hj))
    obtain⟨a,b,c,ea,_⟩:=hk.at (hlt i (.head _))
    show p7 (ys.getD i V.non) (its.getD i Value.none)
    rw[ea,bZ rl ea]
    rfl
  have I2:Inv X pins σ (upd H Dl (.lst (p'.toList.map fun i=>ys.getD i .non))) { s with heap:=h2,toks:=s.toks }:=I.laidL keep2 (nsOf F2) hDn hD0.2.1 (fun _ z=>nomatch z) ⟨?_,_,c2,rl',hD2.1⟩
  ·refine⟨.ref Dl,_,I2,rfl,q p'.toList pr ?_ Dl ?_⟩
   ·rw[QJ,Rt]
    intro i j hi hj hij
    have sz:=hp.size
    have:=hs i j hij (by rw[Array.length_toList]at hj;omega)
    have g:∀{k:Nat} (hk:k<p'.toList.length),gA p' k=p'.toList[k]:=fun{k} hk=>Ac (by rw[← Array.getElem?_toList,PH hk])
    rw[g hi,g hj]at this
    exact this
   ·cases e:H Dl with
    | none=>rfl
    | some u=>obtain⟨x,hx⟩:=gv (I.hok Dl u e);rw[hDn]at hx;cases hx
  ·rw[Pj,pr.length_eq,QT]
   exact Pu (show ys.length≤1000 by omega) (by decide)
end
end L2
namespace DL
open PySem PySem.Spec L2 PyProof.Rows
structure AY(P:Program)(base:Heap):Prop where
 n:base.NoSeer
 t:P.given.tree=none
structure LDv(X:Cx):Prop where
 see:AY X.prog X.base
 rm:X.A.depth+Builtin.pylongFrames<recursionLimit
 st:X.stack=X.env :: X.outer
 g:X.env.scope.isGenerator=false
 c:X.env.scope.isCoroutine=false
def CNz(_ j:Int):Prop:=j≠0
theorem yX{X:Cx}(hp:LDv X):OpR X (binaryOp .FloorDiv) (rI CNz fun i j=>.int (i.fdiv j)):=by
 intro pins s σ H x y v u Q I rx ry h
 obtain⟨i,j,rfl,rfl,hc,q⟩:=h
 obtain⟨t,rfl⟩:=rx
 obtain⟨t',rfl⟩:=ry
 exact floordiv_int hc ⟨.int _,H,I.tok _,⟨_,rfl⟩,q⟩ (.inr (PylongRoom.of I.nolimit hp.rm (SeerAt.of (hp.see.n.keeps I.bk) hp.see.t (I.ok.frames.trans (congrArg some hp.st)) hp.g hp.c I.ok.blt I.ok.glob)))
theorem eK{X:Cx}(hp:LDv X):DOp X (binaryOp .FloorDiv) (gI CNz fun i j=>.int (i.fdiv j)):=pE (yX hp) fun _ _ _=>.int _
theorem ldv{P:Program}{w:World}{K:Pg}{mg:Str→Option Value}{base:Heap}{N ps:List Str}{x:Str}{sc:Scope}{f:Addr}{cdv:Value}{A:Around}{outer:List Env}{s:Shared}{H:Hp}{E:XK}{k:Nat}
  (S:AY P base) (hr:K1 k (A.deeper (envOfC x sc s.heap.objs.size f cdv))) (F:e9 N ps sc) (hk:32≤k:=by decide):LDv (pG CX0 P w K mg base N x sc f cdv A outer s H E).nox :=
 ⟨S,by
  have:=hr.dp
  show(A.deeper (envOfC x sc s.heap.objs.size f cdv)).depth+100<_
  omega,rfl,F.gen,F.co⟩
end DL
namespace GM
open PySem PySem.Spec L2 DL
open RM (sz)
noncomputable def iy(l:Rat × Rat × Rat)(y u:Rat):Bool:=decide (j9 (l.1*y+l.2.1*u)≤l.2.2)
noncomputable def o6(ls:List (Rat × Rat × Rat))(y u:Rat):Bool:=ls.all fun l=>iy l y u
structure LSz(n:Nat)(l:Rat × Rat × Rat):Prop where
 p:sz l.1≤n
 q:sz l.2.1≤n
 r:sz l.2.2≤n
noncomputable def Gv(p q y u:Rat):Int:=p.num*y.num*q.den*u.den+q.num*u.num*p.den*y.den
noncomputable def AO(p q y u:Rat):Int:=p.den*y.den*q.den*u.den
theorem bG{a b:Int}{m n:Nat}(h1:a.natAbs<2 ^ m)(h2:b.natAbs<2 ^ n):(a*b).natAbs<2 ^ (m+n):=by
 rw[Qn,QZ]
 exact QV h1 (Ri h2) (SN (by decide))
theorem cA{ls:List (Rat × Rat × Rat)}{i:Nat}{d:D}(h:(ls.map h7)[i]? = some d):∃ l,ls[i]? = some l∧d=h7 l:=by
 rw[PJ]at h
 cases e:ls[i]? with
 | none=>rw[e]at h;cases h
 | some l=>rw[e]at h;exact⟨l,rfl,(Option.some.inj h).symm⟩
structure AX(w:Rat):Prop where
 n:w.num.natAbs≤4
 d:w.den≤4
 ne:w≠0
theorem small_one:AX 1:=⟨by decide,by decide,by decide⟩
theorem AX.sz{w:Rat}(h:AX w):RM.sz w≤3:=by
 rw[← Sy w]
 exact aC (by decide) (by have:=h.n;omega) (by have:=h.d;omega) (RM.A6 w)
noncomputable def rD(r:Rat × Rat):D:=D5 r.1 r.2
theorem Ik:CD 90 1 0 0 0:=⟨1,0,0,0,1,by decide,by decide,⟨by decide,by decide,by decide,by decide⟩,by grind,by grind,by grind,by grind⟩
theorem Il:CD 90 0 0 1 0:=⟨0,0,1,0,1,by decide,by decide,⟨by decide,by decide,by decide,by decide⟩,by grind,by grind,by grind,by grind⟩
noncomputable def C8(bs:List (Str × Rat)):Nat→List (Rat × Rat × Rat)
 | 0=>[]
 | i+1=>C8 bs i++(match bs[i]? with|some x=>(if x.1 = "stop" then[((j7 (bs.take i) (1,0)).1,(j7 (bs.take i) (0,1)).1,x.2)]else[])|none=>[])
theorem vO{bs:List (Str × Rat)}{i:Nat}{x:Str × Rat}(h:bs[i]? = some x)(hx:x.1 = "stop"):C8 bs (i+1)=C8 bs i++[((j7 (bs.take i) (1,0)).1,(j7 (bs.take i) (0,1)).1,x.2)]:=by
 show C8 bs i++_=_
 rw[h];simp only[if_pos hx]
theorem zG{bs:List (Str × Rat)}{i:Nat}{x:Str × Rat}(h:bs[i]? = some x)(hx:¬ x.1 = "stop"):C8 bs (i+1)=C8 bs i:=by
 show C8 bs i++_=_
 rw[h];simp only[if_neg hx,Rp]
theorem Q0(bs:List (Str × Rat)):∀ i,(C8 bs i).length≤i
 | 0=>Py 0
 | i+1=>by
  have:=Q0 bs i
  show(C8 bs i++_).length≤i+1
  rw[PB]
  split
  ·split
   ·show _+1≤_;omega
   ·show _+0≤_;omega
  ·show _+0≤_;omega
theorem uq{bs:List (Str × Rat)}(hl:bs.length≤12)(hok:∀ x∈bs,B6 x):∀ i,∀ l∈C8 bs i,LSz 600 l
 | 0,l,h=>by cases h
 | i+1,l,h=>by
  rcases PL.mp h with h|h
  ·exact uq hl hok i l h
  ·cases e:bs[i]? with
   | none=>rw[e]at h;cases h
   | some x =>
    replace h:l∈(if x.1 = "stop" then[((j7 (bs.take i) (1,0)).1,(j7 (bs.take i) (0,1)).1,x.2)]else[]):=by rw[e]at h;exact h
    by_cases hx:x.1 = "stop"
    ·rw[if_pos hx]at h
     rw[PY.mp h]
     have c1:CD 90 1 0 0 0:=Ik
     have c2:CD 90 0 0 1 0:=Il
     have t1:=(P5 c1 hok i).t2
     have t2:=(P5 c2 hok i).t2
     have a1:=t1.y
     have a2:=t2.y
     have a3:=(hok x (Px e)).sz
     exact⟨by show sz (j7 (bs.take i) (1,0)).1≤600;omega,by show sz (j7 (bs.take i) (0,1)).1≤600;omega,by show sz x.2≤600;omega⟩
    ·rw[if_neg hx]at h;cases h
abbrev M8(bs:List (Str × Rat))(M:Mem)(R:DK)(Y:DXK):Prop:=(bs.length≤12∧∀ x∈bs,B6 x)∧R (.vl ((C8 bs bs.length).map h7)) M
def V6:DSp:=fun ds M R Y=>∃(x0:D) (bs:List (Str × Rat)),ds=[x0]∧(x0 = .vl (bs.map m8)∨x0 = .tup (bs.map m8))∧M8 bs M R Y
theorem eY{bs:List (Str × Rat)}{M:Mem}{R:DK}{Y:DXK}:V6 [.vl (bs.map m8)] M R Y=(M8 bs M R Y):=propext ⟨fun z=>by obtain⟨_,_,_,_,_⟩:=z;walk_at "injs",fun h=>⟨_,bs,rfl,.inl rfl,h⟩⟩
theorem aP{bs:List (Str × Rat)}{M:Mem}{R:DK}{Y:DXK}:V6 [.tup (bs.map m8)] M R Y=(M8 bs M R Y):=propext ⟨fun z=>by obtain⟨_,_,_,_,_⟩:=z;walk_at "injs",fun h=>⟨_,bs,rfl,.inr rfl,h⟩⟩
abbrev bc(bs:List (Str × Rat))(x:Rat)(M:Mem)(R:DK)(Y:DXK):Prop:=(bs.length≤12∧(∀ x∈bs,B6 x)∧sz x≤41)∧R (.vl ((C8 bs bs.length).map fun l=>h7 (l.1,l.1*x+l.2.1,l.2.2))) M
def og:DSp:=fun ds M R Y=>∃(x0:D) (bs:List (Str × Rat)) (x:Rat),ds=[x0,d8 x]∧(x0 = .vl (bs.map m8)∨x0 = .tup (bs.map m8))∧bc bs x M R Y
theorem rZ{bs:List (Str × Rat)}{x:Rat}{M:Mem}{R:DK}{Y:DXK}:og [.vl (bs.map m8),d8 x] M R Y=(bc bs x M R Y):=propext ⟨fun z=>by obtain⟨_,_,_,_,_,_⟩:=z;walk_at "injs",fun h=>⟨_,bs,x,rfl,.inl rfl,h⟩⟩
theorem iE{bs:List (Str × Rat)}{x:Rat}{M:Mem}{R:DK}{Y:DXK}:og [.tup (bs.map m8),d8 x] M R Y=(bc bs x M R Y):=propext ⟨fun z=>by obtain⟨_,_,_,_,_,_⟩:=z;walk_at "injs",fun h=>⟨_,bs,x,rfl,.inr rfl,h⟩⟩
noncomputable def K3(l:Rat × Rat × Rat)(h:Rat):Rat:=-(l.1*h / l.2.1)
noncomputable def D3(l:Rat × Rat × Rat):Rat:=j9 (l.2.2 / l.2.1)
noncomputable def stp(st:Option (Rat × Rat))(a b:Rat):Option (Rat × Rat):=some (match st with|none=>(a,b)|some (l,h)=>(if l<a then a else l,if b<h then b else h))
noncomputable def B9(g:Rat):List (Rat × Rat × Rat)→Option (Rat × Rat)→Option (Option (Rat × Rat))
 | [],st=>some st
 | l :: r,st=>if l.2.1=0 then(if l.2.2<j9 (l.1*g)then none else B9 g r st)else B9 g r (stp st (K3 l g - D3 l) (K3 l g+D3 l))
theorem wc{g:Rat}{st:Option (Rat × Rat)}:B9 g [] st=some st:=rfl
theorem S5{g:Rat}{l:Rat × Rat × Rat}{r:List (Rat × Rat × Rat)}{st:Option (Rat × Rat)}:B9 g (l :: r) st=if l.2.1=0 then(if l.2.2<j9 (l.1*g)then none else B9 g r st)else B9 g r (stp st (K3 l g - D3 l) (K3 l g+D3 l)):=rfl
theorem Kz{neg:Bool}{M:Mem}{R:DK}:gIs neg .non .non M R=R (.bl (neg.xor true)) M:=T6 rfl
theorem Kx{neg:Bool}{q:Rat}{M:Mem}{R:DK}:gIs neg (d8 q) .non M R=R (.bl (neg.xor false)) M:=T6 rfl
noncomputable def vH:Option Rat→D
 | none=>.non
 | some q=>d8 q
noncomputable def pN:Option (Option (Rat × Rat))→D
 | none=>.non
 | some none=>.tup [.non,.non]
 | some (some (l,h))=>if h<l then .non else .tup [d8 l,d8 h]
noncomputable def B2(bs:List (Str × Rat))(x:Rat):List (Rat × Rat × Rat):=(C8 bs bs.length).map fun l=>(l.1,l.1*x+l.2.1,l.2.2)
theorem cj(bs:List (Str × Rat))(x:Rat):(B2 bs x).length≤bs.length:=by
 unfold B2;rw[Pj];exact Q0 bs bs.length
noncomputable def oY(l:Nat × Rat × Rat × Rat):D:=.tup [.int (l.1:Int),d8 l.2.1,d8 l.2.2.1,d8 l.2.2.2]
abbrev P9(bs:List (Str × Rat))(M:Mem)(R:DK)(Y:DXK):Prop:=(bs.length≤12∧∀ x∈bs,B6 x)∧R (LJ bs) M
def dW:DSp:=fun ds M R Y=>∃(x0:D) (bs:List (Str × Rat)),ds=[x0]∧(x0 = .vl (bs.map m8)∨x0 = .tup (bs.map m8))∧P9 bs M R Y
theorem iC{bs:List (Str × Rat)}{M:Mem}{R:DK}{Y:DXK}:dW [.vl (bs.map m8)] M R Y=(P9 bs M R Y):=propext ⟨fun z=>by obtain⟨_,_,_,_,_⟩:=z;walk_at "injs",fun h=>⟨_,bs,rfl,.inl rfl,h⟩⟩
theorem cQ{bs:List (Str × Rat)}{M:Mem}{R:DK}{Y:DXK}:dW [.tup (bs.map m8)] M R Y=(P9 bs M R Y):=propext ⟨fun z=>by obtain⟨_,_,_,_,_⟩:=z;walk_at "injs",fun h=>⟨_,bs,rfl,.inr rfl,h⟩⟩
end GM
namespace DL
open PySem PySem.Spec L2
open PyProof.Rows hiding St
section
variable {X:Cx} {name:Str} {id:String} {o:Expr} {to:DTE} {apos cpos:Pos}
end
section
variable {e:Ev} {M:Mem} {R:DK} {to:DTE}
end
end DL
namespace GM
noncomputable abbrev T3:=Rat × Rat × Rat
noncomputable def ve(a b:T3):Rat:=a.1*b.2.1 - a.2.1*b.1
noncomputable def tn(a b c:T3):Rat:=a.2.2*ve b c - b.2.2*ve a c+c.2.2*ve a b
noncomputable def dt(a:T3)(z:Rat × Rat):Rat:=a.1*z.1+a.2.1*z.2
noncomputable def ry(a b:T3):Rat × Rat:=((a.2.2*b.2.1 - b.2.2*a.2.1) / ve a b,(a.1*b.2.2 - b.1*a.2.2) / ve a b)
noncomputable def ng(a:T3):T3:=(-a.1,-a.2.1,a.2.2)
noncomputable def ngZ(z:Rat × Rat):Rat × Rat:=(-z.1,-z.2)
def Sup(ss:List T3)(z:Rat × Rat):Prop:=∀ s∈ss,dt s z≤s.2.2
structure IK(ss:List T3)(a b:T3):Prop where
 ve:0<ve a b
 mem:b∈ss
 hull:∀ s∈ss,0<GM.ve a s→0≤tn a b s
theorem jk{a b:T3}(h:ve a b≠0):ve a b*(ry a b).1=a.2.2*b.2.1 - b.2.2*a.2.1∧ve a b*(ry a b).2=a.1*b.2.2 - b.1*a.2.2:=by
 unfold ry
 constructor
 ·show ve a b*((a.2.2*b.2.1 - b.2.2*a.2.1) / ve a b)=_
  rw[RD,Qk h]
 ·show ve a b*((a.1*b.2.2 - b.1*a.2.2) / ve a b)=_
  rw[RD,Qk h]
theorem t6{x:Rat}(h:0<x):x≠0:=by grind
theorem G0{x:Rat}(h:0<x):0≤x:=by grind
theorem tot(x y:Rat):x≤y∨y≤x:=by grind
theorem J8{v x y:Rat}(hv:v≠0)(h:v*x=v*y):x=y:=by grind
theorem oj{a b:T3}(h:ve a b≠0)(s:T3):ve a b*(s.2.2 - dt s (ry a b))=tn a b s:=by
 obtain⟨e1,e2⟩:=jk h
 unfold dt tn
 have:ve a b*(s.2.2 - (s.1*(ry a b).1+s.2.1*(ry a b).2))=ve a b*s.2.2 - s.1*(ve a b*(ry a b).1) - s.2.1*(ve a b*(ry a b).2):=by grind
 rw[this,e1,e2]
 unfold ve
 grind
theorem dq{a b:T3}(h:ve a b≠0):dt a (ry a b)=a.2.2:=by
 have:=oj h a
 have e:tn a b a=0:=by unfold tn ve;grind
 rw[e]at this
 grind
theorem cw{a b:T3}(h:ve a b≠0):dt b (ry a b)=b.2.2:=by
 have:=oj h b
 have e:tn a b b=0:=by unfold tn ve;grind
 rw[e]at this
 grind
theorem eI{a b:T3}{z:Rat × Rat}(h:ve a b≠0)(h1:dt a z=a.2.2)(h2:dt b z=b.2.2):z=ry a b:=by
 obtain⟨e1,e2⟩:=jk h
 have z1:ve a b*z.1=ve a b*(ry a b).1:=by
  rw[e1,← h1,← h2];unfold ve dt;grind
 have z2:ve a b*z.2=ve a b*(ry a b).2:=by
  rw[e2,← h1,← h2];unfold ve dt;grind
 exact Prod.ext (J8 h z1) (J8 h z2)
theorem jj(a b:T3):ry (ng a) (ng b)=ngZ (ry a b):=by
 have e:ve (ng a) (ng b)=ve a b:=by unfold ve ng;grind
 unfold ry ngZ
 rw[e]
 show((a.2.2*(-b.2.1) - b.2.2*(-a.2.1)) / ve a b,((-a.1)*b.2.2 - (-b.1)*a.2.2) / ve a b)=_
 exact Prod.ext (by show _ / _ = -(_ / _);grind) (by show _ / _ = -(_ / _);grind)
theorem Fh(a b s:T3)(z:Rat × Rat):tn a b s=(a.2.2 - dt a z)*ve b s - (b.2.2 - dt b z)*ve a s+(s.2.2 - dt s z)*ve a b:=by
 unfold tn ve dt;grind
theorem j6{v x:Rat}(hv:0<v)(h:0≤v*x):0≤x:=by
 rcases tot 0 x with z|z
 ·exact z
 ·by_cases e:x=0
  ·grind
  ·have:0<v * -x:=Qt hv (by grind)
   grind
theorem GA{a b:T3}{ss:List T3}(h:0<ve a b)(ht:∀ s∈ss,0≤tn a b s):Sup ss (ry a b):=fun s hs=>by
 have:=oj (t6 h) s
 have h2:=ht s hs
 rw[← this]at h2
 have:=j6 h h2
 grind
theorem nJ{ss:List T3}{a b:T3}{z:Rat × Rat}(hz:Sup ss z)(ha:dt a z=a.2.2)(e:IK ss a b):Sup ss (ry a b):=by
 refine GA e.ve fun s hs=>?_
 by_cases h:0<ve a s
 ·exact e.hull s hs h
 ·rw[Fh a b s z,ha]
  have h1:0≤(b.2.2 - dt b z)*(-ve a s):=Pq (by have:=hz b e.mem;grind) (by grind)
  have h2:0≤(s.2.2 - dt s z)*ve a b:=Pq (by have:=hz s hs;grind) (by have:=e.ve;grind)
  grind
theorem Z9{ss:List T3}(sy:∀ s∈ss,ng s∈ss){z:Rat × Rat}(h:Sup ss z):Sup ss (ngZ z):=fun s hs=>by
 have:=h _ (sy s hs)
 have e:dt (ng s) z=dt s (ngZ z):=by unfold dt ng ngZ;grind
 rw[← e];exact this
theorem J5{a b w:T3}(h:0<ve a b)(z:Rat × Rat):ve a b*dt w z=ve w b*dt a z+ve a w*dt b z:=by
 unfold ve dt;grind
theorem qh{w:T3}:∀(x:T3) (l:List T3) (y:T3),0≤ve x w→0<ve w y→∃ ab∈(x :: l).zip (l++[y]),0≤ve ab.1 w∧0<ve w ab.2
 | x,[],y,h1,h2=>⟨(x,y),Po,h1,h2⟩
 | x,x' :: l,y,h1,h2=>by
  by_cases h:0<ve w x'
  ·exact⟨(x,x'),Po,h1,h⟩
  ·have e:ve x' w = -ve w x':=by unfold ve;grind
   obtain⟨ab,hm,q⟩:=qh x' l y (by rw[e];grind) h2
   exact⟨ab,Pk _ hm,q⟩
structure Rim(ss:List T3)(h0:T3)(l:List T3):Prop where
 ne:l≠[]
 sy:∀ s∈ss,ng s∈ss
 pos:∀ s∈ss,0<s.2.2
 all:∀ ab∈(h0 :: l).zip (l++[ng h0]),ab.1∈ss∧ab.2∈ss∧0<ve ab.1 ab.2∧Sup ss (ry ab.1 ab.2)
noncomputable def dF(h0:T3)(l:List T3):List (T3 × T3):=(h0 :: l).zip (l++[ng h0])
noncomputable def S4(h0:T3)(l:List T3):List (Rat × Rat):=(dF h0 l).map (fun ab=>ry ab.1 ab.2)++(dF h0 l).map (fun ab=>ngZ (ry ab.1 ab.2))
theorem F6{α β:Type}(f:α→β):∀(l m:List α),(l.map f).zip (m.map f)=(l.zip m).map fun p=>(f p.1,f p.2)
 | [],_=>rfl
 | _ :: _,[]=>rfl
 | a :: l,b :: m=>by rw[Qc,Qc,RH,F6 f l m];rfl
theorem zu(a:T3):ng (ng a)=a:=by
 obtain⟨p,q,r⟩:=a
 unfold ng
 show(- -p,- -q,r)=(p,q,r)
 rw[SO,SO]
theorem Rim.around{ss:List T3}{h0:T3}{l:List T3}(R:Rim ss h0 l)(w:T3)(hw:¬ (w.1=0∧w.2.1=0)) :
  ∃ a b,a∈ss∧b∈ss∧0<ve a b∧Sup ss (ry a b)∧ry a b∈S4 h0 l∧0≤ve a w∧0<ve w b:=by
 have fromE:∀ ab∈dF h0 l,0≤ve ab.1 w→0<ve w ab.2→∃ a b,a∈ss∧b∈ss∧0<ve a b∧Sup ss (ry a b)∧ry a b∈S4 h0 l∧0≤ve a w∧0<ve w b:=fun ab hm h1 h2=>by
  obtain⟨q1,q2,q3,q4⟩:=R.all ab hm
  exact⟨ab.1,ab.2,q1,q2,q3,q4,QF _ (Pm.mpr ⟨ab,hm,rfl⟩),h1,h2⟩
 have fromN:∀ ab∈dF h0 l,0≤ve (ng ab.1) w→0<ve w (ng ab.2)→∃ a b,a∈ss∧b∈ss∧0<ve a b∧Sup ss (ry a b)∧ry a b∈S4 h0 l∧0≤ve a w∧0<ve w b:=fun ab hm h1 h2=>by
  obtain⟨q1,q2,q3,q4⟩:=R.all ab hm
  refine⟨ng ab.1,ng ab.2,R.sy _ q1,R.sy _ q2,?_,?_,?_,h1,h2⟩
  ·have:ve (ng ab.1) (ng ab.2)=ve ab.1 ab.2:=by unfold ve ng;grind
   rw[this];exact q3
  ·rw[jj];exact Z9 R.sy q4
  ·rw[jj];exact PN _ (Pm.mpr ⟨ab,hm,rfl⟩)
 have e0:ve w (ng h0)=ve h0 w:=by unfold ve ng;grind
 have e1:ve (ng h0) w = -ve h0 w:=by unfold ve ng;grind
 by_cases c1:0<ve h0 w
 ·obtain⟨ab,hm,k1,k2⟩:=qh h0 l (ng h0) (G0 c1) (by rw[e0];exact c1)
  exact fromE ab hm k1 k2
 by_cases c2:ve h0 w<0
 ·have e2:ve w h0 = -ve h0 w:=by unfold ve;grind
  obtain⟨ab,hm,k1,k2⟩:=qh (w:=w) (ng h0) (l.map ng) h0 (by rw[e1];clear fromE fromN;grind) (by rw[e2];clear fromE fromN;grind)
  have em:ab∈((h0 :: l).map ng).zip ((l++[ng h0]).map ng):=by
   rw[PQ,Qc,Qc,QS,zu];exact hm
  rw[F6]at em
  obtain⟨cd,hcd,rfl⟩:=Pm.mp em
  exact fromN cd hcd k1 k2
 ·have c0:ve h0 w=0:=by clear fromE fromN;grind
  cases l with
  | nil=>exact absurd rfl R.ne
  | cons x l =>
   have hm:(h0,x)∈dF h0 (x :: l):=Po
   obtain⟨q1,q2,q3,q4⟩:=R.all _ hm
   have q3:0<ve h0 x:=q3
   by_cases k:0<ve w x
   ·exact fromE _ hm (by show 0≤ve h0 w;rw[c0];exact Qe) k
   ·refine fromN _ hm (by show 0≤ve (ng h0) w;rw[e1,c0];exact Qe) ?_
    show 0<ve w (ng x)
    have ex:ve w (ng x) = -ve w x:=by unfold ve ng;grind
    rw[ex]
    clear fromE fromN
    have hne:ve w x≠0:=fun z=>hw (by
     unfold ve at c0 z q3
     have i1:w.1*(h0.1*x.2.1 - h0.2.1*x.1)=0:=by
      have:w.1*(h0.1*x.2.1 - h0.2.1*x.1)=h0.1*(w.1*x.2.1 - w.2.1*x.1)+x.1*(h0.1*w.2.1 - h0.2.1*w.1):=by grind
      rw[this,z,c0];grind
     have i2:w.2.1*(h0.1*x.2.1 - h0.2.1*x.1)=0:=by
      have:w.2.1*(h0.1*x.2.1 - h0.2.1*x.1)=h0.2.1*(w.1*x.2.1 - w.2.1*x.1)+x.2.1*(h0.1*w.2.1 - h0.2.1*w.1):=by grind
      rw[this,z,c0];grind
     have hv:h0.1*x.2.1 - h0.2.1*x.1≠0:=by grind
     exact⟨by grind,by grind⟩)
    grind
theorem Rim.most{ss:List T3}{h0:T3}{l:List T3}(R:Rim ss h0 l)(w:T3)(hw:¬ (w.1=0∧w.2.1=0)):∃ c∈S4 h0 l,Sup ss c∧∀ z,Sup ss z→dt w z≤dt w c:=by
 obtain⟨a,b,ha,hb,hv,hs,hc,k1,k2⟩:=R.around w hw
 refine⟨_,hc,hs,fun z hz=>?_⟩
 have e1:=J5 (w:=w) hv z
 have e2:=J5 (w:=w) hv (ry a b)
 rw[dq (t6 hv),cw (t6 hv)]at e2
 have h1:0≤ve w b*(a.2.2 - dt a z):=Pq (G0 k2) (by have:=hz a ha;grind)
 have h2:0≤ve a w*(b.2.2 - dt b z):=Pq k1 (by have:=hz b hb;grind)
 have h3:0≤ve a b*(dt w (ry a b) - dt w z):=by grind
 have:=j6 hv h3
 grind
theorem Rim.corner{ss:List T3}{h0:T3}{l:List T3}(R:Rim ss h0 l){s t:T3}{z:Rat × Rat}(hz:Sup ss z)(hs:s∈ss)(ht:t∈ss)(hv:0<ve s t)(es:dt s z=s.2.2)(et:dt t z=t.2.2):z∈S4 h0 l:=by
 have hw:¬ (s.1=0∧s.2.1=0):=fun⟨q1,q2⟩=>by
  unfold ve at hv
  rw[q1,q2]at hv
  grind
 obtain⟨a,b,ha,hb,hab,hsup,hc,k1,k2⟩:=R.around s hw
 have e1:=J5 (w:=s) hab z
 have e2:=J5 (w:=s) hab (ry a b)
 rw[dq (t6 hab),cw (t6 hab)]at e2
 have za:=hz a ha
 have zb:=hz b hb
 have zs:=hsup s hs
 have h1:0≤ve s b*(a.2.2 - dt a z):=Pq (G0 k2) (by grind)
 have h2:0≤ve a s*(b.2.2 - dt b z):=Pq k1 (by grind)
 have h3:0≤ve a b*(s.2.2 - dt s (ry a b)):=Pq (by grind) (by grind)
 rw[es]at e1
 have s1:ve s b*(a.2.2 - dt a z)=0:=by grind
 have s2:ve a s*(b.2.2 - dt b z)=0:=by grind
 have ta:dt a z=a.2.2:=by grind
 have fin:dt b z=b.2.2→z∈S4 h0 l:=fun tb=>by rw[eI (t6 hab) ta tb];exact hc
 by_cases c:ve a s=0
 ·
  have hat:0<ve a t:=by
   have i:ve a b*ve s t=ve s b*ve a t - ve t b*ve a s:=by unfold ve;grind
   rw[c]at i
   have p1:0<ve a b*ve s t:=Qt hab hv
   have p2:0<ve s b*ve a t:=by grind
   rcases tot 0 (ve a t)with z|z
   ·by_cases e:ve a t=0
    ·rw[e]at p2;grind
    ·grind
   ·have:0≤ve s b*(-ve a t):=Pq (by grind) (by grind)
    grind
  have h5:0≤tn a b t:=by
   rw[← oj (t6 hab) t]
   exact Pq (by grind) (by have:=hsup t ht;grind)
  rw[Fh a b t z,ta,et]at h5
  have h6:0≤ve a t * -(b.2.2 - dt b z):=by grind
  have:=j6 hat h6
  exact fin (by grind)
 ·exact fin (by grind)
theorem FQ{ss:List T3}{h0 hm f:T3}{z0 z:Rat × Rat}(sy:∀ s∈ss,ng s∈ss)(m0:h0∈ss)(mm:hm∈ss)(s0:Sup ss z0)(t0:dt h0 z0=h0.2.2)(sz:Sup ss z)(tz:dt hm z=hm.2.2)(e:IK ss hm f)(h1:0<ve h0 hm)(h2:ve h0 f≤0) :
  Sup ss (ry hm (ng h0)):=by
 have sf:=nJ sz tz e
 have v1:0<ve hm (ng h0):=by
  have:ve hm (ng h0)=ve h0 hm:=by unfold ve ng;grind
  rw[this];exact h1
 have v2:0≤ve (ng h0) f:=by
  have:ve (ng h0) f = -ve h0 f:=by unfold ve ng;grind
  rw[this];grind
 have tf:=dq (a:=hm) (b:=f) (t6 e.ve)
 have tg:=cw (a:=hm) (b:=f) (t6 e.ve)
 have e1:=J5 (w:=ng h0) e.ve (ngZ z0)
 have e2:=J5 (w:=ng h0) e.ve (ry hm f)
 rw[tf,tg]at e2
 have sn:=Z9 sy s0
 have q1:=sn hm mm
 have q2:=sn f e.mem
 have g0:dt (ng h0) (ngZ z0)=(ng h0).2.2:=by
  have:dt (ng h0) (ngZ z0)=dt h0 z0:=by unfold dt ng ngZ;grind
  rw[this,t0];rfl
 rw[g0]at e1
 have q3:=sf (ng h0) (sy h0 m0)
 have p1:0≤ve (ng h0) f*(hm.2.2 - dt hm (ngZ z0)):=Pq v2 (by grind)
 have p2:0≤ve hm (ng h0)*(f.2.2 - dt f (ngZ z0)):=Pq (by grind) (by grind)
 have p3:0≤ve hm f*(dt (ng h0) (ry hm f) - (ng h0).2.2):=by grind
 have p4:=j6 e.ve p3
 have t3:dt (ng h0) (ry hm f)=(ng h0).2.2:=by grind
 rw[← eI (a:=hm) (b:=ng h0) (t6 v1) tf t3]
 exact sf
end GM
namespace GM
open PySem PySem.Spec L2 DL
open RM (sz)
noncomputable abbrev Sd:=Int × Int × Int × Int × Int
noncomputable def sdD(s:Sd):D:=.tup [.int s.1,.int s.2.1,.int s.2.2.1,.int s.2.2.2.1,.int s.2.2.2.2]
noncomputable def tri(s:Sd):T3:=((s.1:Rat),(s.2.1:Rat),(s.2.2.1:Rat))
noncomputable def veZ(a b:Sd):Int:=a.1*b.2.1 - a.2.1*b.1
noncomputable def tnZ(a b c:Sd):Int:=a.2.2.1*veZ b c - b.2.2.1*veZ a c+c.2.2.1*veZ a b
noncomputable def g6(s:Sd):Sd:=(-s.1,-s.2.1,s.2.2.1,s.2.2.2.1,-s.2.2.2.2)
noncomputable def G2(a b:Sd):Bool:=if a.1*b.2.2.1 - b.1*a.2.2.1=0 then decide (0<a.2.1*b.2.2.1 - b.2.1*a.2.2.1)else decide (0<a.1*b.2.2.1 - b.1*a.2.2.1)
noncomputable def A9(ss:List Sd)(f:Sd):Sd:=ss.foldl (fun f s=>if G2 s f=true then s else f) f
noncomputable def DW(h:Sd)(f:Option Sd)(s:Sd):Bool:=match f with
 | none=>true
 | some g=>decide (tnZ h g s<0) || (decide (tnZ h g s=0) && decide (0<veZ g s))
noncomputable def S0(h:Sd)(f:Option Sd)(s:Sd):Option Sd:=if 0<veZ h s then(if DW h f s=true then some s else f)else f
noncomputable def C9(h:Sd)(ss:List Sd):Option Sd:=ss.foldl (S0 h) none
noncomputable def G7(h0:Sd)(ss:List Sd):Nat→Option Sd→List Sd
 | 0,_=>[]
 | _+1,none=>[]
 | k+1,some h=>if 0<veZ h0 h then h :: G7 h0 ss k (C9 h ss)else[]
noncomputable def v9:List Sd→List Sd
 | []=>[]
 | s :: r=>A9 (s :: r) s :: G7 (A9 (s :: r) s) (s :: r) (s :: r).length (C9 (A9 (s :: r) s) (s :: r))
theorem y7(a b:Sd):ve (tri a) (tri b)=(veZ a b:Rat):=by
 unfold ve tri veZ
 rw[Rf,PF,PF]
theorem jV(a b c:Sd):tn (tri a) (tri b) (tri c)=(tnZ a b c:Rat):=by
 unfold tn tnZ
 rw[y7,y7,y7,RN,Rf,PF,PF,PF]
 rfl
theorem u5{n:Int}:(0:Rat)<(n:Rat)↔0<n:=by
 have:=Rat.intCast_lt_intCast (a:=0) (b:=n)
 rw[← this];rfl
theorem pS{n:Int}:(0:Rat)≤(n:Rat)↔0≤n:=by
 have:=Ta (a:=0) (b:=n)
 rw[← this];rfl
theorem v7(s:Sd):tri (g6 s)=ng (tri s):=by
 unfold tri g6 ng
 rw[RK,RK]
theorem aB{a b:Int}(ha:0<a)(h:0≤a*b):0≤b:=by
 rcases Tn b 0 with z|z
 ·have:=Int.mul_lt_mul_of_pos_left z ha
  omega
 ·exact z
theorem oW{a b:Int}(ha:0<a)(h:0<a*b):0<b:=by
 rcases Tn 0 b with z|z
 ·exact z
 ·have:=Int.mul_le_mul_of_nonneg_left z (Ui ha)
  omega
theorem plu(h g s t:Sd):veZ h g*tnZ h s t=veZ h s*tnZ h g t - veZ h t*tnZ h g s:=by unfold tnZ veZ;grind
theorem Mc(h g s t:Sd):veZ h g*tnZ g s t=tnZ h g s*veZ t g - tnZ h g t*veZ s g:=by unfold tnZ veZ;grind
theorem Mb(o h g s:Sd):veZ o g*veZ h s=veZ o h*veZ g s+veZ o s*veZ h g:=by unfold veZ;grind
structure AZ(h:Sd)(pre:List Sd)(f:Option Sd):Prop where
 no:f=none→∀ s∈pre,¬ 0<veZ h s
 yes:∀ g,f=some g→g∈pre∧0<veZ h g∧∀ s∈pre,0<veZ h s→0≤tnZ h g s∧(tnZ h g s=0→veZ g s≤0)
theorem zq{h:Sd}{pre:List Sd}{f:Option Sd}{s:Sd}(hp:∀ s∈pre,0<s.2.2.1)(hs:0<s.2.2.1)(I:AZ h pre f):AZ h (pre++[s]) (S0 h f s):=by
 unfold S0
 by_cases c:0<veZ h s
 ·rw[if_pos c]
  by_cases b:DW h f s=true
  ·rw[if_pos b]
   refine⟨fun z=>(by cases z),fun g e=>?_⟩
   cases e
   refine⟨by simp,c,fun t ht hv=>?_⟩
   have self:tnZ h s s=0∧veZ s s=0:=by unfold tnZ veZ;grind
   rcases PL.mp ht with ht|ht
   ·cases f with
    | none=>exact absurd hv (I.no rfl t ht)
    | some g =>
     obtain⟨g1,g2,g3⟩:=I.yes g rfl
     obtain⟨k1,k2⟩:=g3 t ht hv
     have b':tnZ h g s<0∨(tnZ h g s=0∧0<veZ g s):=by
      have b:(decide (tnZ h g s<0) || (decide (tnZ h g s=0) && decide (0<veZ g s)))=true:=b
      simpa using b
     have pl:=plu h g s t
     have n1:0≤veZ h s*tnZ h g t:=Ru (by omega) k1
     have n2:0≤veZ h t * -tnZ h g s:=Ru (by omega) (by omega)
     rw[TB]at n2
     refine⟨aB g2 (by omega),fun z=>?_⟩
     rw[z,Uj]at pl
     have m1:veZ h s*tnZ h g t=0:=by omega
     have m2:veZ h t*tnZ h g s=0:=by omega
     have e1:tnZ h g t=0:=(RO.mp m1).resolve_left (by omega)
     have e2:tnZ h g s=0:=(RO.mp m2).resolve_left (by omega)
     have gs:0<veZ g s:=by omega
     have gt:=k2 e1
     have p2:=Mc h g s t
     rw[e1,e2,To,To]at p2
     have e3:tnZ g s t=0:=(RO.mp (by omega:veZ h g*tnZ g s t=0)).resolve_left (by omega)
     have e4:g.2.2.1*veZ s t - s.2.2.1*veZ g t+t.2.2.1*veZ g s=0:=e3
     have rg:=hp g g1
     have rt:=hp t ht
     have q1:0≤s.2.2.1 * -veZ g t:=Ru (by omega) (by omega)
     have q2:0≤t.2.2.1*veZ g s:=Ru (by omega) (by omega)
     rw[TB]at q1
     have q3:0≤g.2.2.1 * -veZ s t:=by rw[TB];omega
     have:=aB rg q3
     omega
   ·rw[PY.mp ht,self.1,self.2]
    exact⟨Int.le_refl _,fun _=>Int.le_refl _⟩
  ·rw[if_neg b]
   cases f with
   | none=>exact absurd rfl b
   | some g =>
    obtain⟨g1,g2,g3⟩:=I.yes g rfl
    refine⟨fun z=>(by cases z),fun g' e=>?_⟩
    cases e
    refine⟨QF _ g1,g2,fun t ht hv=>?_⟩
    rcases PL.mp ht with ht|ht
    ·exact g3 t ht hv
    ·rw[PY.mp ht]
     have b':¬ (tnZ h g s<0∨(tnZ h g s=0∧0<veZ g s)):=by
      intro z
      apply b
      show(decide (tnZ h g s<0) || (decide (tnZ h g s=0) && decide (0<veZ g s)))=true
      simpa using z
     exact⟨by omega,fun z=>by omega⟩
 ·rw[if_neg c]
  refine⟨fun z t ht=>?_,fun g e=>?_⟩
  ·rcases PL.mp ht with ht|ht
   ·exact I.no z t ht
   ·rw[PY.mp ht];exact c
  ·obtain⟨g1,g2,g3⟩:=I.yes g e
   refine⟨QF _ g1,g2,fun t ht hv=>?_⟩
   rcases PL.mp ht with ht|ht
   ·exact g3 t ht hv
   ·rw[PY.mp ht]at hv;exact absurd hv c
theorem oT{h:Sd}:∀(l pre:List Sd) (f:Option Sd),(∀ s∈pre,0<s.2.2.1)→(∀ s∈l,0<s.2.2.1)→AZ h pre f→AZ h (pre++l) (l.foldl (S0 h) f)
 | [],pre,f,_,_,I=>by rw[Rp];exact I
 | s :: l,pre,f,h1,h2,I=>by
  have h3:=h2 s Po
  have:=oT l (pre++[s]) (S0 h f s) (fun t ht=>by
   rcases PL.mp ht with ht|ht
   ·exact h1 t ht
   ·rw[PY.mp ht];exact h3) (fun t ht=>h2 t (Pk _ ht)) (zq h1 h3 I)
  rwa [SH]at this
theorem bF{h:Sd}{ss:List Sd}(hp:∀ s∈ss,0<s.2.2.1):AZ h ss (C9 h ss):=by
 have:=oT (h:=h) ss [] none (fun _ z=>nomatch z) hp ⟨fun _ _ z=>(nomatch z),fun _ z=>(nomatch z)⟩
 rwa [Ux]at this
theorem L7{h f:Sd}{ss:List Sd}(hp:∀ s∈ss,0<s.2.2.1)(e:C9 h ss=some f):f∈ss∧0<veZ h f∧IK (ss.map tri) (tri h) (tri f):=by
 obtain⟨h1,h2,h3⟩:=(bF hp).yes f e
 refine⟨h1,h2,by rw[y7];exact u5.mpr h2,Pm.mpr ⟨f,h1,rfl⟩,fun s hs hv=>?_⟩
 obtain⟨t,ht,rfl⟩:=Pm.mp hs
 rw[y7]at hv
 rw[jV]
 exact pS.mpr (h3 t ht (u5.mp hv)).1
theorem bD:∀(ss:List Sd) (f:Sd),A9 ss f=f∨A9 ss f∈ss
 | [],f=>.inl rfl
 | s :: r,f=>by
  show A9 r (if G2 s f=true then s else f)=f∨_
  rcases bD r (if G2 s f=true then s else f)with h|h
  ·rw[h]
   split
   ·rename_i c;right;show A9 r (if G2 s f=true then s else f)∈_;rw[h,if_pos c];exact Po
   ·exact .inl rfl
  ·exact .inr (Pk _ h)
theorem Dw{s f:Sd}(h:G2 s f=true):f.1*s.2.2.1≤s.1*f.2.2.1:=by
 unfold G2 at h
 split at h
 ·omega
 ·have:=of_decide_eq_true h;omega
theorem Dx{s f:Sd}(h:¬ G2 s f=true):s.1*f.2.2.1≤f.1*s.2.2.1:=by
 unfold G2 at h
 split at h
 ·omega
 ·have:¬ 0<s.1*f.2.2.1 - f.1*s.2.2.1:=fun z=>h (decide_eq_true z)
  omega
theorem Ku{a b c x y z:Int}(hy:0<y)(hx:0<x)(hz:0<z)(h1:a*y≤b*x)(h2:b*z≤c*y):a*z≤c*x:=by
 have e1:=RY h1 (Ui hz)
 have e2:=RY h2 (Ui hx)
 have e3:0≤y*(c*x - a*z):=by
  have:y*(c*x - a*z)=c*y*x - a*y*z:=by grind
  have e4:b*x*z=b*z*x:=by grind
  omega
 have:=aB hy e3
 omega
theorem uh:∀(ss:List Sd) (f:Sd) (t:Sd),(∀ s∈ss,0<s.2.2.1)→0<f.2.2.1→0<t.2.2.1→(t∈ss∨t.1*f.2.2.1≤f.1*t.2.2.1)→t.1*(A9 ss f).2.2.1≤(A9 ss f).1*t.2.2.1
 | [],f,t,_,_,_,h=>by
  rcases h with h|h
  ·cases h
  ·exact h
 | s :: r,f,t,hp,hf,ht,h=>by
  have hs:=hp s Po
  show t.1*(A9 r (if G2 s f=true then s else f)).2.2.1≤(A9 r (if G2 s f=true then s else f)).1*t.2.2.1
  refine uh r _ t (fun s hs=>hp s (Pk _ hs)) (by split<;>assumption) ht ?_
  rcases h with h|h
  ·rcases Pn.mp h with rfl|h
   ·right
    split
    ·omega
    ·rename_i c;exact Dx c
   ·exact .inl h
  ·right
   split
   ·rename_i c
    exact Ku hf ht hs h (Dw c)
   ·exact h
theorem pK{α:Type}{p q:α→Bool}{x:α}:∀{l:List α},(∀ y∈l,q y=true→p y=true)→x∈l→p x=true→q x=false→(l.filter q).length<(l.filter p).length
 | [],_,h,_,_=>nomatch h
 | y :: l,h1,h2,h3,h4=>by
  have le:∀(l:List α),(∀ y∈l,q y=true→p y=true)→(l.filter q).length≤(l.filter p).length:=fun l=>by
   induction l with
   | nil=>intro _;exact Py _
   | cons a l ih =>
    intro h
    have:=ih fun y hy=>h y (Pk _ hy)
    by_cases qa:q a=true
    ·rw[Qg qa,Qg (h a Po qa),Pp,Pp];omega
    ·rw[Qo qa]
     by_cases pa:p a=true
     ·rw[Qg pa,Pp];omega
     ·rw[Qo pa];exact this
  have hl:=le l fun y hy=>h1 y (Pk _ hy)
  rcases Pn.mp h2 with rfl|h2
  ·rw[Qg h3,Qo (by rw[h4];decide),Pp];omega
  ·have ih:=pK (fun y hy=>h1 y (Pk _ hy)) h2 h3 h4
   by_cases qa:q y=true
   ·rw[Qg qa,Qg (h1 y Po qa),Pp,Pp];omega
   ·rw[Qo qa]
    by_cases pa:p y=true
    ·rw[Qg pa,Pp];omega
    ·rw[Qo pa];exact ih
noncomputable def wd(h0:Sd)(ss:List Sd)(h:Sd):Nat:=(ss.filter fun s=>decide (0<veZ h s) && decide (0<veZ h0 s)).length
theorem AE(h0:Sd)(ss:List Sd)(h:Sd):wd h0 ss h≤ss.length:=QX _ _
theorem bV{h0 h f:Sd}{ss:List Sd}(hp:∀ s∈ss,0<s.2.2.1)(e:C9 h ss=some f)(h1:h=h0∨0<veZ h0 h)(h2:0<veZ h0 f):wd h0 ss f<wd h0 ss h:=by
 obtain⟨m,v,_⟩:=L7 hp e
 unfold wd
 refine pK (x:=f) (fun s _ hq=>?_) m (by rw[decide_eq_true v,decide_eq_true h2];rfl) ?_
 ·rw[Rl,decide_eq_true_eq,decide_eq_true_eq]at hq ⊢
  refine⟨?_,hq.2⟩
  rcases h1 with rfl|h1
  ·exact hq.2
  ·have i:=Mb h0 h f s
   have a1:=TC h1 hq.1
   have a2:=TC hq.2 v
   exact oW h2 (by omega)
 ·have:veZ f f=0:=by unfold veZ;grind
  rw[this];rfl
theorem Cw{h0:Sd}{ss:List Sd}(hp:∀ s∈ss,0<s.2.2.1)(sy:∀ s∈ss,g6 s∈ss)(m0:h0∈ss){z0:Rat × Rat}(s0:Sup (ss.map tri) z0)(t0:dt (tri h0) z0=(tri h0).2.2):∀(k:Nat) (a:Sd) (z:Rat × Rat),a∈ss→Sup (ss.map tri) z→dt (tri a) z=(tri a).2.2 →
  (a=h0∨0<veZ h0 a)→(a=h0→∃ f,C9 h0 ss=some f)→(∀ f,C9 a ss=some f→0<veZ h0 f→wd h0 ss f<k) →
  ∀ ab∈(a :: G7 h0 ss k (C9 a ss)).zip (G7 h0 ss k (C9 a ss)++[g6 h0]),ab.1∈ss∧ab.2∈ss∧0<veZ ab.1 ab.2∧Sup (ss.map tri) (ry (tri ab.1) (tri ab.2)):=by
 have syT:∀ s∈ss.map tri,ng s∈ss.map tri:=fun s hs=>by
  obtain⟨t,ht,rfl⟩:=Pm.mp hs
  rw[← v7];exact Pm.mpr ⟨_,sy t ht,rfl⟩
 intro k
 induction k with
 | zero =>
  intro a z ha hz ta h1 h2 h3 ab hab
  cases e:C9 a ss with
  | none =>
   exfalso
   rcases h1 with rfl|h1
   ·obtain⟨f,hf⟩:=h2 rfl;rw[e]at hf;cases hf
   ·have:=(bF (h:=a) hp).no e (g6 h0) (sy h0 m0)
    exact this (by rw[show veZ a (g6 h0)=veZ h0 a by unfold veZ g6;grind];exact h1)
  | some f =>
   obtain⟨mf,vf,ef⟩:=L7 hp e
   by_cases c:0<veZ h0 f
   ·exact absurd (h3 f e c) (Tp _)
   ·rw[e]at hab
    have hab:ab∈[(a,g6 h0)]:=hab
    rw[PY.mp hab]
    have hv:0<veZ h0 a:=by
     rcases h1 with rfl|h1
     ·exact absurd vf c
     ·exact h1
    have ev:veZ a (g6 h0)=veZ h0 a:=by unfold veZ g6;grind
    refine⟨ha,sy h0 m0,by show 0<veZ a (g6 h0);rw[ev];exact hv,?_⟩
    show Sup _ (ry (tri a) (tri (g6 h0)))
    rw[v7]
    exact FQ syT (Pm.mpr ⟨h0,m0,rfl⟩) (Pm.mpr ⟨a,ha,rfl⟩) s0 t0 hz ta ef (by rw[y7];exact u5.mpr hv) (by rw[y7];have:=u5 (n:=veZ h0 f);grind)
 | succ k ih =>
  intro a z ha hz ta h1 h2 h3 ab hab
  cases e:C9 a ss with
  | none =>
   exfalso
   rcases h1 with rfl|h1
   ·obtain⟨f,hf⟩:=h2 rfl;rw[e]at hf;cases hf
   ·have:=(bF (h:=a) hp).no e (g6 h0) (sy h0 m0)
    exact this (by rw[show veZ a (g6 h0)=veZ h0 a by unfold veZ g6;grind];exact h1)
  | some f =>
   obtain⟨mf,vf,ef⟩:=L7 hp e
   rw[e]at hab
   by_cases c:0<veZ h0 f
   ·have er:G7 h0 ss (k+1) (some f)=f :: G7 h0 ss k (C9 f ss):=if_pos c
    rw[er]at hab
    have sf:=nJ hz ta ef
    rcases Pn.mp hab with rfl|hab
    ·exact⟨ha,mf,vf,sf⟩
    ·refine ih f (ry (tri a) (tri f)) mf sf (cw (t6 ef.ve)) (.inr c) (fun z=>?_) (fun g hg hc=>?_) ab hab
     ·subst z
      have:veZ f f=0:=by unfold veZ;grind
      omega
     ·have:=bV hp hg (.inr c) hc
      have:=h3 f e c
      omega
   ·have er:G7 h0 ss (k+1) (some f)=[]:=if_neg c
    rw[er]at hab
    have hab:ab∈[(a,g6 h0)]:=hab
    rw[PY.mp hab]
    have hv:0<veZ h0 a:=by
     rcases h1 with rfl|h1
     ·exact absurd vf c
     ·exact h1
    have ev:veZ a (g6 h0)=veZ h0 a:=by unfold veZ g6;grind
    refine⟨ha,sy h0 m0,by show 0<veZ a (g6 h0);rw[ev];exact hv,?_⟩
    show Sup _ (ry (tri a) (tri (g6 h0)))
    rw[v7]
    exact FQ syT (Pm.mpr ⟨h0,m0,rfl⟩) (Pm.mpr ⟨a,ha,rfl⟩) s0 t0 hz ta ef (by rw[y7];exact u5.mpr hv) (by rw[y7];have:=u5 (n:=veZ h0 f);grind)
noncomputable def u6(c d:Nat):Nat:=c / QD c d*d
theorem G1(c d:Nat):u6 c d=UI c d:=by
 unfold u6 UI
 rw[RZ,← Nat.mul_div_assoc _ (Nat.gcd_dvd_left c d),RZ]
noncomputable def cbL(l:T3):Nat:=u6 (u6 (u6 1 l.1.den) l.2.1.den) l.2.2.den
theorem gP(l:T3):cbL l=UI (UI l.1.den l.2.1.den) l.2.2.den:=by
 unfold cbL
 rw[G1,G1,G1,Nat.lcm_one_left]
theorem DS(l:T3):0<cbL l:=by
 rw[gP]
 exact Ss (Ss l.1.den_pos l.2.1.den_pos) l.2.2.den_pos
theorem FU(l:T3):l.1.den ∣ cbL l:=by rw[gP];exact SQ (RA _ _) (RA _ _)
theorem FT(l:T3):l.2.1.den ∣ cbL l:=by rw[gP];exact SQ (RS _ _) (RA _ _)
theorem FR(l:T3):l.2.2.den ∣ cbL l:=by rw[gP];exact RS _ _
noncomputable def O1(q:Rat)(c:Nat):Int:=q.num*((c / q.den:Nat):Int)
theorem X2{q:Rat}{c:Nat}(h:q.den ∣ c):(O1 q c:Rat)=q*(c:Rat):=by
 obtain⟨k,rfl⟩:=h
 unfold O1
 rw[SR _ q.den_pos,PF,← D6 q,QE,Qa]
 grind
noncomputable def f7(l:T3)(i:Nat):Sd:=(O1 l.1 (cbL l),O1 l.2.1 (cbL l),O1 l.2.2 (cbL l),(i:Int),(cbL l:Int))
noncomputable def O5:Nat→List T3→List Sd
 | _,[]=>[]
 | i,l :: r=>f7 l i :: g6 (f7 l i) :: O5 (i+1) r
noncomputable abbrev e8(ls:List T3):List Sd:=O5 0 ls
theorem B7(l:T3)(i:Nat):tri (f7 l i)=(l.1*(cbL l:Rat),l.2.1*(cbL l:Rat),l.2.2*(cbL l:Rat)):=by
 unfold tri f7
 rw[X2 (FU l),X2 (FT l),X2 (FR l)]
theorem uG(s:Sd):g6 (g6 s)=s:=by
 obtain⟨a,b,c,d,e⟩:=s
 unfold g6
 show(- -a,- -b,c,d,- -e)=_
 rw[Uy,Uy,Uy]
theorem F8{s:Sd}:∀{ls:List T3} {i:Nat},s∈O5 i ls→∃ l∈ls,∃ j,s=f7 l j∨s=g6 (f7 l j)
 | [],_,h=>nomatch h
 | l :: r,i,h=>by
  rcases Pn.mp h with h|h
  ·exact⟨l,Po,i,.inl h⟩
  ·rcases Pn.mp h with h|h
   ·exact⟨l,Po,i,.inr h⟩
   ·obtain⟨l',h1,j,h2⟩:=F8 h
    exact⟨l',Pk _ h1,j,h2⟩
theorem X4{l:T3}:∀{ls:List T3} {i:Nat},l∈ls→∃ j,f7 l j∈O5 i ls∧g6 (f7 l j)∈O5 i ls
 | [],_,h=>nomatch h
 | m :: r,i,h=>by
  rcases Pn.mp h with rfl|h
  ·exact⟨i,Po,Pk _ Po⟩
  ·obtain⟨j,h1,h2⟩:=X4 (i:=i+1) h
   exact⟨j,Pk _ (Pk _ h1),Pk _ (Pk _ h2)⟩
theorem fM:∀{ls:List T3} {i:Nat},∀ s∈O5 i ls,g6 s∈O5 i ls
 | [],_,_,h=>nomatch h
 | l :: r,i,s,h=>by
  rcases Pn.mp h with rfl|h
  ·exact Pk _ Po
  ·rcases Pn.mp h with rfl|h
   ·rw[uG];exact Po
   ·exact Pk _ (Pk _ (fM s h))
structure LineOk(l:T3):Prop where
 ne:¬ (l.1=0∧l.2.1=0)
 pos:0<l.2.2
theorem D8(l:T3):(0:Rat)<(cbL l:Rat):=by
 exact Rat.natCast_pos.mpr (DS l)
theorem aU{ls:List T3}(h:∀ l∈ls,LineOk l){i:Nat}:∀ s∈O5 i ls,0<s.2.2.1:=fun s hs=>by
 obtain⟨l,hl,j,e⟩:=F8 hs
 have hr:s.2.2.1=(f7 l j).2.2.1:=by rcases e with rfl|rfl<;>rfl
 rw[hr]
 have e2:((f7 l j).2.2.1:Rat)=l.2.2*(cbL l:Rat):=congrArg (fun t:T3=>t.2.2) (B7 l j)
 refine u5.mp ?_
 rw[e2]
 exact Qt (h l hl).pos (D8 l)
theorem A2(l:T3)(y u:Rat):iy l y u=true↔l.1*y+l.2.1*u≤l.2.2∧-(l.1*y+l.2.1*u)≤l.2.2:=by
 unfold iy j9
 rw[decide_eq_true_iff]
 split<;>grind
theorem J9{c x r:Rat}(hc:0<c):x*c≤r*c↔x≤r:=by
 constructor
 ·intro h
  have:0≤c*(r - x):=by grind
  have:=j6 hc this
  grind
 ·intro h
  have:0≤(r - x)*c:=Pq (by grind) (G0 hc)
  grind
theorem Y5(l:T3)(j:Nat)(z:Rat × Rat):dt (tri (f7 l j)) z=(l.1*z.1+l.2.1*z.2)*(cbL l:Rat):=by
 rw[B7];unfold dt;grind
theorem lV(s:Sd)(z:Rat × Rat):dt (tri (g6 s)) z = -dt (tri s) z:=by rw[v7];unfold dt ng;grind
theorem D4(ls:List T3)(z:Rat × Rat):Sup ((e8 ls).map tri) z↔o6 ls z.1 z.2=true:=by
 unfold o6
 rw[Qq]
 constructor
 ·intro h l hl
  obtain⟨j,h1,h2⟩:=X4 (i:=0) hl
  have a1:=h _ (Pm.mpr ⟨_,h1,rfl⟩)
  have a2:=h _ (Pm.mpr ⟨_,h2,rfl⟩)
  rw[lV]at a2
  have e:(tri (g6 (f7 l j))).2.2=(tri (f7 l j)).2.2:=rfl
  rw[e]at a2
  rw[Y5,B7]at a1 a2
  rw[A2]
  refine⟨(J9 (D8 l)).mp a1,(J9 (D8 l)).mp ?_⟩
  rw[Su];exact a2
 ·intro h s hs
  obtain⟨t,ht,rfl⟩:=Pm.mp hs
  obtain⟨l,hl,j,e⟩:=F8 ht
  obtain⟨b1,b2⟩:=(A2 l z.1 z.2).mp (h l hl)
  rcases e with rfl|rfl
  ·rw[Y5,B7];exact(J9 (D8 l)).mpr b1
  ·rw[lV]
   show -dt (tri (f7 l j)) z≤(tri (f7 l j)).2.2
   rw[Y5,B7,← Su]
   exact(J9 (D8 l)).mpr b2
theorem D7{ls:List T3}(hok:∀ l∈ls,LineOk l)(hne:ls≠[]):∃ h0 l,v9 (e8 ls)=h0 :: l∧h0∈e8 ls ∧
  ((l=[]∧∀ s∈e8 ls,veZ h0 s=0)∨(l≠[]∧Rim ((e8 ls).map tri) (tri h0) (l.map tri)∧∀ ab∈(h0 :: l).zip (l++[g6 h0]),ab.1∈e8 ls∧ab.2∈e8 ls∧0<veZ ab.1 ab.2)):=by
 have hp:∀ s∈e8 ls,0<s.2.2.1:=aU hok (i:=0)
 have sy:∀ s∈e8 ls,g6 s∈e8 ls:=fM (ls:=ls) (i:=0)
 have nn:e8 ls≠[]:=by
  cases ls with
  | nil=>exact absurd rfl hne
  | cons a b=>exact fun z=>nomatch z
 generalize e8 ls=ss at *
 obtain⟨s1,r,rfl⟩:∃ s1 r,ss=s1 :: r:=by
  cases ss with
  | nil=>exact absurd rfl nn
  | cons a b=>exact⟨_,_,rfl⟩
 refine⟨A9 (s1 :: r) s1,_,rfl,?_⟩
 have m0:A9 (s1 :: r) s1∈s1 :: r:=by
  rcases bD (s1 :: r) s1 with h|h
  ·rw[h];exact Po
  ·exact h
 have le:=fun t ht=>uh (s1 :: r) s1 t hp (hp s1 Po) (hp t ht) (.inl ht)
 generalize A9 (s1 :: r) s1=h0 at *
 generalize s1 :: r=ss at *
 refine⟨m0,?_⟩
 cases e:C9 h0 ss with
 | none =>
  left
  have no:=(bF (h:=h0) hp).no e
  refine⟨by cases ss.length<;>rfl,fun s hs=>?_⟩
  have a1:=no s hs
  have a2:=no _ (sy s hs)
  have:veZ h0 (g6 s) = -veZ h0 s:=by unfold veZ g6;grind
  omega
 | some f =>
  right
  obtain⟨mf,vf,ef⟩:=L7 hp e
  have hl:ss.length≠0:=fun z=>by rw[Se z]at m0;cases m0
  have r0:=hp h0 m0
  have p0:0<h0.1:=by
   rcases Tn 0 h0.1 with z|z
   ·exact z
   ·exfalso
    have aM:∀ s∈ss,s.1=0:=fun s hs=>by
     have q1:=le s hs
     have q2:=le _ (sy s hs)
     have rs:=hp s hs
     have q2:-s.1*h0.2.2.1≤h0.1*s.2.2.1:=q2
     have q3:0 ≤ -h0.1*s.2.2.1:=Ru (by omega) (by omega)
     rw[Int.neg_mul]at q2 q3
     have q4:s.1*h0.2.2.1=0:=by omega
     exact(RO.mp q4).resolve_right (by omega)
    have:veZ h0 f=0:=by
     unfold veZ;rw[aM h0 m0,aM f mf,To,Uj];rfl
    omega
  have p0R:(0:Rat)<(h0.1:Rat):=u5.mpr p0
  have s0:Sup (ss.map tri) ((h0.2.2.1:Rat) / (h0.1:Rat),0):=fun s hs=>by
   obtain⟨t,ht,rfl⟩:=Pm.mp hs
   have q:=le t ht
   have q':((t.1*h0.2.2.1:Int):Rat)≤((h0.1*t.2.2.1:Int):Rat):=Ta.mpr q
   rw[PF,PF]at q'
   unfold dt tri
   show(t.1:Rat)*((h0.2.2.1:Rat) / (h0.1:Rat))+(t.2.1:Rat)*0≤(t.2.2.1:Rat)
   have e1:(h0.1:Rat)*((h0.2.2.1:Rat) / (h0.1:Rat))=(h0.2.2.1:Rat):=by rw[RD,Qk (t6 p0R)]
   have:0≤(h0.1:Rat)*((t.2.2.1:Rat) - (t.1:Rat)*((h0.2.2.1:Rat) / (h0.1:Rat))):=by
    generalize (h0.2.2.1:Rat) / (h0.1:Rat)=w at *
    generalize (h0.1:Rat)=A at *
    generalize (h0.2.2.1:Rat)=B at *
    generalize (t.1:Rat)=C at *
    generalize (t.2.2.1:Rat)=E at *
    subst e1
    clear le hp sy
    grind
   have:=j6 p0R this
   rw[RE,Sz]
   generalize (t.1:Rat)*((h0.2.2.1:Rat) / (h0.1:Rat))=w at *
   generalize (t.2.2.1:Rat)=E at *
   clear le hp sy
   grind
  have t0:dt (tri h0) ((h0.2.2.1:Rat) / (h0.1:Rat),0)=(tri h0).2.2:=by
   unfold dt tri
   show(h0.1:Rat)*((h0.2.2.1:Rat) / (h0.1:Rat))+(h0.2.1:Rat)*0=(h0.2.2.1:Rat)
   rw[RD,Qk (t6 p0R),RE,Sz]
  have all:=Cw hp sy m0 s0 t0 ss.length h0 _ m0 s0 t0 (.inl rfl) (fun _=>⟨f,e⟩) (fun g hg hv=>Pt (bV hp hg (.inl rfl) hv) (AE h0 ss h0))
  rw[e]at all
  refine⟨?_,⟨?_,fun s hs=>?_,fun s hs=>?_,fun ab hab=>?_⟩,fun ab hab=>?_⟩
  ·obtain⟨k,hk⟩:∃ k,ss.length=k+1:=⟨ss.length - 1,by omega⟩
   rw[hk]
   show(if 0<veZ h0 f then _ else _)≠[]
   rw[if_pos vf];exact fun z=>nomatch z
  ·obtain⟨k,hk⟩:∃ k,ss.length=k+1:=⟨ss.length - 1,by omega⟩
   rw[hk]
   show(if 0<veZ h0 f then _ else _:List Sd).map tri≠[]
   rw[if_pos vf];exact fun z=>nomatch z
  ·obtain⟨t,ht,rfl⟩:=Pm.mp hs
   rw[← v7];exact Pm.mpr ⟨_,sy t ht,rfl⟩
  ·obtain⟨t,ht,rfl⟩:=Pm.mp hs
   exact u5.mpr (hp t ht)
  ·have em:ab∈((h0 :: G7 h0 ss ss.length (some f)).map tri).zip ((G7 h0 ss ss.length (some f)++[g6 h0]).map tri):=by
    rw[PQ,Qc,Qc,QS,v7];exact hab
   rw[F6]at em
   obtain⟨cd,hcd,rfl⟩:=Pm.mp em
   obtain⟨q1,q2,q3,q4⟩:=all cd hcd
   exact⟨Pm.mpr ⟨_,q1,rfl⟩,Pm.mpr ⟨_,q2,rfl⟩,by show 0<ve (tri cd.1) (tri cd.2);rw[y7];exact u5.mpr q3,q4⟩
  ·obtain⟨q1,q2,q3,q4⟩:=all ab hab
   exact⟨q1,q2,q3⟩
noncomputable def K4(a b:Rat × Rat):Bool:=if a.1=b.1 then decide (a.2<b.2)else decide (a.1<b.1)
noncomputable def J7(rs:List (Rat × Rat)):Nat→Nat
 | 0=>0
 | i+1=>if K4 (rs.getD i (0,0)) (rs.getD (J7 rs i) (0,0))=true then i else J7 rs i
noncomputable def cy(rs:List (Rat × Rat)):List (Rat × Rat):=rs.drop (J7 rs rs.length)++rs.take (J7 rs rs.length)
noncomputable def C6(h0:Sd)(l:List Sd):List (Rat × Rat):=((h0 :: l).zip (l++[g6 h0])).map fun ab=>ry (tri ab.1) (tri ab.2)
noncomputable def C3(ls:List T3):Option (List (Rat × Rat)):=match v9 (e8 ls)with
 | []=>none
 | [_]=>none
 | h0 :: x :: l=>some (cy (C6 h0 (x :: l)++(C6 h0 (x :: l)).map ngZ))
theorem bA{rs:List (Rat × Rat)}{z:Rat × Rat}:z∈cy rs↔z∈rs:=by
 unfold cy
 rw[PL,Or.comm,← PL,Sa]
theorem yH(h0:Sd)(l:List Sd):C6 h0 l++(C6 h0 l).map ngZ=S4 (tri h0) (l.map tri):=by
 unfold C6 S4 dF
 have e:(tri h0 :: l.map tri).zip (l.map tri++[ng (tri h0)])=((h0 :: l).zip (l++[g6 h0])).map fun ab=>(tri ab.1,tri ab.2):=by
  rw[← F6,Qc,PQ,Qc,QS,v7]
 rw[e,Qw,Qw,Qw]
 rfl
def q9(ls:List T3):Prop:=∀ a∈ls,∀ b∈ls,a.1*b.2.1=b.1*a.2.1
theorem fF(a b:T3)(i j:Nat):ve (tri (f7 a i)) (tri (f7 b j))=(a.1*b.2.1 - b.1*a.2.1)*((cbL a:Rat)*(cbL b:Rat)):=by
 rw[B7,B7];unfold ve;grind
theorem gO{ls:List T3}(hok:∀ l∈ls,LineOk l) :
  (C3 ls=none∧q9 ls) ∨ ∃ cs,C3 ls=some cs∧¬ q9 ls∧(∃ h0 l,Rim ((e8 ls).map tri) h0 l∧∀ z,z∈cs↔z∈S4 h0 l):=by
 by_cases hne:ls=[]
 ·subst hne
  exact .inl ⟨rfl,fun a ha=>nomatch ha⟩
 obtain⟨h0,l,e,m0,h⟩:=D7 hok hne
 rcases h with⟨rfl,h⟩|⟨hl,R,h⟩
 ·left
  refine⟨by unfold C3;rw[e],fun a ha b hb=>?_⟩
  obtain⟨i,ha,_⟩:=X4 (i:=0) ha
  obtain⟨j,hb,_⟩:=X4 (i:=0) hb
  have e1:=h _ ha
  have e2:=h _ hb
  obtain⟨c,hc,k,ec⟩:=F8 m0
  have hc0:¬ ((tri h0).1=0∧(tri h0).2.1=0):=fun⟨z1,z2⟩=>by
   have cp:=D8 c
   have:(tri (f7 c k)).1=0∧(tri (f7 c k)).2.1=0:=by
    rcases ec with rfl|rfl
    ·exact⟨z1,z2⟩
    ·rw[v7]at z1 z2
     unfold ng at z1 z2
     exact⟨by grind,by grind⟩
   rw[B7]at this
   have t1:c.1*(cbL c:Rat)=0:=this.1
   have t2:c.2.1*(cbL c:Rat)=0:=this.2
   exact(hok c hc).ne ⟨by grind,by grind⟩
  have f1:ve (tri h0) (tri (f7 a i))=0:=by rw[y7,e1];rfl
  have f2:ve (tri h0) (tri (f7 b j))=0:=by rw[y7,e2];rfl
  have f3:ve (tri (f7 a i)) (tri (f7 b j))=0:=by
   generalize tri (f7 a i)=x at *
   generalize tri (f7 b j)=y at *
   generalize tri h0=w at *
   unfold ve at *
   have i1:w.1*(x.1*y.2.1 - x.2.1*y.1)=0:=by
    have:w.1*(x.1*y.2.1 - x.2.1*y.1)=x.1*(w.1*y.2.1 - w.2.1*y.1) - y.1*(w.1*x.2.1 - w.2.1*x.1):=by grind
    rw[this,f1,f2];grind
   have i2:w.2.1*(x.1*y.2.1 - x.2.1*y.1)=0:=by
    have:w.2.1*(x.1*y.2.1 - x.2.1*y.1)=x.2.1*(w.1*y.2.1 - w.2.1*y.1) - y.2.1*(w.1*x.2.1 - w.2.1*x.1):=by grind
    rw[this,f1,f2];grind
   by_cases c1:w.1=0
   ·have c2:w.2.1≠0:=fun z=>hc0 ⟨c1,z⟩
    grind
   ·grind
  rw[fF]at f3
  have q1:=t6 (Qt (D8 a) (D8 b))
  generalize (cbL a:Rat)*(cbL b:Rat)=k at *
  generalize a.1*b.2.1=u at *
  generalize b.1*a.2.1=v at *
  clear h e m0 hc0 f1 f2 e1 e2 hok
  grind
 ·right
  obtain⟨x,l,rfl⟩:∃ x l',l=x :: l':=by
   cases l with
   | nil=>exact absurd rfl hl
   | cons x l=>exact⟨x,l,rfl⟩
  refine⟨_,by unfold C3;rw[e],fun al=>?_,_,_,R,fun z=>?_⟩
  ·obtain⟨q1,q2,q3⟩:=h (h0,x) Po
   obtain⟨a,ha,i,ea⟩:=F8 q1
   obtain⟨b,hb,j,eb⟩:=F8 q2
   have hv:=al a ha b hb
   have z0:ve (tri (f7 a i)) (tri (f7 b j))=0:=by rw[fF,hv];grind
   have q3:0<veZ h0 x:=q3
   have q4:(0:Rat)<ve (tri h0) (tri x):=by rw[y7];exact u5.mpr q3
   have ea':tri h0=tri (f7 a i)∨tri h0=ng (tri (f7 a i)):=by
    rcases ea with h|h
    ·have h:h0=_:=h;left;rw[h]
    ·have h:h0=_:=h;right;rw[h,v7]
   have eb':tri x=tri (f7 b j)∨tri x=ng (tri (f7 b j)):=by
    rcases eb with h|h
    ·have h:x=_:=h;left;rw[h]
    ·have h:x=_:=h;right;rw[h,v7]
   have z1:ve (tri h0) (tri x)=0:=by
    rcases ea' with h|h<;>rcases eb' with h'|h'<;>(rw[h,h'];clear q4;generalize tri (f7 a i)=A at *;generalize tri (f7 b j)=B at *;unfold ve at *;first|exact z0|(unfold ng;grind))
   grind
  ·rw[bA,yH]
theorem R3{a b:Sd}:sdD a=sdD b↔a=b:=by
 constructor
 ·intro h
  unfold sdD at h
  injection h with h
  injection h with h1 h
  injection h with h2 h
  injection h with h3 h
  injection h with h4 h
  injection h with h5 h
  injection h1 with h1;injection h2 with h2;injection h3 with h3;injection h4 with h4;injection h5 with h5
  exact Prod.ext h1 (Prod.ext h2 (Prod.ext h3 (Prod.ext h4 h5)))
 ·rintro rfl;rfl
theorem P8{xs ys:List Sd}:xs.map sdD=ys.map sdD↔xs=ys:=Qz (fun _ _ h=>R3.mp h)
theorem E8{a b:Rat × Rat}:rD a=rD b↔a=b:=by
 constructor
 ·intro h
  unfold rD D5 at h
  injection h with h
  injection h with h1 h
  injection h with h2 h
  exact Prod.ext (g8.mp h1) (g8.mp h2)
 ·rintro rfl;rfl
theorem C7{xs ys:List (Rat × Rat)}:xs.map rD=ys.map rD↔xs=ys:=Qz (fun _ _ h=>E8.mp h)
structure SzS(s:Sd):Prop where
 p:s.1.natAbs<2 ^ 1200
 q:s.2.1.natAbs<2 ^ 1200
 r:s.2.2.1.natAbs<2 ^ 1200
noncomputable def oA:Option Sd→D
 | none=>.non
 | some s=>sdD s
structure LnOk(l:T3):Prop extends LineOk l where
 p:sz l.1≤1300
 q:sz l.2.1≤1300
 r:sz l.2.2≤1300
 s:SzS (f7 l 0)
def qb(ls:List T3):Prop:=ls.length≤12∧∀ l∈ls,LnOk l
local macro_rules|`(tactic| walk_at "inj")=>`(tactic| (rename_i e h;simp only[List.cons.injEq,GM.R3,GM.P8,GM.E8,GM.C7,and_true,true_and,GM.g8,GM.h9,GM.f9,GM.i3,GM.g5,D.tup.injEq,D.ref.injEq,D.int.injEq,D.str.injEq,D.bl.injEq,D.vl.injEq,PM,and_assoc]at e;(repeat(obtain⟨e1,e⟩:=e;subst e1));subst e;exact h))
local macro_rules|`(tactic| walk_at "injs")=>`(tactic| (rename_i e o h;rcases o with o|o<;>(subst o;first|(exfalso;simp only[D.tup.injEq,List.cons.injEq,reduceCtorEq,false_and,and_false]at e;done)|(simp only[List.cons.injEq,GM.R3,GM.P8,GM.E8,GM.C7,and_true,true_and,GM.g8,GM.h9,GM.f9,GM.i3,GM.g5,D.tup.injEq,D.ref.injEq,D.int.injEq,D.str.injEq,D.bl.injEq,D.vl.injEq,PM,and_assoc]at e;(repeat(obtain⟨e1,e⟩:=e;subst e1));subst e;exact h))))
abbrev kX(l:T3)(M:Mem)(R:DK)(Y:DXK):Prop:=LnOk l∧R (.int ((cbL l:Nat):Int)) M
def GN:DSp:=fun ds M R Y=>∃(l:T3),ds=[h7 l]∧kX l M R Y
theorem wJ{l:T3}{M:Mem}{R:DK}{Y:DXK}:GN [h7 l] M R Y=(kX l M R Y):=propext ⟨fun z=>by obtain⟨_,_,_⟩:=z;walk_at "inj",fun h=>⟨l,rfl,h⟩⟩
abbrev aZ(l:T3)(c:Int)(M:Mem)(R:DK)(Y:DXK):Prop:=(LnOk l∧c=((cbL l:Nat):Int))∧R (.vl [.int (f7 l 0).1,.int (f7 l 0).2.1,.int (f7 l 0).2.2.1]) M
def qG:DSp:=fun ds M R Y=>∃(l:T3) (c:Int),ds=[h7 l,.int c]∧aZ l c M R Y
theorem mR{l:T3}{c:Int}{M:Mem}{R:DK}{Y:DXK}:qG [h7 l,.int c] M R Y=(aZ l c M R Y):=propext ⟨fun z=>by obtain⟨_,_,_,_⟩:=z;walk_at "inj",fun h=>⟨l,c,rfl,h⟩⟩
abbrev V5(ls:List T3)(M:Mem)(R:DK)(Y:DXK):Prop:=qb ls∧R (.vl ((e8 ls).map sdD)) M
def kK:DSp:=fun ds M R Y=>∃(x0:D) (ls:List T3),ds=[x0]∧(x0 = .vl (ls.map h7)∨x0 = .tup (ls.map h7))∧V5 ls M R Y
theorem mT{ls:List T3}{M:Mem}{R:DK}{Y:DXK}:kK [.vl (ls.map h7)] M R Y=(V5 ls M R Y):=propext ⟨fun z=>by obtain⟨_,_,_,_,_⟩:=z;walk_at "injs",fun h=>⟨_,ls,rfl,.inl rfl,h⟩⟩
theorem eX{ls:List T3}{M:Mem}{R:DK}{Y:DXK}:kK [.tup (ls.map h7)] M R Y=(V5 ls M R Y):=propext ⟨fun z=>by obtain⟨_,_,_,_,_⟩:=z;walk_at "injs",fun h=>⟨_,ls,rfl,.inr rfl,h⟩⟩
abbrev kS(a:Sd)(M:Mem)(R:DK)(Y:DXK):Prop:=R (sdD (g6 a)) M
def yA:DSp:=fun ds M R Y=>∃(a:Sd),ds=[sdD a]∧kS a M R Y
theorem wH{a:Sd}{M:Mem}{R:DK}{Y:DXK}:yA [sdD a] M R Y=(kS a M R Y):=propext ⟨fun z=>by obtain⟨_,_,_⟩:=z;walk_at "inj",fun h=>⟨a,rfl,h⟩⟩
abbrev dQ(a b:Sd)(M:Mem)(R:DK)(Y:DXK):Prop:=(SzS a∧SzS b)∧R (.int (veZ a b)) M
def gc:DSp:=fun ds M R Y=>∃(a b:Sd),ds=[sdD a,sdD b]∧dQ a b M R Y
theorem rV{a b:Sd}{M:Mem}{R:DK}{Y:DXK}:gc [sdD a,sdD b] M R Y=(dQ a b M R Y):=propext ⟨fun z=>by obtain⟨_,_,_,_⟩:=z;walk_at "inj",fun h=>⟨a,b,rfl,h⟩⟩
abbrev dS(a b c:Sd)(M:Mem)(R:DK)(Y:DXK):Prop:=(SzS a∧SzS b∧SzS c)∧R (.int (tnZ a b c)) M
def yr:DSp:=fun ds M R Y=>∃(a b c:Sd),ds=[sdD a,sdD b,sdD c]∧dS a b c M R Y
theorem rX{a b c:Sd}{M:Mem}{R:DK}{Y:DXK}:yr [sdD a,sdD b,sdD c] M R Y=(dS a b c M R Y):=propext ⟨fun z=>by obtain⟨_,_,_,_,_⟩:=z;walk_at "inj",fun h=>⟨a,b,c,rfl,h⟩⟩
abbrev eE(a b:Sd)(M:Mem)(R:DK)(Y:DXK):Prop:=(SzS a∧SzS b)∧R (.bl (G2 a b)) M
def yy:DSp:=fun ds M R Y=>∃(a b:Sd),ds=[sdD a,sdD b]∧eE a b M R Y
theorem sD{a b:Sd}{M:Mem}{R:DK}{Y:DXK}:yy [sdD a,sdD b] M R Y=(eE a b M R Y):=propext ⟨fun z=>by obtain⟨_,_,_,_⟩:=z;walk_at "inj",fun h=>⟨a,b,rfl,h⟩⟩
abbrev dY(ss:List Sd)(M:Mem)(R:DK)(Y:DXK):Prop:=(∃ s r,ss=s :: r)∧(∀ s∈ss,SzS s)∧R (sdD (A9 ss (ss.headD (0,0,0,0,0)))) M
def yv:DSp:=fun ds M R Y=>∃(ss:List Sd),ds=[.vl (ss.map sdD)]∧dY ss M R Y
theorem sj{ss:List Sd}{M:Mem}{R:DK}{Y:DXK}:yv [.vl (ss.map sdD)] M R Y=(dY ss M R Y):=propext ⟨fun z=>by obtain⟨_,_,_⟩:=z;walk_at "inj",fun h=>⟨ss,rfl,h⟩⟩
abbrev kO(ss:List Sd)(g:Sd)(M:Mem)(R:DK)(Y:DXK):Prop:=(SzS g∧∀ s∈ss,SzS s)∧R (oA (C9 g ss)) M
def GI:DSp:=fun ds M R Y=>∃(ss:List Sd) (g:Sd),ds=[.vl (ss.map sdD),sdD g]∧kO ss g M R Y
theorem wD{ss:List Sd}{g:Sd}{M:Mem}{R:DK}{Y:DXK}:GI [.vl (ss.map sdD),sdD g] M R Y=(kO ss g M R Y):=propext ⟨fun z=>by obtain⟨_,_,_,_⟩:=z;walk_at "inj",fun h=>⟨ss,g,rfl,h⟩⟩
abbrev bo(ls:List T3)(M:Mem)(R:DK)(Y:DXK):Prop:=qb ls∧R (.vl ((v9 (e8 ls)).map sdD)) M
def oh:DSp:=fun ds M R Y=>∃(x0:D) (ls:List T3),ds=[x0]∧(x0 = .vl (ls.map h7)∨x0 = .tup (ls.map h7))∧bo ls M R Y
theorem sE{ls:List T3}{M:Mem}{R:DK}{Y:DXK}:oh [.vl (ls.map h7)] M R Y=(bo ls M R Y):=propext ⟨fun z=>by obtain⟨_,_,_,_,_⟩:=z;walk_at "injs",fun h=>⟨_,ls,rfl,.inl rfl,h⟩⟩
theorem iJ{ls:List T3}{M:Mem}{R:DK}{Y:DXK}:oh [.tup (ls.map h7)] M R Y=(bo ls M R Y):=propext ⟨fun z=>by obtain⟨_,_,_,_,_⟩:=z;walk_at "injs",fun h=>⟨_,ls,rfl,.inr rfl,h⟩⟩
abbrev kP(a b:Sd)(M:Mem)(R:DK)(Y:DXK):Prop:=(SzS a∧SzS b∧veZ a b≠0)∧R (rD (ry (tri a) (tri b))) M
def Cq:DSp:=fun ds M R Y=>∃(a b:Sd),ds=[sdD a,sdD b]∧kP a b M R Y
theorem wF{a b:Sd}{M:Mem}{R:DK}{Y:DXK}:Cq [sdD a,sdD b] M R Y=(kP a b M R Y):=propext ⟨fun z=>by obtain⟨_,_,_,_⟩:=z;walk_at "inj",fun h=>⟨a,b,rfl,h⟩⟩
def Eg(z:Rat × Rat):Prop:=sz z.1≤2402∧sz z.2≤2402
abbrev bh(a b:Rat × Rat)(M:Mem)(R:DK)(Y:DXK):Prop:=(Eg a∧Eg b)∧R (.bl (K4 a b)) M
def qJ:DSp:=fun ds M R Y=>∃(a b:Rat × Rat),ds=[rD a,rD b]∧bh a b M R Y
theorem mW{a b:Rat × Rat}{M:Mem}{R:DK}{Y:DXK}:qJ [rD a,rD b] M R Y=(bh a b M R Y):=propext ⟨fun z=>by obtain⟨_,_,_,_⟩:=z;walk_at "inj",fun h=>⟨a,b,rfl,h⟩⟩
abbrev bu(rs:List (Rat × Rat))(M:Mem)(R:DK)(Y:DXK):Prop:=(rs≠[]∧rs.length≤100∧∀ z∈rs,Eg z)∧R (.vl ((cy rs).map rD)) M
def qM:DSp:=fun ds M R Y=>∃(rs:List (Rat × Rat)),ds=[.vl (rs.map rD)]∧bu rs M R Y
theorem mZ{rs:List (Rat × Rat)}{M:Mem}{R:DK}{Y:DXK}:qM [.vl (rs.map rD)] M R Y=(bu rs M R Y):=propext ⟨fun z=>by obtain⟨_,_,_⟩:=z;walk_at "inj",fun h=>⟨rs,rfl,h⟩⟩
noncomputable def qP:Option (List (Rat × Rat))→D
 | none=>.non
 | some cs=>.vl (cs.map rD)
abbrev bz(ls:List T3)(M:Mem)(R:DK)(Y:DXK):Prop:=qb ls∧R (qP (C3 ls)) M
def ji:DSp:=fun ds M R Y=>∃(x0:D) (ls:List T3),ds=[x0]∧(x0 = .vl (ls.map h7)∨x0 = .tup (ls.map h7))∧bz ls M R Y
theorem sF{ls:List T3}{M:Mem}{R:DK}{Y:DXK}:ji [.vl (ls.map h7)] M R Y=(bz ls M R Y):=propext ⟨fun z=>by obtain⟨_,_,_,_,_⟩:=z;walk_at "injs",fun h=>⟨_,ls,rfl,.inl rfl,h⟩⟩
theorem iL{ls:List T3}{M:Mem}{R:DK}{Y:DXK}:ji [.tup (ls.map h7)] M R Y=(bz ls M R Y):=propext ⟨fun z=>by obtain⟨_,_,_,_,_⟩:=z;walk_at "injs",fun h=>⟨_,ls,rfl,.inr rfl,h⟩⟩
theorem wA{a:Sd}{M:Mem}{R:DK}:gIx (sdD a) (.int 0) M R=R (.int a.1) M:=T5
theorem wy{a:Sd}{M:Mem}{R:DK}:gIx (sdD a) (.int 1) M R=R (.int a.2.1) M:=T0
theorem wx{a:Sd}{M:Mem}{R:DK}:gIx (sdD a) (.int 2) M R=R (.int a.2.2.1) M:=jS
theorem wC{a:Rat × Rat}{M:Mem}{R:DK}:gIx (rD a) (.int 0) M R=R (d8 a.1) M:=T5
theorem wB{a:Rat × Rat}{M:Mem}{R:DK}:gIx (rD a) (.int 1) M R=R (d8 a.2) M:=T0
theorem SzS.ve{a b:Sd}(ha:SzS a)(hb:SzS b):(veZ a b).natAbs<2 ^ 2401:=by
 have h1:=g7 ha.p hb.q
 have h2:=g7 ha.q hb.p
 unfold veZ
 have:=RT (a.1*b.2.1) (a.2.1*b.1)
 rw[show 2401=1200+1200+1 from rfl,RX]
 omega
theorem J4(c d:Nat):u6 c d≤c*d:=by
 unfold u6
 exact QO _ (QL _ _)
theorem ml:∀(xs:List Rat) (c m:Nat),(∀ x∈xs,sz x≤1300)→c<2 ^ m→xs.foldl (fun c q=>u6 c q.den) c<2 ^ (m+1300*xs.length)
 | [],c,m,_,h=>by simpa using h
 | x :: xs,c,m,hx,h=>by
  have h1:u6 c x.den<2 ^ (m+1300):=PV (J4 c x.den) (F0 h (o8 x (hx x Po)))
  have:=ml xs _ _ (fun y hy=>hx y (Pk _ hy)) h1
  rw[Sv,Pp]
  rwa [show m+1300*(xs.length+1)=m+1300+1300*xs.length by omega]
theorem LnOk.all{l:T3}(h:LnOk l):∀ x∈[l.1,l.2.1,l.2.2],sz x≤1300:=fun x hx=>by
 simp only[Pn,Qb,or_false]at hx
 rcases hx with rfl|rfl|rfl
 ·exact h.p
 ·exact h.q
 ·exact h.r
theorem LnOk.cb{l:T3}(h:LnOk l):cbL l<2 ^ 3901:=ml [l.1,l.2.1,l.2.2] 1 1 h.all (by decide)
theorem cc{ls:List T3}(h:qb ls){i:Nat}:∀ s∈O5 i ls,SzS s:=fun s hs=>by
 obtain⟨l,hl,j,e⟩:=F8 hs
 obtain⟨a,b,c⟩:=(h.2 l hl).s
 rcases e with rfl|rfl
 ·exact⟨a,b,c⟩
 ·exact⟨by show(-(f7 l j).1).natAbs<_;rw[Qr];exact a,by show(-(f7 l j).2.1).natAbs<_;rw[Qr];exact b,c⟩
theorem nO:∀(ls:List T3) (i j:Nat) (l:T3),ls[j]? = some l→O5 i (ls.take (j+1))=O5 i (ls.take j)++[f7 l (i+j),g6 (f7 l (i+j))]
 | [],_,_,_,h=>nomatch h
 | a :: r,i,0,l,h=>by
  obtain rfl:=Option.some.inj h
  rfl
 | a :: r,i,j+1,l,h=>by
  have:=nO r (i+1) j l h
  rw[So,So]
  show _ :: _ :: O5 (i+1) (r.take (j+1))=_ :: _ :: (O5 (i+1) (r.take j)++_)
  rw[this,show i+1+j=i+(j+1)by omega]
theorem dM:∀(ls:List T3) (i:Nat),(O5 i ls).length=2*ls.length
 | [],_=>rfl
 | a :: r,i=>by
  show(O5 (i+1) r).length+1+1=2*(r.length+1)
  rw[dM r (i+1)];omega
theorem K0(a b:Int):Qu a b=(a:Rat) / (b:Rat):=RR a b
theorem yB(a b:Sd):(Qu (a.2.2.1*b.2.1 - b.2.2.1*a.2.1) (veZ a b),Qu (a.1*b.2.2.1 - b.1*a.2.2.1) (veZ a b))=ry (tri a) (tri b):=by
 unfold ry
 rw[y7,K0,K0,Rf,Rf,PF,PF,PF,PF]
 rfl
theorem Fi{n:Nat}{a b:Sd}(ha:a.1.natAbs<2 ^ n∧a.2.1.natAbs<2 ^ n∧a.2.2.1.natAbs<2 ^ n)(hb:b.1.natAbs<2 ^ n∧b.2.1.natAbs<2 ^ n∧b.2.2.1.natAbs<2 ^ n)(hv:veZ a b≠0):sz (ry (tri a) (tri b)).1≤2*n+1∧sz (ry (tri a) (tri b)).2≤2*n+1:=by
 have sub:∀{x y z w:Int},x.natAbs<2 ^ n→y.natAbs<2 ^ n→z.natAbs<2 ^ n→w.natAbs<2 ^ n→(x*y - z*w).natAbs<2 ^ (2*n+1):=fun{x y z w} h1 h2 h3 h4=>by
  have e1:=g7 h1 h2
  have e2:=g7 h3 h4
  have:=RT (x*y) (z*w)
  rw[show 2*n+1=n+n+1 by omega,RX]
  omega
 rw[← yB]
 have hve:(veZ a b).natAbs<2 ^ (2*n+1):=sub ha.1 hb.2.1 ha.2.1 hb.1
 exact⟨aC (by omega) (sub ha.2.2 hb.2.1 hb.2.2 ha.2.1) hve hv,aC (by omega) (sub ha.1 hb.2.2 hb.1 ha.2.2) hve hv⟩
theorem gi{rs:List (Rat × Rat)}(h:rs≠[]):∀ i,i≤rs.length→J7 rs i<rs.length
 | 0,_=>by
  cases rs with
  | nil=>exact absurd rfl h
  | cons a r=>exact Nat.zero_lt_succ _
 | i+1,hi=>by
  unfold J7
  split
  ·omega
  ·exact gi h i (by omega)
theorem gH{ls:List T3}(hok:∀ l∈ls,LineOk l):(v9 (e8 ls)).length≤2*ls.length+1:=by
 have:∀(h0:Sd) (ss:List Sd) (k:Nat) (o:Option Sd),(G7 h0 ss k o).length≤k:=fun h0 ss k=>by
  induction k with
  | zero=>intro o;exact Py _
  | succ k ih =>
   intro o
   cases o with
   | none=>exact Qs _
   | some h =>
    show(if 0<veZ h0 h then h :: G7 h0 ss k (C9 h ss)else[]).length≤k+1
    split
    ·rw[Pp];have:=ih (C9 h ss);omega
    ·exact Qs _
 have e:=dM ls 0
 unfold e8
 cases es:O5 0 ls with
 | nil=>exact Qs _
 | cons s r =>
  rw[es]at e
  show(G7 _ _ _ _).length+1≤_
  have:=this (A9 (s :: r) s) (s :: r) (s :: r).length (C9 (A9 (s :: r) s) (s :: r))
  omega
theorem bR{ds:List D}{n:Nat}:DL.P2 ds (some (n:Int)) none=ds.drop n:=by
 unfold DL.P2 HT.sIx
 have h1:¬ ((n:Int)<0):=by omega
 simp only[h1,if_false]
 rw[show((n:Int)).toNat=n from rfl]
 by_cases h:n≤ds.length
 ·rw[Uz h,QI (by rw[Qh];exact Py _)]
 ·rw[Up (by omega),Tb (Py _),Tb (by omega)]
  simp
theorem Az{x:D}{xs:List D}:DL.P2 (x :: xs) (some 1) none=xs:=by
 have:=bR (ds:=x :: xs) (n:=1)
 exact this
theorem qg:∀(a b:List Sd),S9 (a.map sdD) (b.map sdD)=(a.zip b).map fun ab=>D.tup [sdD ab.1,sdD ab.2]
 | [],_=>rfl
 | _ :: _,[]=>rfl
 | x :: a,y :: b=>by
  show D.tup [sdD x,sdD y] :: S9 (a.map sdD) (b.map sdD)=_
  rw[qg a b];rfl
theorem oq(h0:Sd)(l:List Sd):(C6 h0 l).length=l.length+1:=by
 unfold C6
 rw[Pj,Qx,Pp,PB]
 simp
end GM
namespace GM
open PySem PySem.Spec L2 DL
open RM (sz)
noncomputable def loS(l:T3)(g:Rat):Rat:=K3 l g - D3 l
noncomputable def hiS(l:T3)(g:Rat):Rat:=K3 l g+D3 l
noncomputable def j8(s:Rat)(l:T3)(g:Rat):Rat:=s*K3 l g - D3 l
theorem gL(l:T3)(g:Rat):j8 1 l g=loS l g:=by unfold j8 loS;grind
theorem gM(l:T3)(g:Rat):j8 (-1) l g = -hiS l g:=by unfold j8 hiS;grind
theorem Z4{a q:Rat}(h:q≠0):a / q*q=a:=Qk h
theorem Q2{l:T3}(hr:0<l.2.2)(hq:l.2.1≠0)(g u:Rat):iy l g u=true↔loS l g≤u∧u≤hiS l g:=by
 rw[A2]
 unfold loS hiS K3 D3
 have e1:=Z4 (a:=l.1*g) hq
 have e2:=Z4 (a:=l.2.2) hq
 generalize l.1*g / l.2.1=P at *
 generalize l.2.2 / l.2.1=T at *
 generalize l.2.1=q at *
 generalize l.2.2=r at *
 generalize l.1*g=w at *
 subst e1
 have hT:r=T*q:=e2.symm
 rw[hT]at hr ⊢
 rcases tot 0 q with z|z
 ·have q0:0<q:=by grind
  have t0:0≤T:=j6 q0 (by grind)
  have a:j9 T=T:=by unfold j9;rw[if_pos t0]
  rw[a]
  have k1:=J9 (c:=q) (x:=P+u) (r:=T) q0
  have k2:=J9 (c:=q) (x:=-(P+u)) (r:=T) q0
  constructor
  ·rintro⟨h1,h2⟩
   have:=k1.mp (by grind)
   have:=k2.mp (by grind)
   exact⟨by grind,by grind⟩
  ·rintro⟨h1,h2⟩
   have:=k1.mpr (by grind)
   have:=k2.mpr (by grind)
   exact⟨by grind,by grind⟩
 ·have q0:0 < -q:=by grind
  have t0:0 ≤ -T:=j6 q0 (by grind)
  have a:j9 T = -T:=by
   unfold j9
   by_cases h:0≤T
   ·rw[if_pos h];grind
   ·rw[if_neg h]
  rw[a]
  have k1:=J9 (c:=-q) (x:=P+u) (r:=-T) q0
  have k2:=J9 (c:=-q) (x:=-(P+u)) (r:=-T) q0
  constructor
  ·rintro⟨h1,h2⟩
   have:=k1.mp (by grind)
   have:=k2.mp (by grind)
   exact⟨by grind,by grind⟩
  ·rintro⟨h1,h2⟩
   have:=k1.mpr (by grind)
   have:=k2.mpr (by grind)
   exact⟨by grind,by grind⟩
theorem bK{l:T3}(hq:l.2.1=0)(g u:Rat):iy l g u=true ↔ ¬ l.2.2<j9 (l.1*g):=by
 unfold iy
 rw[hq,decide_eq_true_iff,Uk,Sz]
 constructor<;>intro h<;>grind
theorem Q7{g:Rat}:∀(ls:List T3) (st:Option (Rat × Rat)),(B9 g ls st=none∧∃ l∈ls,l.2.1=0∧l.2.2<j9 (l.1*g)) ∨
  ((∀ l∈ls,l.2.1=0→¬ l.2.2<j9 (l.1*g))∧((B9 g ls st=some none∧st=none∧∀ l∈ls,l.2.1=0) ∨
   ∃ lo hi,B9 g ls st=some (some (lo,hi))∧(∀ l∈ls,l.2.1≠0→loS l g≤lo∧hi≤hiS l g)∧(∀ a b,st=some (a,b)→a≤lo∧hi≤b)∧((∃ l∈ls,l.2.1≠0∧lo=loS l g) ∨ ∃ b,st=some (lo,b))∧((∃ l∈ls,l.2.1≠0∧hi=hiS l g) ∨ ∃ a,st=some (a,hi))))
 | [],st=>by
  right
  refine⟨fun _ h=>(nomatch h),?_⟩
  rcases st with _|⟨a,b⟩
  ·exact .inl ⟨rfl,rfl,fun _ h=>nomatch h⟩
  ·exact .inr ⟨a,b,rfl,fun _ h=>(nomatch h),fun a' b' e=>by cases e;exact⟨Qe,Qe⟩,.inr ⟨b,rfl⟩,.inr ⟨a,rfl⟩⟩
 | l :: r,st=>by
  by_cases hq:l.2.1=0
  ·by_cases hr:l.2.2<j9 (l.1*g)
   ·left
    refine⟨?_,l,Po,hq,hr⟩
    rw[S5,if_pos hq,if_pos hr]
   ·have ec:B9 g (l :: r) st=B9 g r st:=by rw[S5,if_pos hq,if_neg hr]
    rw[ec]
    rcases Q7 r st with⟨h1,m,hm,h2⟩|⟨h0,h⟩
    ·exact .inl ⟨h1,m,Pk _ hm,h2⟩
    ·right
     refine⟨fun m hm=>?_,?_⟩
     ·rcases Pn.mp hm with rfl|hm
      ·exact fun _=>hr
      ·exact h0 m hm
     ·rcases h with⟨h1,h2,h3⟩|⟨lo,hi,h1,h2,h3,h4,h5⟩
      ·left
       refine⟨h1,h2,fun m hm=>?_⟩
       rcases Pn.mp hm with rfl|hm
       ·exact hq
       ·exact h3 m hm
      ·right
       refine⟨lo,hi,h1,fun m hm hn=>?_,h3,h4.imp (fun⟨m,hm,z⟩=>⟨m,Pk _ hm,z⟩) id,h5.imp (fun⟨m,hm,z⟩=>⟨m,Pk _ hm,z⟩) id⟩
       rcases Pn.mp hm with rfl|hm
       ·exact absurd hq hn
       ·exact h2 m hm hn
  ·have ec:B9 g (l :: r) st=B9 g r (stp st (loS l g) (hiS l g)):=by rw[S5,if_neg hq];rfl
   rw[ec]
   have hs:∃ a b,stp st (loS l g) (hiS l g)=some (a,b)∧loS l g≤a∧b≤hiS l g∧(∀ a' b',st=some (a',b')→a'≤a∧b≤b')∧(a=loS l g ∨ ∃ b',st=some (a,b'))∧(b=hiS l g ∨ ∃ a',st=some (a',b)):=by
    rcases st with _|⟨a,b⟩
    ·exact⟨_,_,rfl,Qe,Qe,fun _ _ z=>(nomatch z),.inl rfl,.inl rfl⟩
    ·refine⟨_,_,rfl,?_,?_,fun a' b' z=>?_,?_,?_⟩
     ·show loS l g≤if a<loS l g then loS l g else a
      split<;>grind
     ·show(if hiS l g<b then hiS l g else b)≤hiS l g
      split<;>grind
     ·cases z
      constructor
      ·show a≤if a<loS l g then loS l g else a
       split<;>grind
      ·show(if hiS l g<b then hiS l g else b)≤b
       split<;>grind
     ·show(if a<loS l g then loS l g else a)=loS l g ∨ ∃ b',some (a,b)=some (if a<loS l g then loS l g else a,b')
      split
      ·exact .inl rfl
      ·exact .inr ⟨b,rfl⟩
     ·show(if hiS l g<b then hiS l g else b)=hiS l g ∨ ∃ a',some (a,b)=some (a',if hiS l g<b then hiS l g else b)
      split
      ·exact .inl rfl
      ·exact .inr ⟨a,rfl⟩
   obtain⟨a,b,es,k1,k2,k3,k4,k5⟩:=hs
   rw[es]
   rcases Q7 r (some (a,b))with⟨h1,m,hm,h2⟩|⟨h0,h⟩
   ·exact .inl ⟨h1,m,Pk _ hm,h2⟩
   ·right
    refine⟨fun m hm=>?_,?_⟩
    ·rcases Pn.mp hm with rfl|hm
     ·exact fun z=>absurd z hq
     ·exact h0 m hm
    ·rcases h with⟨h1,h2,h3⟩|⟨lo,hi,h1,h2,h3,h4,h5⟩
     ·cases h2
     ·right
      obtain⟨q1,q2⟩:=h3 a b rfl
      refine⟨lo,hi,h1,fun m hm hn=>?_,fun a' b' z=>?_,?_,?_⟩
      ·rcases Pn.mp hm with rfl|hm
       ·exact⟨by grind,by grind⟩
       ·exact h2 m hm hn
      ·obtain⟨z1,z2⟩:=k3 a' b' z
       exact⟨by grind,by grind⟩
      ·rcases h4 with⟨m,hm,z⟩|⟨b',z⟩
       ·exact .inl ⟨m,Pk _ hm,z⟩
       ·cases z
        rcases k4 with k4|k4
        ·exact .inl ⟨l,Po,hq,k4⟩
        ·exact .inr k4
      ·rcases h5 with⟨m,hm,z⟩|⟨a',z⟩
       ·exact .inl ⟨m,Pk _ hm,z⟩
       ·cases z
        rcases k5 with k5|k5
        ·exact .inl ⟨l,Po,hq,k5⟩
        ·exact .inr k5
structure u7(ls:List T3)(g lo hi:Rat):Prop where
 eq:B9 g ls none=some (some (lo,hi))
 le:lo≤hi
 ub:∀ l∈ls,l.2.1≠0→loS l g≤lo∧hi≤hiS l g
 lo:∃ l∈ls,l.2.1≠0∧lo=loS l g
 hi:∃ l∈ls,l.2.1≠0∧hi=hiS l g
theorem u7.d{ls:List T3}{g lo hi:Rat}(h:u7 ls g lo hi):pN (B9 g ls none) = .tup [d8 lo,d8 hi]:=by
 rw[h.eq]
 show(if hi<lo then _ else _)=_
 rw[if_neg (by have:=h.le;grind)]
theorem bT{ls:List T3}(hok:∀ l∈ls,LineOk l)(hq:∃ l∈ls,l.2.1≠0){g u:Rat}(hK:o6 ls g u=true):∃ lo hi,u7 ls g lo hi∧lo≤u∧u≤hi:=by
 unfold o6 at hK
 rw[Qq]at hK
 rcases Q7 (g:=g) ls none with⟨_,l,hl,h1,h2⟩|⟨h0,h⟩
 ·exact absurd h2 ((bK h1 g u).mp (hK l hl))
 ·rcases h with⟨_,_,h3⟩|⟨lo,hi,h1,h2,_,h4,h5⟩
  ·obtain⟨l,hl,hn⟩:=hq
   exact absurd (h3 l hl) hn
  ·have h4:∃ l∈ls,l.2.1≠0∧lo=loS l g:=h4.resolve_right fun⟨_,z⟩=>nomatch z
   have h5:∃ l∈ls,l.2.1≠0∧hi=hiS l g:=h5.resolve_right fun⟨_,z⟩=>nomatch z
   have a1:lo≤u:=by
    obtain⟨l,hl,hn,rfl⟩:=h4
    exact((Q2 (hok l hl).pos hn g u).mp (hK l hl)).1
   have a2:u≤hi:=by
    obtain⟨l,hl,hn,rfl⟩:=h5
    exact((Q2 (hok l hl).pos hn g u).mp (hK l hl)).2
   exact⟨lo,hi,⟨h1,by grind,h2,h4,h5⟩,a1,a2⟩
theorem F5{ls:List T3}(hok:∀ l∈ls,LineOk l){g u lo hi:Rat}(h:B9 g ls none=some (some (lo,hi)))(h1:lo≤u)(h2:u≤hi):o6 ls g u=true:=by
 unfold o6
 rw[Qq]
 rcases Q7 (g:=g) ls none with⟨e,_⟩|⟨h0,h'⟩
 ·rw[h]at e;cases e
 ·rcases h' with⟨e,_⟩|⟨lo',hi',e,k,_⟩
  ·rw[h]at e;cases e
  ·rw[h]at e
   cases e
   intro l hl
   by_cases hq:l.2.1=0
   ·exact(bK hq g u).mpr (h0 l hl hq)
   ·obtain⟨k1,k2⟩:=k l hl hq
    exact(Q2 (hok l hl).pos hq g u).mpr ⟨by grind,by grind⟩
theorem DR{ls:List T3}(hok:∀ l∈ls,LineOk l)(hq:∃ l∈ls,l.2.1≠0){g:Rat}(hK:∀ u,o6 ls g u=false):pN (B9 g ls none) = .non:=by
 rcases Q7 (g:=g) ls none with⟨e,_⟩|⟨h0,h'⟩
 ·rw[e];rfl
 ·rcases h' with⟨_,_,h3⟩|⟨lo,hi,e,_⟩
  ·obtain⟨l,hl,hn⟩:=hq
   exact absurd (h3 l hl) hn
  ·rw[e]
   show(if hi<lo then _ else _)=_
   by_cases z:hi<lo
   ·rw[if_pos z]
   ·have:=hK lo
    rw[F5 hok e Qe (by grind)]at this
    cases this
theorem jw{ls:List T3}{a b u v t:Rat}(t0:0≤t)(t1:t≤1)(h1:o6 ls a u=true)(h2:o6 ls b v=true):o6 ls (a+(b - a)*t) (u+(v - u)*t)=true:=by
 unfold o6 at *
 rw[Qq]at *
 intro l hl
 obtain⟨a1,a2⟩:=(A2 l a u).mp (h1 l hl)
 obtain⟨b1,b2⟩:=(A2 l b v).mp (h2 l hl)
 rw[A2]
 have m1:0≤(1 - t)*(l.2.2 - (l.1*a+l.2.1*u)):=Pq (by grind) (by grind)
 have m2:0≤t*(l.2.2 - (l.1*b+l.2.1*v)):=Pq t0 (by grind)
 have m3:0≤(1 - t)*(l.2.2+(l.1*a+l.2.1*u)):=Pq (by grind) (by grind)
 have m4:0≤t*(l.2.2+(l.1*b+l.2.1*v)):=Pq t0 (by grind)
 constructor<;>grind
theorem pC{l:T3}(hq:l.2.1≠0)(hr:0<l.2.2){s:Rat}(hs:s=1∨s = -1){g u:Rat}(h:s*u=j8 s l g)(j:Nat):∃ a:Sd,(a=f7 l j∨a=g6 (f7 l j))∧dt (tri a) (g,u)=(tri a).2.2:=by
 have e1:=Z4 (a:=l.1*g) hq
 have e2:=Z4 (a:=l.2.2) hq
 have cp:=D8 l
 have key:l.1*g+l.2.1*u=l.2.2∨l.1*g+l.2.1*u = -l.2.2:=by
  unfold j8 K3 D3 j9 at h
  generalize l.1*g / l.2.1=P at *
  generalize l.2.2 / l.2.1=T at *
  rw[← e1,← e2]
  rcases hs with rfl|rfl
  ·split at h
   ·right;have:u = -P - T:=by grind
    rw[this];grind
   ·left;have:u = -P+T:=by grind
    rw[this];grind
  ·split at h
   ·left;have:u = -P+T:=by grind
    rw[this];grind
   ·right;have:u = -P - T:=by grind
    rw[this];grind
 rcases key with k|k
 ·refine⟨f7 l j,.inl rfl,?_⟩
  rw[Y5,B7]
  show(l.1*g+l.2.1*u)*_=l.2.2*_
  rw[k]
 ·refine⟨g6 (f7 l j),.inr rfl,?_⟩
  rw[lV]
  show -dt (tri (f7 l j)) (g,u)=(tri (f7 l j)).2.2
  rw[Y5,B7]
  show -((l.1*g+l.2.1*u)*_)=l.2.2*_
  rw[k];grind
theorem nD{a b:Sd}{l m:T3}{i j:Nat}(ha:a=f7 l i∨a=g6 (f7 l i))(hb:b=f7 m j∨b=g6 (f7 m j))(h:l.1*m.2.1≠m.1*l.2.1):ve (tri a) (tri b)≠0:=by
 have e:=fF l m i j
 have c:=t6 (Qt (D8 l) (D8 m))
 have ne:ve (tri (f7 l i)) (tri (f7 m j))≠0:=by
  rw[e]
  intro z
  generalize (cbL l:Rat)*(cbL m:Rat)=k at *
  generalize l.1*m.2.1=x at *
  generalize m.1*l.2.1=y at *
  grind
 have n1:∀ x y:T3,ve (ng x) y = -ve x y:=fun x y=>by unfold ve ng;grind
 have n2:∀ x y:T3,ve x (ng y) = -ve x y:=fun x y=>by unfold ve ng;grind
 rcases ha with rfl|rfl<;>rcases hb with rfl|rfl
 ·exact ne
 ·rw[v7,n2];intro z;exact ne (by grind)
 ·rw[v7,n1];intro z;exact ne (by grind)
 ·rw[v7,v7,n1,n2];intro z;exact ne (by grind)
theorem wb{ls:List T3}{h0:T3}{r:List T3}(R:Rim ((e8 ls).map tri) h0 r){l m:T3}(hl:l∈ls)(hm:m∈ls)(hok:∀ l∈ls,LineOk l)(ql:l.2.1≠0)(qm:m.2.1≠0){s:Rat}(hs:s=1∨s = -1){g u:Rat}(h1:s*u=j8 s l g)(h2:s*u=j8 s m g)(hv:l.1*m.2.1≠m.1*l.2.1)(hK:o6 ls g u=true):(g,u)∈S4 h0 r:=by
 obtain⟨i,m1,m2⟩:=X4 (i:=0) hl
 obtain⟨j,m3,m4⟩:=X4 (i:=0) hm
 obtain⟨a,ha,ta⟩:=pC ql (hok l hl).pos hs h1 i
 obtain⟨b,hb,tb⟩:=pC qm (hok m hm).pos hs h2 j
 have ma:tri a∈(e8 ls).map tri:=Pm.mpr ⟨a,by rcases ha with rfl|rfl<;>assumption,rfl⟩
 have mb:tri b∈(e8 ls).map tri:=Pm.mpr ⟨b,by rcases hb with rfl|rfl<;>assumption,rfl⟩
 have ne:=nD ha hb hv
 have sup:=(D4 ls (g,u)).mpr hK
 rcases tot 0 (ve (tri a) (tri b))with z|z
 ·exact R.corner sup ma mb (by grind) ta tb
 ·have e:ve (tri b) (tri a) = -ve (tri a) (tri b):=by unfold ve;grind
  exact R.corner sup mb ma (by grind) tb ta
theorem gK{α:Type}(f:α→Rat):∀(l:List α),l≠[]→∃ x∈l,∀ y∈l,f x≤f y
 | [],h=>absurd rfl h
 | [x],_=>⟨x,Po,fun y hy=>by rw[PY.mp hy];exact Qe⟩
 | x :: y :: r,_=>by
  obtain⟨m,hm,h⟩:=gK f (y :: r) (fun z=>nomatch z)
  by_cases c:f x≤f m
  ·refine⟨x,Po,fun z hz=>?_⟩
   rcases Pn.mp hz with rfl|hz
   ·exact Qe
   ·have:=h z hz;grind
  ·refine⟨m,Pk _ hm,fun z hz=>?_⟩
   rcases Pn.mp hz with rfl|hz
   ·grind
   ·exact h z hz
theorem bP(s:Rat)(l:T3)(a b t:Rat):j8 s l (a+(b - a)*t)=j8 s l a+(j8 s l b - j8 s l a)*t:=by
 unfold j8 K3
 have:l.1*(a+(b - a)*t) / l.2.1=l.1*a / l.2.1+(l.1*b / l.2.1 - l.1*a / l.2.1)*t:=by
  rw[Rj,Rj,Rj];grind
 rw[this];grind
theorem wa{s:Rat}(hs:s=1∨s = -1){l m:T3}(ql:l.2.1≠0)(qm:m.2.1≠0)(h:l.1*m.2.1=m.1*l.2.1)(a b:Rat):j8 s l b - j8 s l a=j8 s m b - j8 s m a:=by
 unfold j8 K3
 have e:∀ g:Rat,l.1*g / l.2.1=m.1*g / m.2.1:=fun g=>by
  have k1:=Z4 (a:=l.1*g) ql
  have k2:=Z4 (a:=m.1*g) qm
  have k3:(l.1*g / l.2.1 - m.1*g / m.2.1)*(l.2.1*m.2.1)=0:=by
   have:(l.1*g / l.2.1 - m.1*g / m.2.1)*(l.2.1*m.2.1)=(l.1*g / l.2.1*l.2.1)*m.2.1 - (m.1*g / m.2.1*m.2.1)*l.2.1:=by grind
   rw[this,k1,k2];grind
  have k4:l.2.1*m.2.1≠0:=by grind
  grind
 rw[e a,e b];grind
theorem yW{ls:List T3}{h0:T3}{r:List T3}(R:Rim ((e8 ls).map tri) h0 r)(hok:∀ l∈ls,LineOk l){s:Rat}(hs:s=1∨s = -1){a b ua ub:Rat}(Ka:o6 ls a ua=true)(Kb:o6 ls b ub=true){l:T3}(hl:l∈ls)(ql:l.2.1≠0)
  (top:∀ m∈ls,m.2.1≠0→j8 s m a≤j8 s l a) {m:T3} (hm:m∈ls) (qm:m.2.1≠0) (hp:j8 s l b<j8 s m b):∃ t u,0≤t∧t<1∧(a+(b - a)*t,u)∈S4 h0 r:=by
 let P:=ls.filter fun k=>decide (k.2.1≠0) && decide (j8 s l b<j8 s k b)
 have memP:∀ k,k∈P↔k∈ls∧k.2.1≠0∧j8 s l b<j8 s k b:=fun k=>by
  rw[Sj,Rl,decide_eq_true_eq,decide_eq_true_eq]
 let tk:T3→Rat:=fun k=>(j8 s l a - j8 s k a) / ((j8 s l a - j8 s k a)+(j8 s k b - j8 s l b))
 obtain⟨j,hj,hmin⟩:=gK tk P (List.ne_nil_of_mem ((memP m).mpr ⟨hm,qm,hp⟩))
 have tkf:∀ k∈P,0<(j8 s l a - j8 s k a)+(j8 s k b - j8 s l b)∧tk k*((j8 s l a - j8 s k a)+(j8 s k b - j8 s l b))=j8 s l a - j8 s k a:=fun k hk=>by
  obtain⟨k1,k2,k3⟩:=(memP k).mp hk
  have:=top k k1 k2
  have d:0<(j8 s l a - j8 s k a)+(j8 s k b - j8 s l b):=by grind
  exact⟨d,Z4 (t6 d)⟩
 obtain⟨j1,j2,j3⟩:=(memP j).mp hj
 obtain⟨dj,ej⟩:=tkf j hj
 have tj:=top j j1 j2
 have t0:0≤tk j:=j6 dj (by rw[RD,ej];grind)
 have t1:tk j<1:=by
  have:0<((j8 s l a - j8 s j a)+(j8 s j b - j8 s l b))*(1 - tk j):=by grind
  rcases tot (1 - tk j) 0 with z|z
  ·have:=Pq (G0 dj) (show 0 ≤ -(1 - tk j)by grind)
   grind
  ·by_cases e:1 - tk j=0
   ·rw[e]at this;grind
   ·grind
 refine⟨tk j,s*j8 s l (a+(b - a)*tk j),t0,t1,?_⟩
 have ss:s*s=1:=by rcases hs with rfl|rfl<;>grind
 have hu:s*(s*j8 s l (a+(b - a)*tk j))=j8 s l (a+(b - a)*tk j):=by
  rw[← TR,ss,TF]
 have eq:j8 s j (a+(b - a)*tk j)=j8 s l (a+(b - a)*tk j):=by
  rw[bP,bP];grind
 have dom:∀ k∈ls,k.2.1≠0→j8 s k (a+(b - a)*tk j)≤j8 s l (a+(b - a)*tk j):=fun k hk qk=>by
  rw[bP,bP]
  have ta:=top k hk qk
  by_cases c:j8 s l b<j8 s k b
  ·have hkP:=(memP k).mpr ⟨hk,qk,c⟩
   have:=hmin k hkP
   obtain⟨dk,ek⟩:=tkf k hkP
   have:=Pq (show 0≤tk k - tk j by grind) (G0 dk)
   grind
  ·have n1:=Pq (show 0≤1 - tk j by grind) (show 0≤j8 s l a - j8 s k a by grind)
   have n2:=Pq t0 (show 0≤j8 s l b - j8 s k b by grind)
   grind
 have Kc:=jw t0 (by grind) Ka Kb
 have hv:l.1*j.2.1≠j.1*l.2.1:=fun z=>by
  have:=wa hs ql j2 z a b
  have:=top j j1 j2
  grind
 refine wb R hl j1 hok ql j2 hs hu (by rw[hu,eq]) hv ?_
 generalize hc:a+(b - a)*tk j=c at *
 generalize ua+(ub - ua)*tk j=uc at *
 unfold o6 at Kc ⊢
 rw[Qq]at Kc ⊢
 intro k hk
 by_cases qk:k.2.1=0
 ·exact(bK qk c _).mpr ((bK qk c uc).mp (Kc k hk))
 ·obtain⟨c1,c2⟩:=(Q2 (hok k hk).pos qk c uc).mp (Kc k hk)
  obtain⟨l1,l2⟩:=(Q2 (hok l hl).pos ql c uc).mp (Kc l hl)
  have d:=dom k hk qk
  rw[Q2 (hok k hk).pos qk]
  rcases hs with rfl|rfl
  ·rw[gL,gL]at d
   rw[gL]
   exact⟨by grind,by grind⟩
  ·rw[gM,gM]at d
   rw[gM]
   exact⟨by grind,by grind⟩
theorem lU{ls:List T3}{g lo hi:Rat}(h:u7 ls g lo hi){s:Rat}(hs:s=1∨s = -1):∃ T,(T=if s=1 then lo else -hi)∧(∀ m∈ls,m.2.1≠0→j8 s m g≤T)∧∃ l∈ls,l.2.1≠0∧j8 s l g=T:=by
 rcases hs with rfl|rfl
 ·refine⟨lo,by rw[if_pos rfl],fun m hm hn=>by rw[gL];exact(h.ub m hm hn).1,?_⟩
  obtain⟨l,hl,hn,e⟩:=h.lo
  exact⟨l,hl,hn,by rw[gL,e]⟩
 ·refine⟨-hi,by rw[if_neg (by decide)],fun m hm hn=>by rw[gM];have:=(h.ub m hm hn).2;grind,?_⟩
  obtain⟨l,hl,hn,e⟩:=h.hi
  exact⟨l,hl,hn,by rw[gM,e]⟩
theorem um{ls:List T3}{h0:T3}{r:List T3}(R:Rim ((e8 ls).map tri) h0 r)(hok:∀ l∈ls,LineOk l){s:Rat}(hs:s=1∨s = -1){a b lo1 hi1 lo2 hi2 lo hi:Rat}(hab:a<b)(ca:u7 ls a lo1 hi1)(cb:u7 ls b lo2 hi2)(cm:u7 ls (a+(b - a)*(1 / 2)) lo hi)
  (no:∀ z∈S4 h0 r,¬ (a<z.1∧z.1<b)):(if s=1 then lo else -hi)=(if s=1 then lo1 else -hi1)*(1 / 2)+(if s=1 then lo2 else -hi2)*(1 / 2):=by
 obtain⟨T,eT,hT,l,hl,ql,el⟩:=lU cm hs
 obtain⟨T1,eT1,hT1,l1,hl1,ql1,el1⟩:=lU ca hs
 obtain⟨T2,eT2,hT2,l2,hl2,ql2,el2⟩:=lU cb hs
 have Km:=F5 hok cm.eq Qe cm.le
 have Ka:=F5 hok ca.eq Qe ca.le
 have Kb:=F5 hok cb.eq Qe cb.le
 have top:∀ m∈ls,m.2.1≠0→j8 s m (a+(b - a)*(1 / 2))≤j8 s l (a+(b - a)*(1 / 2)):=fun m hm qm=>by rw[el];exact hT m hm qm
 have e1:j8 s l a=T1:=by
  have u1:=hT1 l hl ql
  by_cases c:j8 s l a<T1
  ·rw[← el1]at c
   obtain⟨t,u,t0,t1,hz⟩:=yW R hok hs Km Ka hl ql top hl1 ql1 c
   refine absurd ?_ (no _ hz)
   have m1:=Pq t0 (show 0≤b - a by grind)
   have m2:=Qt (show 0<1 - t by grind) (show 0<b - a by grind)
   exact⟨by show a<_;grind,by show _<b;grind⟩
  ·grind
 have e2:j8 s l b=T2:=by
  have u2:=hT2 l hl ql
  by_cases c:j8 s l b<T2
  ·rw[← el2]at c
   obtain⟨t,u,t0,t1,hz⟩:=yW R hok hs Km Kb hl ql top hl2 ql2 c
   refine absurd ?_ (no _ hz)
   have m1:=Pq t0 (show 0≤b - a by grind)
   have m2:=Qt (show 0<1 - t by grind) (show 0<b - a by grind)
   exact⟨by show a<_;grind,by show _<b;grind⟩
  ·grind
 rw[← eT,← eT1,← eT2,← el,bP,e1,e2]
 grind
theorem zx{ls:List T3}{h0:T3}{r:List T3}(R:Rim ((e8 ls).map tri) h0 r)(hok:∀ l∈ls,LineOk l)(hq:∃ l∈ls,l.2.1≠0){a b lo1 hi1 lo2 hi2:Rat}(hab:a<b)(ca:u7 ls a lo1 hi1)(cb:u7 ls b lo2 hi2)
  (no:∀ z∈S4 h0 r,¬ (a<z.1∧z.1<b)):u7 ls ((a+b)*(1 / 2)) ((lo1+lo2)*(1 / 2)) ((hi1+hi2)*(1 / 2)):=by
 have Ka:=F5 hok ca.eq Qe ca.le
 have Kb:=F5 hok cb.eq Qe cb.le
 have Km:=jw (t:=1 / 2) (by grind) (by grind) Ka Kb
 obtain⟨lo,hi,cm,_,_⟩:=bT hok hq Km
 have e1:=um R hok (.inl rfl) hab ca cb cm no
 have e2:=um R hok (.inr rfl) hab ca cb cm no
 rw[if_pos rfl,if_pos rfl,if_pos rfl]at e1
 rw[if_neg (by decide),if_neg (by decide),if_neg (by decide)]at e2
 have em:a+(b - a)*(1 / 2)=(a+b)*(1 / 2):=by grind
 have el:lo=(lo1+lo2)*(1 / 2):=by grind
 have eh:hi=(hi1+hi2)*(1 / 2):=by grind
 rw[em,el,eh]at cm
 exact cm
theorem Rim.tight{ss:List T3}{h0:T3}{l:List T3}(R:Rim ss h0 l){z:Rat × Rat}(h:z∈S4 h0 l):Sup ss z∧∃ a b,a∈ss∧b∈ss∧ve a b≠0∧dt a z=a.2.2∧dt b z=b.2.2:=by
 rcases PL.mp h with h|h
 ·obtain⟨ab,hab,rfl⟩:=Pm.mp h
  obtain⟨q1,q2,q3,q4⟩:=R.all ab hab
  exact⟨q4,_,_,q1,q2,t6 q3,dq (t6 q3),cw (t6 q3)⟩
 ·obtain⟨ab,hab,rfl⟩:=Pm.mp h
  obtain⟨q1,q2,q3,q4⟩:=R.all ab hab
  have e:∀(a:T3) z,dt (ng a) (ngZ z)=dt a z:=fun a z=>by unfold dt ng ngZ;grind
  refine⟨Z9 R.sy q4,_,_,R.sy _ q1,R.sy _ q2,?_,by rw[e,dq (t6 q3)];rfl,by rw[e,cw (t6 q3)];rfl⟩
  have:ve (ng ab.1) (ng ab.2)=ve ab.1 ab.2:=by unfold ve ng;grind
  rw[this];exact t6 q3
theorem Rim.neg{ss:List T3}{h0:T3}{l:List T3}{z:Rat × Rat}(h:z∈S4 h0 l):ngZ z∈S4 h0 l:=by
 have nn:∀ z:Rat × Rat,ngZ (ngZ z)=z:=fun z=>by
  unfold ngZ;exact Prod.ext (by show - -z.1=z.1;grind) (by show - -z.2=z.2;grind)
 rcases PL.mp h with h|h
 ·obtain⟨ab,hab,rfl⟩:=Pm.mp h
  exact PN _ (Pm.mpr ⟨ab,hab,rfl⟩)
 ·obtain⟨ab,hab,rfl⟩:=Pm.mp h
  rw[nn]
  exact QF _ (Pm.mpr ⟨ab,hab,rfl⟩)
theorem uH{a b:T3}{h1 h2 h3 x1 x2 x3:Rat}(l1:h1<h2)(l2:h2<h3)(a1:dt a (h1,x1)≤a.2.2)(a3:dt a (h3,x3)≤a.2.2)(b1:dt b (h1,x1)≤b.2.2)(b3:dt b (h3,x3)≤b.2.2)(ta:dt a (h2,x2)=a.2.2)(tb:dt b (h2,x2)=b.2.2)
  (e:(x2 - x1) / (h2 - h1)=(x3 - x2) / (h3 - h2)):ve a b=0:=by
 have d1:0<h2 - h1:=by grind
 have d2:0<h3 - h2:=by grind
 have k1:=Z4 (a:=x2 - x1) (t6 d1)
 have k2:=Z4 (a:=x3 - x2) (t6 d2)
 rw[e]at k1
 generalize (x3 - x2) / (h3 - h2)=w at *
 have one:∀ c:T3,dt c (h1,x1)≤c.2.2→dt c (h3,x3)≤c.2.2→dt c (h2,x2)=c.2.2→c.1+c.2.1*w=0:=fun c c1 c3 c2=>by
  unfold dt at c1 c2 c3
  have c1:c.1*h1+c.2.1*x1≤c.2.2:=c1
  have c3:c.1*h3+c.2.1*x3≤c.2.2:=c3
  have c2:c.1*h2+c.2.1*x2=c.2.2:=c2
  have e1:x1=x2 - w*(h2 - h1):=by grind
  have e3:x3=x2+w*(h3 - h2):=by grind
  rw[e1]at c1
  rw[e3]at c3
  have p1:0≤(h2 - h1)*(c.1+c.2.1*w):=by grind
  have p3:0≤(h3 - h2) * -(c.1+c.2.1*w):=by grind
  have:=j6 d1 p1
  have:=j6 d2 p3
  grind
 have oa:=one a a1 a3 ta
 have ob:=one b b1 b3 tb
 unfold ve
 have:a.1 = -(a.2.1*w):=by grind
 have:b.1 = -(b.2.1*w):=by grind
 grind
theorem bent{ls:List T3}{h0:T3}{r:List T3}(R:Rim ((e8 ls).map tri) h0 r)(hok:∀ l∈ls,LineOk l){h1 h2 h3 lo1 hi1 lo2 hi2 lo3 hi3 u:Rat}(l1:h1<h2)(l2:h2<h3)(c1:u7 ls h1 lo1 hi1)(c2:u7 ls h2 lo2 hi2)(c3:u7 ls h3 lo3 hi3)(hc:(h2,u)∈S4 h0 r) :
  ¬ ((lo2 - lo1) / (h2 - h1)=(lo3 - lo2) / (h3 - h2)∧(hi2 - hi1) / (h2 - h1)=(hi3 - hi2) / (h3 - h2)):=by
 rintro⟨e1,e2⟩
 obtain⟨sup,a,b,ha,hb,hv,ta,tb⟩:=R.tight hc
 have sp:∀{g lo hi x:Rat},u7 ls g lo hi→lo≤x→x≤hi→Sup ((e8 ls).map tri) (g,x):=fun c z1 z2=>(D4 ls (_,_)).mpr (F5 hok c.eq z1 z2)
 obtain⟨lo,hi,c,q1,q2⟩:=bT hok (by obtain⟨l,hl,hn,_⟩:=c2.lo;exact⟨l,hl,hn⟩) ((D4 ls (h2,u)).mp sup)
 have ee:some (some (lo,hi))=some (some (lo2,hi2)):=by rw[← c.eq,← c2.eq]
 injection ee with ee
 injection ee with ee
 injection ee with ee1 ee2
 subst ee1;subst ee2
 have Lo1:=sp c1 Qe c1.le
 have Lo2:=sp c2 Qe c2.le
 have Lo3:=sp c3 Qe c3.le
 have Hi1:=sp c1 c1.le Qe
 have Hi2:=sp c2 c2.le Qe
 have Hi3:=sp c3 c3.le Qe
 have pa:=R.pos a ha
 rcases tot 0 a.2.1 with z|z
 ·by_cases z0:a.2.1=0
  ·have k1:=Lo1 a ha
   have k3:=Lo3 a ha
   unfold dt at k1 k3 ta
   have k1:a.1*h1+a.2.1*lo1≤a.2.2:=k1
   have k3:a.1*h3+a.2.1*lo3≤a.2.2:=k3
   have ta:a.1*h2+a.2.1*u=a.2.2:=ta
   rw[z0]at k1 k3 ta
   have p1:0≤(h2 - h1)*a.1:=by grind
   have p3:0≤(h3 - h2) * -a.1:=by grind
   have:=j6 (by grind) p1
   have:=j6 (by grind) p3
   have:a.1=0:=by grind
   rw[this]at ta
   grind
  ·have k:=Hi2 a ha
   have eu:u=hi:=by
    unfold dt at k ta
    have k:a.1*h2+a.2.1*hi≤a.2.2:=k
    have ta:a.1*h2+a.2.1*u=a.2.2:=ta
    have:0≤a.2.1*(u - hi):=by grind
    have:=j6 (by grind) this
    grind
   subst eu
   exact hv (uH l1 l2 (Hi1 a ha) (Hi3 a ha) (Hi1 b hb) (Hi3 b hb) ta tb e2)
 ·by_cases z0:a.2.1=0
  ·have k1:=Lo1 a ha
   have k3:=Lo3 a ha
   unfold dt at k1 k3 ta
   have k1:a.1*h1+a.2.1*lo1≤a.2.2:=k1
   have k3:a.1*h3+a.2.1*lo3≤a.2.2:=k3
   have ta:a.1*h2+a.2.1*u=a.2.2:=ta
   rw[z0]at k1 k3 ta
   have p1:0≤(h2 - h1)*a.1:=by grind
   have p3:0≤(h3 - h2) * -a.1:=by grind
   have:=j6 (by grind) p1
   have:=j6 (by grind) p3
   have:a.1=0:=by grind
   rw[this]at ta
   grind
  ·have k:=Lo2 a ha
   have eu:u=lo:=by
    unfold dt at k ta
    have k:a.1*h2+a.2.1*lo≤a.2.2:=k
    have ta:a.1*h2+a.2.1*u=a.2.2:=ta
    have:0 ≤ -a.2.1*(lo - u):=by grind
    have:=j6 (by grind) this
    grind
   subst eu
   exact hv (uH l1 l2 (Lo1 a ha) (Lo3 a ha) (Lo1 b hb) (Lo3 b hb) ta tb e1)
theorem Iw{ls:List T3}{h0:T3}{r:List T3}(R:Rim ((e8 ls).map tri) h0 r){g:Rat}(h:∀ z∈S4 h0 r,z.1<g):∀ u,o6 ls g u=false:=fun u=>by
 cases e:o6 ls g u with
 | false=>rfl
 | true =>
  obtain⟨c,hc,_,hm⟩:=R.most (1,0,0) (fun z=>by have:=z.1;revert this;decide)
  have:=hm (g,u) ((D4 ls (g,u)).mpr e)
  unfold dt at this
  have:=h c hc
  grind
theorem above{ls:List T3}{h0:T3}{r:List T3}(R:Rim ((e8 ls).map tri) h0 r)(hok:∀ l∈ls,LineOk l):∃ z∈S4 h0 r,0<z.1:=by
 have eps:∀(l:List T3),(∀ x∈l,LineOk x)→∃ e:Rat,0<e∧∀ x∈l,iy x e 0=true:=fun l=>by
  induction l with
  | nil=>exact fun _=>⟨1,by decide,fun _ h=>nomatch h⟩
  | cons x l ih =>
   intro h
   obtain⟨e,e0,he⟩:=ih fun y hy=>h y (Pk _ hy)
   have hr:=(h x Po).pos
   have small:∀{y:T3} {e e':Rat},iy y e 0=true→0≤e'→e'≤e→0<e→iy y e' 0=true:=fun{y e e'} k z1 z2 z3=>by
    rw[A2]at k ⊢
    rw[RE,Sz]at k ⊢
    obtain⟨k1,k2⟩:=k
    have m1:0≤e'*(y.2.2 - y.1*e):=Pq z1 (by grind)
    have m2:0≤e'*(y.2.2+y.1*e):=Pq z1 (by grind)
    have r0:0≤y.2.2:=by grind
    have m3:0≤y.2.2*(e - e'):=Pq r0 (by grind)
    have u1:0≤e*(y.2.2 - y.1*e'):=by grind
    have u2:=j6 z3 u1
    have u3:0≤e*(y.2.2+y.1*e'):=by grind
    have u4:=j6 z3 u3
    exact⟨by grind,by grind⟩
   by_cases p0:x.1=0
   ·refine⟨e,e0,fun y hy=>?_⟩
    rcases Pn.mp hy with rfl|hy
    ·rw[A2,p0];exact⟨by grind,by grind⟩
    ·exact he y hy
   ·have ap:0<j9 x.1:=Eb p0
    have dd:=Z4 (a:=x.2.2) (t6 ap)
    have t0:0<x.2.2 / j9 x.1:=by
     rcases tot (x.2.2 / j9 x.1) 0 with z|z
     ·have:=Pq (show 0 ≤ -(x.2.2 / j9 x.1)by grind) (G0 ap)
      grind
     ·by_cases z0:x.2.2 / j9 x.1=0
      ·rw[z0]at dd;grind
      ·grind
    have lx:iy x (x.2.2 / j9 x.1) 0=true:=by
     rw[A2,RE,Sz]
     generalize x.2.2 / j9 x.1=t at *
     unfold j9 at dd
     have x0:0≤x.2.2:=by grind
     split at dd
     ·exact⟨by grind,by grind⟩
     ·exact⟨by grind,by grind⟩
    by_cases c:x.2.2 / j9 x.1≤e
    ·refine⟨_,t0,fun y hy=>?_⟩
     rcases Pn.mp hy with rfl|hy
     ·exact lx
     ·exact small (he y hy) (G0 t0) c e0
    ·refine⟨e,e0,fun y hy=>?_⟩
     rcases Pn.mp hy with rfl|hy
     ·exact small lx (G0 e0) (by grind) t0
     ·exact he y hy
 obtain⟨e,e0,he⟩:=eps ls hok
 obtain⟨c,hc,_,hm⟩:=R.most (1,0,0) (fun z=>by have:=z.1;revert this;decide)
 have:=hm (e,0) ((D4 ls (e,0)).mpr (by unfold o6;rw[Qq];exact he))
 unfold dt at this
 exact⟨c,hc,by grind⟩
noncomputable def cD(xs:List Rat)(a:Rat):List Rat:=if a∈xs then xs else xs.filter (fun b=>decide (b<a))++[a]++xs.drop (xs.filter fun b=>decide (b<a)).length
noncomputable def G6(qs:List Rat):List Rat:=qs.foldl cD []
def Ris(xs:List Rat):Prop:=xs.Pairwise (· < ·)
theorem Ris.cut{xs:List Rat}(h:Ris xs)(a:Rat):xs.filter (fun b=>decide (b<a))++xs.drop (xs.filter fun b=>decide (b<a)).length=xs∧∀ y∈xs.drop (xs.filter fun b=>decide (b<a)).length,¬ y<a:=by
 induction xs with
 | nil=>exact⟨rfl,fun _ h=>nomatch h⟩
 | cons x xs ih =>
  obtain⟨h1,h2⟩:=QA.mp h
  obtain⟨i1,i2⟩:=ih h2
  by_cases c:x<a
  ·rw[Qg (by simpa using c),Pp,List.drop_succ_cons]
   exact⟨by rw[Uq,i1],i2⟩
  ·have e:xs.filter (fun b=>decide (b<a))=[]:=by
    rw[List.filter_eq_nil_iff]
    intro y hy
    have:=h1 y hy
    simp only[decide_eq_true_eq]
    grind
   rw[Qo (by simpa using c),e]
   refine⟨rfl,fun y hy=>?_⟩
   rcases Pn.mp hy with rfl|hy
   ·exact c
   ·have:=h1 y hy;grind
theorem Ris.ins{xs:List Rat}(h:Ris xs)(a:Rat):Ris (cD xs a)∧∀ y,y∈cD xs a↔y∈xs∨y=a:=by
 unfold cD
 split
 ·rename_i ha
  exact⟨h,fun y=>⟨.inl,fun z=>z.elim id fun e=>e▸ha⟩⟩
 ·rename_i ha
  obtain⟨e,hd⟩:=h.cut a
  generalize hl:xs.filter (fun b=>decide (b<a))=lo at *
  generalize hu:xs.drop lo.length=up at *
  have hlo:∀ y∈lo,y<a:=fun y hy=>by
   rw[← hl]at hy
   simpa using(Sj.mp hy).2
  have hup:∀ y∈up,a<y:=fun y hy=>by
   have h1:=hd y hy
   have h2:y≠a:=fun z=>ha (by rw[← e,← z];exact PN _ hy)
   grind
  have hp:Ris (lo++up):=by rw[e];exact h
  obtain⟨p1,p2,p3⟩:=Sg.mp hp
  refine⟨?_,fun y=>?_⟩
  ·refine Sg.mpr ⟨Sg.mpr ⟨p1,List.pairwise_singleton _ _,fun x hx y hy=>?_⟩,p2,fun x hx y hy=>?_⟩
   ·rw[PY.mp hy];exact hlo x hx
   ·rcases PL.mp hx with hx|hx
    ·exact p3 x hx y hy
    ·rw[PY.mp hx];exact hup y hy
  ·rw[← e]
   simp only[PL,PY]
   grind
theorem oo:∀(qs xs:List Rat),Ris xs→Ris (qs.foldl cD xs)∧∀ y,y∈qs.foldl cD xs↔y∈xs∨y∈qs
 | [],xs,h=>⟨h,fun y=>by simp⟩
 | a :: qs,xs,h=>by
  obtain⟨h1,h2⟩:=h.ins a
  obtain⟨h3,h4⟩:=oo qs (cD xs a) h1
  refine⟨h3,fun y=>?_⟩
  rw[Sv,h4,h2,Pn]
  grind
theorem lb(qs:List Rat):Ris (G6 qs)∧∀ y,y∈G6 qs↔y∈qs:=by
 obtain⟨h1,h2⟩:=oo qs [] List.Pairwise.nil
 exact⟨h1,fun y=>by unfold G6;rw[h2];simp⟩
theorem Ris.uniq:∀{xs ys:List Rat},Ris xs→Ris ys→(∀ y,y∈xs↔y∈ys)→xs=ys
 | [],[],_,_,_=>rfl
 | [],y :: ys,_,_,h=>absurd ((h y).mpr Po) (fun z=>nomatch z)
 | x :: xs,[],_,_,h=>absurd ((h x).mp Po) (fun z=>nomatch z)
 | x :: xs,y :: ys,h1,h2,h=>by
  obtain⟨a1,a2⟩:=QA.mp h1
  obtain⟨b1,b2⟩:=QA.mp h2
  have e:x=y:=by
   have hx:=(h x).mp Po
   have hy:=(h y).mpr Po
   rcases Pn.mp hx with z|z
   ·exact z
   ·rcases Pn.mp hy with w|w
    ·exact w.symm
    ·have:=b1 x z
     have:=a1 y w
     grind
  subst e
  rw[Ris.uniq a2 b2 fun z=>?_]
  constructor
  ·intro hz
   have:=a1 z hz
   rcases Pn.mp ((h z).mp (Pk _ hz))with w|w
   ·grind
   ·exact w
  ·intro hz
   have:=b1 z hz
   rcases Pn.mp ((h z).mpr (Pk _ hz))with w|w
   ·grind
   ·exact w
theorem Ct{xs:List Rat}(h:Ris xs)(hn:∀ y∈xs,-y∈xs):(xs.map fun y=>-y).reverse=xs:=by
 refine Ris.uniq ?_ h fun y=>?_
 ·refine List.pairwise_reverse.mpr (QJ.mpr (h.imp fun z=>?_))
  grind
 ·rw[List.mem_reverse,Pm]
  constructor
  ·rintro⟨z,hz,rfl⟩;exact hn z hz
  ·intro hy;exact⟨-y,hn y hy,by grind⟩
theorem CD.led5{S k:Nat}{x:Str × Rat}{a b c d:Rat}(h:CD S a b c d)(hx:sz x.2≤k):CD (S+(k+1)) (Q3 x a c).1 (Q3 x b d).1 (Q3 x a c).2 (Q3 x b d).2:=by
 unfold Q3
 by_cases h1:x.1 = "gap"
 ·rw[if_pos h1,if_pos h1];exact h.step hx
 ·rw[if_neg h1,if_neg h1]
  by_cases h2:x.1 = "glass"
  ·rw[if_pos h2,if_pos h2]
   have:=(h.swap.step (q:=-x.2) (k:=k) (by rw[RM.F7];exact hx)).swap
   have e:∀ u v:Rat,u + -x.2*v=u - x.2*v:=fun u v=>by grind
   rw[e,e]at this
   exact this
  ·rw[if_neg h2,if_neg h2];exact h.mono (by omega)
theorem CW{bs:List (Str × Rat)}(hb:∀ x∈bs,B6 x):CD (1+42*bs.length) (j7 bs (1,0)).1 (j7 bs (0,1)).1 (j7 bs (1,0)).2 (j7 bs (0,1)).2:=by
 have gen:∀(bs:List (Str × Rat)) (S:Nat) (a b c d:Rat),(∀ x∈bs,B6 x)→CD S a b c d→CD (S+42*bs.length) (j7 bs (a,c)).1 (j7 bs (b,d)).1 (j7 bs (a,c)).2 (j7 bs (b,d)).2:=by
  intro bs
  induction bs with
  | nil=>intro S a b c d _ h;exact h.mono (by simp)
  | cons x r ih =>
   intro S a b c d hb h
   have h1:=h.led5 (hb x Po).sz
   have h2:=ih _ _ _ _ _ (fun z hz=>hb z (Pk _ hz)) h1
   exact h2.mono (by simp only[Pp];omega)
 exact gen bs 1 1 0 0 1 hb CD.one
theorem oz(bs:List (Str × Rat)):(j7 bs (1,0)).1*(j7 bs (0,1)).2 - (j7 bs (0,1)).1*(j7 bs (1,0)).2=1:=by
 have gen:∀(bs:List (Str × Rat)) (a b c d:Rat),a*d - b*c=1→(j7 bs (a,c)).1*(j7 bs (b,d)).2 - (j7 bs (b,d)).1*(j7 bs (a,c)).2=1:=by
  intro bs
  induction bs with
  | nil=>intro a b c d h;exact h
  | cons x r ih =>
   intro a b c d h
   refine ih (Q3 x a c).1 (Q3 x b d).1 (Q3 x a c).2 (Q3 x b d).2 ?_
   unfold Q3
   by_cases h1:x.1 = "gap"
   ·rw[if_pos h1,if_pos h1];grind
   ·rw[if_neg h1,if_neg h1]
    by_cases h2:x.1 = "glass"
    ·rw[if_pos h2,if_pos h2];grind
    ·rw[if_neg h2,if_neg h2];exact h
 exact gen bs 1 0 0 1 (by grind)
theorem zF{bs:List (Str × Rat)}(hok:∀ x∈bs,B6 x):∀ i,∀ l∈C8 bs i,∃(j:Nat) (r:Rat),l=((j7 (bs.take j) (1,0)).1,(j7 (bs.take j) (0,1)).1,r)∧0<r∧sz r≤41
 | 0,l,h=>by cases h
 | i+1,l,h=>by
  rcases PL.mp h with h|h
  ·exact zF hok i l h
  ·cases e:bs[i]? with
   | none=>rw[e]at h;cases h
   | some x =>
    replace h:l∈(if x.1 = "stop" then[((j7 (bs.take i) (1,0)).1,(j7 (bs.take i) (0,1)).1,x.2)]else[]):=by rw[e]at h;exact h
    by_cases hx:x.1 = "stop"
    ·rw[if_pos hx]at h
     have ok:=hok x (Px e)
     refine⟨i,x.2,PY.mp h,?_,ok.sz⟩
     rcases ok.kind with⟨z,_⟩|z|⟨_,z⟩
     ·rw[z]at hx;exact absurd hx (by decide)
     ·rw[z]at hx;exact absurd hx (by decide)
     ·exact z
    ·rw[if_neg hx]at h;cases h
theorem qp{q:Rat}{c N:Nat}{A:Int}(hd:q.den ∣ c)(hc:c ∣ N)(hN:0<N)(e:q*(N:Rat)=(A:Rat)):(O1 q c).natAbs≤A.natAbs:=by
 obtain⟨m,rfl⟩:=hc
 have h1:=X2 hd
 have e2:(A:Rat)=((O1 q c*(m:Int):Int):Rat):=by
  rw[PF,h1,← e,QE,Qa];grind
 have e3:A=O1 q c*(m:Int):=Sw.mp e2
 rw[e3,Qn,Pr]
 exact Nat.le_mul_of_pos_right _ (TU fun z=>by rw[z]at hN;simp at hN)
theorem lW{q:Rat}{N:Nat}{A:Int}(e:q*(N:Rat)=(A:Rat)):q.den ∣ N:=by
 have e1:=D6 q
 have e2:((q.num*(N:Int):Int):Rat)=((A*(q.den:Int):Int):Rat):=by
  rw[PF,PF,← e1,← e,Qa,Qa];grind
 have e3:q.num*(N:Int)=A*(q.den:Int):=Sw.mp e2
 have e4:q.num.natAbs*N=A.natAbs*q.den:=by
  have:=congrArg Int.natAbs e3
  rwa [Qn,Qn,Pr,Pr]at this
 have e5:q.den ∣ q.num.natAbs*N:=⟨A.natAbs,by rw[e4,RZ]⟩
 exact Nat.Coprime.dvd_of_dvd_mul_left (Nat.Coprime.symm q.reduced) e5
structure LS5(l:T3):Prop where
 p:sz l.1≤505
 q:sz l.2.1≤547
 r:sz l.2.2≤41
def qf(n:Nat)(s:Sd):Prop:=s.1.natAbs<2 ^ n∧s.2.1.natAbs<2 ^ n∧s.2.2.1.natAbs<2 ^ n
theorem P7{bs:List (Str × Rat)}{x:Rat}(hl:bs.length≤12)(hok:∀ x∈bs,B6 x)(hx:sz x≤41):∀ l∈B2 bs x,LnOk l∧LS5 l∧qf 588 (f7 l 0):=fun l h=>by
 obtain⟨m,hm,rfl⟩:=Pm.mp h
 obtain⟨j,r,rfl,r0,hr⟩:=zF hok bs.length m hm
 have cd:=CW (bs:=bs.take j) fun x hx=>hok x (Qm hx)
 have dt1:=oz (bs.take j)
 have hlen:(bs.take j).length≤12:=by rw[PX];omega
 have cd:=cd.mono (show 1+42*(bs.take j).length≤505 by omega)
 show LnOk ((j7 (bs.take j) (1,0)).1,(j7 (bs.take j) (1,0)).1*x+(j7 (bs.take j) (0,1)).1,r)∧_
 generalize (j7 (bs.take j) (1,0)).1=p at *
 generalize (j7 (bs.take j) (0,1)).1=q at *
 obtain⟨A,B,C,E,D,h0,hd,⟨h1,h2,_,_⟩,e1,e2,_,_⟩:=cd.ex
 have xn:=E6 x hx
 have xd:=o8 x hx
 have rn:=E6 r hr
 have rd:=o8 r hr
 have ex:=D6 x
 have er:=D6 r
 have xd':(x.den:Int).natAbs<2 ^ 41:=by rw[Pr];exact xd
 have rd':(r.den:Int).natAbs<2 ^ 41:=by rw[Pr];exact rd
 have p1:p*((D*x.den:Nat):Rat)=((A*(x.den:Int):Int):Rat):=by
  rw[QE,PF,Qa,← e1];grind
 have q1:(p*x+q)*((D*x.den:Nat):Rat)=((A*x.num+B*(x.den:Int):Int):Rat):=by
  rw[QE,RN,PF,PF,Qa,← e1,← e2,← ex];grind
 have bp:(A*(x.den:Int)).natAbs<2 ^ 546:=g7 h1 xd'
 have bq:(A*x.num+B*(x.den:Int)).natAbs<2 ^ 547:=aF (g7 h1 xn) (g7 h2 xd')
 have bd:D*x.den<2 ^ 546:=F0 hd xd
 have d0:D*x.den≠0:=RL h0 x.den_nz
 have sp:sz p≤505:=jJ (by decide) h0 hd e1 h1
 have sq:sz (p*x+q)≤547:=jJ (by decide) d0 (Tq bd (by decide)) q1 bq
 generalize p*x+q=q' at *
 have np:¬ (p=0∧q'=0):=fun⟨z1,z2⟩=>by
  have hA:A=0:=by
   rw[z1,Uk]at e1
   exact Sw.mp (by rw[← e1];rfl)
  have hB:B*(x.den:Int)=0:=by
   rw[z2,Uk,hA,To,Int.zero_add]at q1
   exact Sw.mp (by rw[← q1];rfl)
  have hB0:B=0:=(RO.mp hB).resolve_right (by have:=x.den_nz;omega)
  rw[hB0]at e2
  have dn:(D:Rat)≠0:=by intro z;exact h0 (by exact_mod_cast z)
  have q0:q=0:=by
   have:q*(D:Rat)=0:=e2
   grind
  rw[z1,q0]at dt1
  grind
 have np':0<D*x.den*r.den:=Nat.mul_pos (TU d0) r.den_pos
 have p2:p*((D*x.den*r.den:Nat):Rat)=((A*(x.den:Int)*(r.den:Int):Int):Rat):=by
  rw[QE,← TR,p1,PF (A*(x.den:Int)),Qa]
 have q2:q'*((D*x.den*r.den:Nat):Rat)=(((A*x.num+B*(x.den:Int))*(r.den:Int):Int):Rat):=by
  rw[QE,← TR,q1,PF,Qa]
 have r2:r*((D*x.den*r.den:Nat):Rat)=((((D*x.den:Nat):Int)*r.num:Int):Rat):=by
  rw[QE,PF,Qa,← er];grind
 have cdv:cbL (p,q',r) ∣ D*x.den*r.den:=by
  rw[gP]
  exact Nat.lcm_dvd (Nat.lcm_dvd (lW p2) (lW q2)) (lW r2)
 have tp:(O1 p (cbL (p,q',r))).natAbs<2 ^ 588:=PV (qp (FU (p,q',r)) cdv np' p2) (Tq (g7 bp rd') (by decide))
 have tq:(O1 q' (cbL (p,q',r))).natAbs<2 ^ 588:=PV (qp (FT (p,q',r)) cdv np' q2) (g7 bq rd')
 have tr:(O1 r (cbL (p,q',r))).natAbs<2 ^ 588:=PV (qp (FR (p,q',r)) cdv np' r2) (Tq (g7 (by rw[Pr];exact bd) rn) (by decide))
 have up:∀{n:Nat},n<2 ^ 588→n<2 ^ 1200:=fun h=>Tq h (by decide)
 exact⟨⟨⟨np,r0⟩,by show sz p≤1300;omega,by show sz q'≤1300;omega,by show sz r≤1300;omega,⟨up tp,up tq,up tr⟩⟩,⟨sp,sq,hr⟩,tp,tq,tr⟩
theorem tR{bs:List (Str × Rat)}{x:Rat}(hl:bs.length≤12)(hok:∀ x∈bs,B6 x)(hx:sz x≤41):qb (B2 bs x) :=
 ⟨Pu (cj bs x) hl,fun l h=>(P7 hl hok hx l h).1⟩
theorem rC{ls:List T3}{n:Nat}(hok:∀ l∈ls,LineOk l)(hb:∀ l∈ls,qf n (f7 l 0)){cs:List (Rat × Rat)}(e:C3 ls=some cs):cs.length≤4*ls.length+2∧∀ z∈cs,sz z.1≤2*n+1∧sz z.2≤2*n+1:=by
 have hne:ls≠[]:=fun z=>by rw[z]at e;cases e
 have bs:∀ s∈e8 ls,qf n s:=fun s hs=>by
  obtain⟨l,hl,j,es⟩:=F8 hs
  obtain⟨a,b,c⟩:=hb l hl
  rcases es with rfl|rfl
  ·exact⟨a,b,c⟩
  ·exact⟨by show(-(f7 l j).1).natAbs<_;rw[Qr];exact a,by show(-(f7 l j).2.1).natAbs<_;rw[Qr];exact b,c⟩
 obtain⟨h0,l,eh,m0,h⟩:=D7 hok hne
 have hlen:=gH hok
 unfold C3 at e
 rw[eh]at e hlen
 cases l with
 | nil=>cases e
 | cons x l =>
  have e:=Option.some.inj e
  rcases h with⟨z,_⟩|⟨_,_,h⟩
  ·cases z
  have rl:=oq h0 (x :: l)
  have hz:∀ z∈C6 h0 (x :: l),sz z.1≤2*n+1∧sz z.2≤2*n+1:=fun z hz=>by
   obtain⟨ab,hab,rfl⟩:=Pm.mp hz
   obtain⟨q1,q2,q3⟩:=h ab hab
   exact Fi (bs _ q1) (bs _ q2) (by omega)
  refine⟨?_,fun z hzc=>?_⟩
  ·rw[← e]
   unfold cy
   rw[PB,Qh,PX,PB,Pj,rl]
   simp only[Pp]at hlen ⊢
   omega
  ·rw[← e,bA]at hzc
   rcases PL.mp hzc with hzc|hzc
   ·exact hz z hzc
   ·obtain⟨y,hy,rfl⟩:=Pm.mp hzc
    obtain⟨y1,y2⟩:=hz y hy
    exact⟨by show sz (-y.1)≤_;rw[RM.F7];exact y1,by show sz (-y.2)≤_;rw[RM.F7];exact y2⟩
theorem L6{xs ys:List Rat}:xs.map d8=ys.map d8↔xs=ys:=Qz (fun _ _ h=>g8.mp h)
local macro_rules|`(tactic| walk_at "inj")=>`(tactic| (rename_i e h;simp only[List.cons.injEq,GM.L6,and_true,true_and,GM.g8,GM.h9,GM.f9,GM.i3,GM.g5,D.tup.injEq,D.ref.injEq,D.int.injEq,D.str.injEq,D.bl.injEq,D.vl.injEq,PM,and_assoc]at e;(repeat(obtain⟨e1,e⟩:=e;subst e1));subst e;exact h))
local macro_rules|`(tactic| walk_at "injs")=>`(tactic| (rename_i e o h;rcases o with o|o<;>(subst o;first|(exfalso;simp only[D.tup.injEq,List.cons.injEq,reduceCtorEq,false_and,and_false]at e;done)|(simp only[List.cons.injEq,GM.L6,and_true,true_and,GM.g8,GM.h9,GM.f9,GM.i3,GM.g5,D.tup.injEq,D.ref.injEq,D.int.injEq,D.str.injEq,D.bl.injEq,D.vl.injEq,PM,and_assoc]at e;(repeat(obtain⟨e1,e⟩:=e;subst e1));subst e;exact h))))
abbrev X8(qs:List Rat)(M:Mem)(R:DK)(Y:DXK):Prop:=(qs.length≤100∧∀ q∈qs,sz q≤2402)∧R (.vl ((G6 qs).map d8)) M
def kL:DSp:=fun ds M R Y=>∃(qs:List Rat),ds=[.vl (qs.map d8)]∧X8 qs M R Y
theorem iF{qs:List Rat}{M:Mem}{R:DK}{Y:DXK}:kL [.vl (qs.map d8)] M R Y=(X8 qs M R Y):=propext ⟨fun z=>by obtain⟨_,_,_⟩:=z;walk_at "inj",fun h=>⟨qs,rfl,h⟩⟩
abbrev K8(l:T3)(g:Rat)(M:Mem)(R:DK)(Y:DXK):Prop:=(LS5 l∧l.2.1≠0∧sz g≤2400)∧R (.tup [d8 (K3 l g - D3 l),d8 (K3 l g+D3 l)]) M
def az:DSp:=fun ds M R Y=>∃(l:T3) (g:Rat),ds=[h7 l,d8 g]∧K8 l g M R Y
theorem aO{l:T3}{g:Rat}{M:Mem}{R:DK}{Y:DXK}:az [h7 l,d8 g] M R Y=(K8 l g M R Y):=propext ⟨fun z=>by obtain⟨_,_,_,_⟩:=z;walk_at "inj",fun h=>⟨l,g,rfl,h⟩⟩
abbrev R9(ls:List T3)(g:Rat)(M:Mem)(R:DK)(Y:DXK):Prop:=(ls.length≤12∧(∀ l∈ls,LS5 l)∧sz g≤2400)∧R (pN (B9 g ls none)) M
def bb:DSp:=fun ds M R Y=>∃(ls:List T3) (g:Rat),ds=[.vl (ls.map h7),d8 g]∧R9 ls g M R Y
theorem eW{ls:List T3}{g:Rat}{M:Mem}{R:DK}{Y:DXK}:bb [.vl (ls.map h7),d8 g] M R Y=(R9 ls g M R Y):=propext ⟨fun z=>by obtain⟨_,_,_,_⟩:=z;walk_at "inj",fun h=>⟨ls,g,rfl,h⟩⟩
noncomputable def W8(ls:List T3)(g:Rat):Rat × Rat:=match B9 g ls none with
 | some (some p)=>p
 | _=>(0,0)
noncomputable def cZ(ls:List T3)(cs:List (Rat × Rat)):List T3:=(G6 (cs.map (·.1))).map fun h=>(h,W8 ls h)
def lS(ls:List T3)(M:Mem)(R:DK):Prop:=match C3 ls with
 | none=>R .non M
 | some cs=>∀ p,M p=none→R (.ref p) (A8 M p (.lst ((cZ ls cs).map h7)))
abbrev V7(bs:List (Str × Rat))(x:Rat)(M:Mem)(R:DK)(Y:DXK):Prop:=(bs.length≤12∧(∀ x∈bs,B6 x)∧sz x≤41)∧lS (B2 bs x) M R
def kR:DSp:=fun ds M R Y=>∃(x0:D) (bs:List (Str × Rat)) (x:Rat),ds=[x0,d8 x]∧(x0 = .vl (bs.map m8)∨x0 = .tup (bs.map m8))∧V7 bs x M R Y
theorem nh{bs:List (Str × Rat)}{x:Rat}{M:Mem}{R:DK}{Y:DXK}:kR [.vl (bs.map m8),d8 x] M R Y=(V7 bs x M R Y):=propext ⟨fun z=>by obtain⟨_,_,_,_,_,_⟩:=z;walk_at "injs",fun h=>⟨_,bs,x,rfl,.inl rfl,h⟩⟩
theorem eZ{bs:List (Str × Rat)}{x:Rat}{M:Mem}{R:DK}{Y:DXK}:kR [.tup (bs.map m8),d8 x] M R Y=(V7 bs x M R Y):=propext ⟨fun z=>by obtain⟨_,_,_,_,_,_⟩:=z;walk_at "injs",fun h=>⟨_,bs,x,rfl,.inr rfl,h⟩⟩
theorem vP{a b:Nat × Rat × Rat × Rat}:oY a=oY b↔a=b:=by
 constructor
 ·intro h
  unfold oY at h
  injection h with h
  injection h with h1 h
  injection h with h2 h
  injection h with h3 h
  injection h with h4 h
  injection h1 with h1
  exact Prod.ext (by omega) (Prod.ext (g8.mp h2) (Prod.ext (g8.mp h3) (g8.mp h4)))
 ·rintro rfl;rfl
theorem gB{xs ys:List (Nat × Rat × Rat × Rat)}:xs.map oY=ys.map oY↔xs=ys:=Qz (fun _ _ h=>vP.mp h)
end GM
namespace GM
open PySem PySem.Spec L2 DL
open RM (sz)
local macro_rules|`(tactic| walk_at "inj")=>`(tactic| (rename_i e h;simp only[List.cons.injEq,GM.gB,and_true,true_and,GM.g8,GM.h9,GM.f9,GM.i3,GM.g5,D.tup.injEq,D.ref.injEq,D.int.injEq,D.str.injEq,D.bl.injEq,D.vl.injEq,PM,and_assoc]at e;(repeat(obtain⟨e1,e⟩:=e;subst e1));subst e;exact h))
local macro_rules|`(tactic| walk_at "injs")=>`(tactic| (rename_i e o h;rcases o with o|o<;>(subst o;first|(exfalso;simp only[D.tup.injEq,List.cons.injEq,reduceCtorEq,false_and,and_false]at e;done)|(simp only[List.cons.injEq,GM.gB,and_true,true_and,GM.g8,GM.h9,GM.f9,GM.i3,GM.g5,D.tup.injEq,D.ref.injEq,D.int.injEq,D.str.injEq,D.bl.injEq,D.vl.injEq,PM,and_assoc]at e;(repeat(obtain⟨e1,e⟩:=e;subst e1));subst e;exact h))))
theorem uD:(1 / 2:Rat)=Qu 1 2:=by rw[RR];rfl
theorem zV:D.tup [.int 1,.int 2]=d8 (1 / 2):=by rw[uD];rfl
theorem lQ:sz (1 / 2)≤3:=by rw[uD];decide
theorem DQ{ls:List T3}{g lo hi:Rat}{n:Nat}(h5:∀ l∈ls,LS5 l)(hg:sz g≤n)(h:u7 ls g lo hi):sz lo≤n+1642∧sz hi≤n+1642:=by
 have one:∀ l∈ls,l.2.1≠0→sz (K3 l g)≤n+1052∧sz (D3 l)≤588:=fun l hl hn=>by
  obtain⟨a1,a2,a3⟩:=h5 l hl
  have m1:=RM.u9 l.1 g
  have m2:=RM.O2 (l.1*g) l.2.1 hn
  have m3:=RM.F7 (l.1*g / l.2.1)
  have m4:=RM.O2 l.2.2 l.2.1 hn
  have m5:=R0 (l.2.2 / l.2.1)
  unfold K3 D3
  omega
 obtain⟨l,hl,hn,e⟩:=h.lo
 obtain⟨m,hm,hn',e'⟩:=h.hi
 have o1:=one l hl hn
 have o2:=one m hm hn'
 refine⟨?_,?_⟩
 ·rw[e];unfold loS
  have:=RM.Q9 (K3 l g) (D3 l)
  omega
 ·rw[e'];unfold hiS
  have:=RM.O4 (K3 m g) (D3 m)
  omega
theorem Q8{ls:List T3}{g lo hi:Rat}(h:u7 ls g lo hi):W8 ls g=(lo,hi):=by unfold W8;rw[h.eq]
theorem yc{ls:List T3}(hok:∀ l∈ls,LineOk l)(h:¬ q9 ls):∃ l∈ls,l.2.1≠0:=by
 apply Rv
 intro hn
 apply h
 intro a ha b hb
 have e1:a.2.1=0:=Rv fun z=>hn ⟨a,ha,z⟩
 have e2:b.2.1=0:=Rv fun z=>hn ⟨b,hb,z⟩
 rw[e1,e2,RE,RE]
structure Ek(ls:List T3)(cs:List (Rat × Rat))(hs:List Rat):Prop where
 na:¬ q9 ls
 q:∃ l∈ls,l.2.1≠0
 ris:Ris hs
 mem:∀ h,h∈hs ↔ ∃ z∈cs,z.1=h
 cone:∀ h∈hs,∃ lo hi,u7 ls h lo hi
 neg:(hs.map fun y=>-y).reverse=hs
 len:2≤hs.length
 mid:∀(i:Nat) (a b lo1 hi1 lo2 hi2:Rat),hs[i]? = some a→hs[i+1]? = some b→u7 ls a lo1 hi1→u7 ls b lo2 hi2→u7 ls ((a+b)*(1 / 2)) ((lo1+lo2)*(1 / 2)) ((hi1+hi2)*(1 / 2))
 bent:∀(a b c lo1 hi1 lo2 hi2 lo3 hi3:Rat),a<b→b<c→b∈hs→u7 ls a lo1 hi1→u7 ls b lo2 hi2→u7 ls c lo3 hi3→¬ ((lo2 - lo1) / (b - a)=(lo3 - lo2) / (c - b)∧(hi2 - hi1) / (b - a)=(hi3 - hi2) / (c - b))
 far:∀ g,(∀ h∈hs,h<g)→pN (B9 g ls none) = .non
theorem yC{hs:List Rat}(h:Ris hs){i:Nat}{a b:Rat}(ha:hs[i]? = some a)(hb:hs[i+1]? = some b):a<b∧∀ y∈hs,¬ (a<y∧y<b):=by
 obtain⟨i1,rfl⟩:=Pw.mp ha
 obtain⟨i2,rfl⟩:=Pw.mp hb
 have pw:=Rt.mp h
 refine⟨pw i (i+1) i1 i2 (by omega),fun y hy ⟨z1,z2⟩=>?_⟩
 obtain⟨j,hj,rfl⟩:=Rr.mp hy
 rcases Ud j i with c|c|c
 ·have:=pw j i hj i1 c;grind
 ·subst c;grind
 ·rcases QN (show i+1≤j by omega)with c2|c2
  ·have:=pw (i+1) j i2 hj c2;grind
  ·subst c2;grind
theorem gJ{ls:List T3}(hok:∀ l∈ls,LineOk l){cs:List (Rat × Rat)}(e:C3 ls=some cs):Ek ls cs (G6 (cs.map (·.1))):=by
 rcases gO hok with⟨e0,_⟩|⟨cs',e',na,h0,r,R,hm⟩
 ·rw[e]at e0;cases e0
 ·obtain rfl:cs=cs':=by rw[e]at e';exact Option.some.inj e'
  have q:=yc hok na
  obtain⟨ris,mem⟩:=lb (cs.map (·.1))
  have mem':∀ h,h∈G6 (cs.map (·.1)) ↔ ∃ z∈cs,z.1=h:=fun h=>by rw[mem,Pm]
  have K:∀ z∈cs,o6 ls z.1 z.2=true:=fun z hz=>(D4 ls z).mp (R.tight ((hm z).mp hz)).1
  have cone:∀ h∈G6 (cs.map (·.1)),∃ lo hi,u7 ls h lo hi:=fun h hh=>by
   obtain⟨z,hz,rfl⟩:=(mem' h).mp hh
   obtain⟨lo,hi,c,_⟩:=bT hok q (K z hz)
   exact⟨lo,hi,c⟩
  have ng:∀ y∈G6 (cs.map (·.1)),-y∈G6 (cs.map (·.1)):=fun y hy=>by
   obtain⟨z,hz,rfl⟩:=(mem' y).mp hy
   exact(mem' _).mpr ⟨ngZ z,(hm _).mpr (Rim.neg (ss:=(e8 ls).map tri) ((hm z).mp hz)),rfl⟩
  refine⟨na,q,ris,mem',cone,Ct ris ng,?_,fun i a b lo1 hi1 lo2 hi2 ha hb ca cb=>?_,fun a b c lo1 hi1 lo2 hi2 lo3 hi3 l1 l2 hb c1 c2 c3=>?_,fun g hg=>?_⟩
  ·obtain⟨z,hz,z0⟩:=above R hok
   have m1:=(mem' z.1).mpr ⟨z,(hm z).mpr hz,rfl⟩
   have m2:=ng _ m1
   generalize G6 (cs.map (·.1))=hs at *
   match hs,m1,m2 with
   | [],m1,_=>cases m1
   | [a],m1,m2 =>
    have e1:=PY.mp m1
    have e2:=PY.mp m2
    grind
   | _ :: _ :: _,_,_=>exact UA 2 _
  ·obtain⟨hab,no⟩:=yC ris ha hb
   exact zx R hok q hab ca cb fun z hz w=>no z.1 ((mem' z.1).mpr ⟨z,(hm z).mpr hz,rfl⟩) w
  ·obtain⟨z,hz,rfl⟩:=(mem' b).mp hb
   exact GM.bent R hok (u:=z.2) l1 l2 c1 c2 c3 ((hm z).mp hz)
  ·exact DR hok q (Iw R fun z hz=>hg z.1 ((mem' z.1).mpr ⟨z,(hm z).mpr hz,rfl⟩))
theorem yJ{q:Rat}{xs:List Rat}:d8 q∈xs.map d8↔q∈xs:=by
 rw[Pm]
 constructor
 ·rintro⟨y,hy,e⟩;rw[← g8.mp e];exact hy
 ·exact fun h=>⟨q,h,rfl⟩
theorem pQ:∀(xs:List Rat),clL 59 (xs.map d8)=true
 | []=>rfl
 | q :: xs=>by
  show(cl 59 (d8 q) && clL 59 (xs.map d8))=true
  rw[pQ xs];rfl
theorem tW:∀(ys xs:List Rat),(ys.foldl cD xs).length≤xs.length+ys.length
 | [],xs=>Py _
 | y :: ys,xs=>by
  have h1:=tW ys (cD xs y)
  have h2:(cD xs y).length≤xs.length+1:=by
   unfold cD
   split
   ·omega
   ·have:=QX (fun b=>decide (b<y)) xs
    rw[PB,PB,Qh,Tf];omega
  rw[Sv,Pp];omega
theorem gg(qs:List Rat):(G6 qs).length≤qs.length:=by
 have:=tW qs []
 unfold G6
 have h0:([]:List Rat).length=0:=rfl
 omega
theorem vm{a b c:Rat}{M:Mem}{R:DK}(h:R (.tup [d8 b,d8 c]) M):vX (h7 (a,b,c)) (some 1) none M R:=by
 show vX (.tup [d8 a,d8 b,d8 c]) (some 1) none M R
 rw[jT]
 refine⟨fun z=>absurd z.1 (by show ¬ HT.sIx 3 0 (some 1)=0;decide),?_⟩
 rw[Az];exact h
end GM
namespace GM
open PySem PySem.Spec L2 DL
open RM (sz)
noncomputable abbrev Zr:=Rat × Rat
noncomputable def cr(v w:Zr):Rat:=v.1*w.2 - v.2*w.1
theorem FP(v w:Zr):cr (ngZ v) (ngZ w)=cr v w:=by unfold cr ngZ;grind
theorem jE(v w:Zr):cr v (ngZ w) = -cr v w:=by unfold cr ngZ;grind
theorem FO(v w:Zr):cr (ngZ v) w = -cr v w:=by unfold cr ngZ;grind
theorem pJ(v w:Zr):cr v w = -cr w v:=by unfold cr;grind
theorem me(v:Zr):cr v v=0:=by unfold cr;grind
theorem eL(v:Zr):ngZ (ngZ v)=v:=by unfold ngZ;show(- -v.1,- -v.2)=v;rw[SO,SO]
theorem Lm{a b c:T3}(h1:ve a b≠0)(h2:ve b c≠0):ve a b*ve b c*cr (ry a b) (ry b c)=b.2.2*tn a b c:=by
 obtain⟨e1,e2⟩:=jk h1
 obtain⟨e3,e4⟩:=jk h2
 have:ve a b*ve b c*cr (ry a b) (ry b c)=(ve a b*(ry a b).1)*(ve b c*(ry b c).2) - (ve a b*(ry a b).2)*(ve b c*(ry b c).1):=by unfold cr;grind
 rw[this,e1,e2,e3,e4]
 unfold tn ve
 grind
theorem KY{a b c:T3}(h:T3)(h1:ve a b≠0)(h2:ve b c≠0):ve a b*ve b c*(dt h (ry a b) - dt h (ry b c))=ve h b*tn a b c:=by
 obtain⟨e1,e2⟩:=jk h1
 obtain⟨e3,e4⟩:=jk h2
 have:ve a b*ve b c*(dt h (ry a b) - dt h (ry b c))=ve b c*(h.1*(ve a b*(ry a b).1)+h.2.1*(ve a b*(ry a b).2)) - ve a b*(h.1*(ve b c*(ry b c).1)+h.2.1*(ve b c*(ry b c).2)):=by unfold dt;grind
 rw[this,e1,e2,e3,e4]
 unfold tn ve
 grind
theorem Al(s:T3)(v w x:Zr):cr v w*dt s x=cr x w*dt s v+cr v x*dt s w:=by unfold dt cr;grind
theorem mp{a b:Rat}(h1:0<a)(h2:0<b):0<a*b:=Qt h1 h2
theorem N6{v x:Rat}(hv:0<v)(h:0<v*x):0<x:=by
 rcases tot x 0 with z|z
 ·have:0≤v*(-x):=Pq (G0 hv) (by grind)
  grind
 ·by_cases e:x=0
  ·rw[e]at h;grind
  ·grind
structure Cn2(ss:List T3)(x:Zr):Prop where
 sup:Sup ss x
 two:∃ s t,s∈ss∧t∈ss∧ve s t≠0∧dt s x=s.2.2∧dt t x=t.2.2
theorem Cn2.ng{ss:List T3}(sy:∀ s∈ss,ng s∈ss){x:Zr}(h:Cn2 ss x):Cn2 ss (ngZ x):=by
 obtain⟨hs,s,t,ms,mt,hv,es,et⟩:=h
 refine⟨Z9 sy hs,GM.ng s,GM.ng t,sy s ms,sy t mt,?_,?_,?_⟩
 ·have:ve (GM.ng s) (GM.ng t)=ve s t:=by unfold ve GM.ng;grind
  rw[this];exact hv
 ·have:dt (GM.ng s) (ngZ x)=dt s x:=by unfold dt GM.ng ngZ;grind
  rw[this,es];rfl
 ·have:dt (GM.ng t) (ngZ x)=dt t x:=by unfold dt GM.ng ngZ;grind
  rw[this,et];rfl
theorem JP{u x y:Rat}(hu:0<u)(h:x*u≤y*u):x≤y:=by
 have:0≤u*(y - x):=by grind
 have:=j6 hu this
 grind
theorem zv{ss:List T3}(pos:∀ s∈ss,0<s.2.2){b:T3}{v w:Zr}(hb:b∈ss)(bv:dt b v=b.2.2)(bw:dt b w=b.2.2)(sv:Sup ss v)(sw:Sup ss w)(hc:0<cr v w){x:Zr}(hx:Cn2 ss x)(h1:0<cr v x):x=w∨0<cr w x:=by
 by_cases h2:0<cr w x
 ·exact .inr h2
 left
 obtain⟨sx,s,t,ms,mt,hv,es,et⟩:=hx
 have h3:0≤cr x w:=by rw[pJ];grind
 have hle:cr x w+cr v x≤cr v w:=by
  have e:=Al b v w x
  rw[bv,bw]at e
  have r:=pos b hb
  have q:=sx b hb
  have:cr v w*dt b x≤cr v w*b.2.2:=by
   have:0≤cr v w*(b.2.2 - dt b x):=Pq (G0 hc) (by grind)
   grind
  refine JP r ?_
  grind
 have key:∀ s∈ss,dt s x=s.2.2→dt s w=s.2.2:=fun s ms es=>by
  have e:=Al s v w x
  rw[es]at e
  have r:=pos s ms
  have q1:=sv s ms
  have q2:=sw s ms
  have p1:0≤cr x w*(s.2.2 - dt s v):=Pq h3 (by grind)
  have p2:0≤cr v x*(s.2.2 - dt s w):=Pq (G0 h1) (by grind)
  have p3:0≤(cr v w - (cr x w+cr v x))*s.2.2:=Pq (by grind) (G0 r)
  have p4:cr v x*(s.2.2 - dt s w)=0:=by grind
  grind
 have e1:=key s ms es
 have e2:=key t mt et
 rw[eI hv es et,eI hv e1 e2]
structure N4(ss:List T3)(A:Nat→T3)(k:Nat):Prop where
 two:2≤k
 sy:∀ s∈ss,ng s∈ss
 pos:∀ s∈ss,0<s.2.2
 mem:∀ i,i≤k+1→A i∈ss
 ve:∀ i,i≤k→0<ve (A i) (A (i+1))
 sup:∀ i,i≤k→Sup ss (ry (A i) (A (i+1)))
 tn:∀ i,i<k→0<tn (A i) (A (i+1)) (A (i+2))
 up:∀ i,1≤i→i<k→0<GM.ve (A 0) (A i)
 lst:A k=ng (A 0)
 lst1:A (k+1)=ng (A 1)
noncomputable def rA(A:Nat→T3)(i:Nat):Zr:=ry (A i) (A (i+1))
section
variable {ss:List T3} {A:Nat→T3} {k:Nat}
theorem N4.rk(R:N4 ss A k):rA A k=ngZ (rA A 0):=by
 unfold rA;rw[R.lst,R.lst1,jj]
theorem N4.cn(R:N4 ss A k){i:Nat}(h:i≤k):Cn2 ss (rA A i) :=
 ⟨R.sup i h,A i,A (i+1),R.mem i (by omega),R.mem (i+1) (by omega),t6 (R.ve i h),dq (t6 (R.ve i h)),cw (t6 (R.ve i h))⟩
theorem N4.cr(R:N4 ss A k){i:Nat}(h:i<k):0<cr (rA A i) (rA A (i+1)):=by
 have v1:=R.ve i (by omega)
 have v2:=R.ve (i+1) (by omega)
 have e:=Lm (t6 v1) (t6 v2)
 have p:0<(A (i+1)).2.2*GM.tn (A i) (A (i+1)) (A (i+2)):=mp (R.pos _ (R.mem _ (by omega))) (R.tn i h)
 rw[← e]at p
 exact N6 (mp v1 v2) p
theorem N4.nxt(R:N4 ss A k){i:Nat}(h:i<k){x:Zr}(hx:Cn2 ss x)(h1:0<GM.cr (rA A i) x):x=rA A (i+1)∨0<GM.cr (rA A (i+1)) x :=
 zv R.pos (b:=A (i+1)) (R.mem _ (by omega)) (cw (t6 (R.ve i (by omega)))) (dq (t6 (R.ve (i+1) (by omega)))) (R.sup i (by omega)) (R.sup (i+1) (by omega)) (R.cr h) hx h1
theorem N4.down(R:N4 ss A k){i:Nat}(h:i+1<k):dt (A 0) (rA A (i+1))<dt (A 0) (rA A i):=by
 have v1:=R.ve i (by omega)
 have v2:=R.ve (i+1) (by omega)
 have e:=KY (A 0) (t6 v1) (t6 v2)
 have p:0<GM.ve (A 0) (A (i+1))*GM.tn (A i) (A (i+1)) (A (i+2)):=mp (R.up (i+1) (by omega) h) (R.tn i (by omega))
 rw[← e]at p
 have:=N6 (mp v1 v2) p
 unfold rA
 grind
theorem N4.down2(R:N4 ss A k):∀{i j:Nat},i<j→j<k→dt (A 0) (rA A j)<dt (A 0) (rA A i):=fun{i j}=>by
 induction j with
 | zero=>intro h;omega
 | succ j ih =>
  intro h1 h2
  have:=R.down h2
  by_cases e:i=j
  ·rw[e];exact this
  ·have:=ih (by omega) (by omega)
   grind
theorem N4.up0(R:N4 ss A k):∀{i:Nat},1≤i→i<k→0<GM.cr (rA A 0) (rA A i):=fun{i}=>by
 induction i with
 | zero=>intro h;omega
 | succ i ih =>
  intro _ h2
  by_cases e:i=0
  ·rw[e];exact R.cr (by omega)
  have h:=ih (by omega) (by omega)
  by_cases hc:0<GM.cr (rA A 0) (rA A (i+1))
  ·exact hc
  exfalso
  have hx:Cn2 ss (ngZ (rA A 0)):=(R.cn (Qs _)).ng R.sy
  have e1:GM.cr (rA A i) (ngZ (rA A 0))=GM.cr (rA A 0) (rA A i):=by rw[jE,pJ];grind
  have e2:GM.cr (rA A (i+1)) (ngZ (rA A 0))=GM.cr (rA A 0) (rA A (i+1)):=by rw[jE,pJ];grind
  rcases R.nxt (i:=i) (by omega) hx (by rw[e1];exact h)with z|z
  ·have ek:GM.cr (rA A (k - 1)) (ngZ (rA A 0))=GM.cr (rA A 0) (rA A (k - 1)):=by rw[jE,pJ];grind
   have ck:=R.cr (i:=k - 1) (by have:=R.two;omega)
   rw[show k - 1+1=k by have:=R.two;omega,R.rk]at ck
   have l0:dt (A 0) (ngZ (rA A 0)) = -dt (A 0) (rA A 0):=by unfold dt ngZ;grind
   have l1:dt (A 0) (rA A 0)=(A 0).2.2:=dq (t6 (R.ve 0 (by omega)))
   have lk:dt (A 0) (rA A (k - 1)) = -(A 0).2.2:=by
    have:=cw (t6 (R.ve (k - 1) (by omega)))
    rw[show k - 1+1=k by have:=R.two;omega,R.lst]at this
    have e3:dt (ng (A 0)) (ry (A (k - 1)) (ng (A 0))) = -dt (A 0) (ry (A (k - 1)) (ng (A 0))):=by unfold dt ng;grind
    rw[e3]at this
    have e4:(ng (A 0)).2.2=(A 0).2.2:=rfl
    rw[e4]at this
    unfold rA
    rw[show k - 1+1=k by have:=R.two;omega,R.lst]
    grind
   rw[z,l1]at l0
   by_cases ei:i+1=k - 1
   ·rw[← ei,← z,me]at ck;grind
   ·have:=R.down2 (i:=i+1) (j:=k - 1) (by omega) (by omega)
    grind
  ·rw[e2]at z;exact hc z
end
noncomputable def nth(L:List Zr)(i:Nat):Zr:=L.getD (i % L.length) (0,0)
structure Chn(L:List Zr):Prop where
 cr:∀ i,0<cr (nth L i) (nth L (i+1))
 nxt:∀ i,∀ x∈L,0<GM.cr (nth L i) x→x=nth L (i+1)∨0<GM.cr (nth L (i+1)) x
 nd:∀ i j,i<j→j<L.length→nth L i≠nth L j
theorem t8{L:List Zr}(h:L≠[])(i:Nat):nth L i∈L:=by
 have hl:0<L.length:=Rk.mpr h
 unfold nth
 rw[PC,PH (Rg _ hl)]
 exact Rm _
theorem FV{L M:List Zr}(hL:Chn L)(hM:Chn M)(nL:L≠[])(nM:M≠[])(hs:∀ z,z∈L↔z∈M)(h0:nth L 0=nth M 0):L=M:=by
 have same:∀ i,nth L i=nth M i:=fun i=>by
  induction i with
  | zero=>exact h0
  | succ i ih =>
   have a1:=hL.cr i
   have a2:=hM.cr i
   rw[← ih]at a2
   have b1:=hL.nxt i (nth M (i+1)) ((hs _).mpr (t8 nM _)) a2
   have b2:=hM.nxt i (nth L (i+1)) ((hs _).mp (t8 nL _)) (by rw[← ih];exact a1)
   rcases b1 with e|b1
   ·exact e.symm
   ·rcases b2 with e|b2
    ·exact e
    ·rw[pJ]at b2;grind
 have pL:0<L.length:=Rk.mpr nL
 have pM:0<M.length:=Rk.mpr nM
 have per:∀(K:List Zr),nth K K.length=nth K 0:=fun K=>by unfold nth;rw[Nat.mod_self,Nat.zero_mod]
 have ll:L.length=M.length:=by
  rcases Ud L.length M.length with h|h|h
  ·exact absurd (by rw[← same 0,← same L.length,per L]) (hM.nd 0 L.length pL h)
  ·exact h
  ·exact absurd (by rw[same 0,same M.length,per M]) (hL.nd 0 M.length pM h)
 refine Rz ll fun i h1 h2=>?_
 have:=same i
 unfold nth at this
 rw[QB h1,QB h2,PC,PC,PH h1,PH h2]at this
 exact this
theorem aA{L:List Zr}{i:Nat}(h:i<L.length):nth L i=L[i]:=by
 unfold nth
 rw[QB h,PC,PH h];rfl
theorem B3(L:List Zr){n:Nat}(hn:n<L.length)(i:Nat):nth (L.drop n++L.take n) i=nth L (i+n):=by
 have hl:(L.drop n++L.take n).length=L.length:=by rw[PB,Qh,PX];omega
 have hi:i % L.length<L.length:=Rg _ (by omega)
 unfold nth
 rw[hl,PC,PC]
 congr 1
 rw[show(i+n) % L.length=(i % L.length+n) % L.length by rw[UB]]
 generalize i % L.length=j at *
 by_cases c:j<L.length - n
 ·rw[QY (by rw[Qh];exact c),List.getElem?_drop,QB (by omega),Tr]
 ·rw[QH (by rw[Qh];omega),Qh,SF (by omega),show(j+n) % L.length=j+n - L.length by rw[TV (by omega),QB (by omega)]]
  congr 1;omega
theorem Chn.rot{L:List Zr}(h:Chn L){n:Nat}(hn:n<L.length):Chn (L.drop n++L.take n):=by
 have hl:(L.drop n++L.take n).length=L.length:=by rw[PB,Qh,PX];omega
 have hm:∀ z,z∈L.drop n++L.take n↔z∈L:=fun z=>by rw[PL,Or.comm,← PL,Sa]
 refine⟨fun i=>?_,fun i x hx h1=>?_,fun i j h1 h2=>?_⟩
 ·rw[B3 L hn,B3 L hn,show i+1+n=i+n+1 by omega];exact h.cr _
 ·rw[B3 L hn]at h1
  rw[B3 L hn,show i+1+n=i+n+1 by omega]
  exact h.nxt _ x ((hm x).mp hx) h1
 ·rw[B3 L hn,B3 L hn]
  rw[hl]at h2
  have md:∀ a,a<L.length→nth L (a+n)=if a+n<L.length then nth L (a+n)else nth L (a+n - L.length):=fun a ha=>by
   split
   ·rfl
   ·unfold nth
    rw[TV (by omega)]
  rw[md i (by omega),md j h2]
  split<;>split
  ·exact h.nd _ _ (by omega) (by omega)
  ·exact fun e=>h.nd (j+n - L.length) (i+n) (by omega) (by omega) e.symm
  ·omega
  ·exact h.nd _ _ (by omega) (by omega)
noncomputable def J1(A:Nat→T3)(k:Nat):List Zr:=(QM k).map (rA A)++(QM k).map fun i=>ngZ (rA A i)
noncomputable def vA(A:Nat→T3)(k j:Nat):Zr:=if j<k then rA A j else ngZ (rA A (j - k))
section
variable {ss:List T3} {A:Nat→T3} {k:Nat}
theorem bB:(J1 A k).length=2*k:=by unfold J1;rw[PB,Pj,Pj,QT];omega
theorem F9(hk:0<k)(i:Nat):nth (J1 A k) i=vA A k (i % (2*k)):=by
 have hi:i % (2*k)<2*k:=Rg _ (by omega)
 unfold nth
 rw[bB,PC]
 generalize i % (2*k)=j at *
 unfold J1 vA
 split
 ·rename_i h
  rw[QY (by rw[Pj,QT];exact h),PJ,TH h];rfl
 ·rename_i h
  rw[QH (by rw[Pj,QT];omega),Pj,QT,PJ,TH (by omega)];rfl
theorem N4.v1(R:N4 ss A k){j:Nat}(_h:j<2*k):vA A k (if j+1=2*k then 0 else j+1)=if j<k then rA A (j+1)else ngZ (rA A (j+1 - k)):=by
 have h2:=R.two
 unfold vA
 by_cases h1:j+1=2*k
 ·rw[if_pos h1,if_pos (by omega),if_neg (by omega),show j+1 - k=k by omega,R.rk,eL]
 ·rw[if_neg h1]
  by_cases h3:j+1<k
  ·rw[if_pos h3,if_pos (by omega)]
  ·rw[if_neg h3]
   by_cases h4:j<k
   ·rw[if_pos h4,show j+1=k by omega,R.rk,Nat.sub_self]
   ·rw[if_neg h4]
theorem oX{i n:Nat}(hn:0<n):(i+1) % n=if i % n+1=n then 0 else i % n+1:=by
 have h:=Rg i hn
 rw[← UB]
 split
 ·rename_i e;rw[e,Nat.mod_self]
 ·exact QB (by omega)
theorem tX(R:N4 ss A k){x:Zr}(h:x∈J1 A k):Cn2 ss x:=by
 unfold J1 at h
 rcases PL.mp h with h|h
 ·obtain⟨i,hi,rfl⟩:=Pm.mp h
  exact R.cn (by have:=RU.mp hi;omega)
 ·obtain⟨i,hi,rfl⟩:=Pm.mp h
  exact(R.cn (by have:=RU.mp hi;omega)).ng R.sy
theorem N4.chn(R:N4 ss A k):Chn (J1 A k):=by
 have h2:=R.two
 have st:∀ i,nth (J1 A k) (i+1)=if i % (2*k)<k then rA A (i % (2*k)+1)else ngZ (rA A (i % (2*k)+1 - k)):=fun i=>by
  rw[F9 (by omega),oX (by omega),R.v1 (Rg _ (by omega))]
 refine⟨fun i=>?_,fun i x hx h1=>?_,fun i j hij hj=>?_⟩
 ·rw[F9 (by omega),st]
  have hi:i % (2*k)<2*k:=Rg _ (by omega)
  generalize i % (2*k)=j at *
  unfold vA
  by_cases h:j<k
  ·rw[if_pos h,if_pos h];exact R.cr h
  ·rw[if_neg h,if_neg h,FP,show j+1 - k=j - k+1 by omega];exact R.cr (by omega)
 ·have cx:=tX R hx
  rw[F9 (by omega)]at h1
  rw[st]
  have hi:i % (2*k)<2*k:=Rg _ (by omega)
  generalize i % (2*k)=j at *
  unfold vA at h1
  by_cases h:j<k
  ·rw[if_pos h]at h1
   rw[if_pos h]
   exact R.nxt h cx h1
  ·rw[if_neg h]at h1
   rw[if_neg h,show j+1 - k=j - k+1 by omega]
   have e1:GM.cr (rA A (j - k)) (ngZ x)=GM.cr (ngZ (rA A (j - k))) x:=by rw[jE,FO]
   have e2:GM.cr (rA A (j - k+1)) (ngZ x)=GM.cr (ngZ (rA A (j - k+1))) x:=by rw[jE,FO]
   rcases R.nxt (i:=j - k) (by omega) (cx.ng R.sy) (by rw[e1];exact h1)with z|z
   ·left;rw[← z,eL]
   ·right;rw[← e2];exact z
 ·rw[bB]at hj
  rw[F9 (by omega),F9 (by omega),QB (by omega),QB hj]
  have inj:∀{a b:Nat},a<b→b<k→rA A a≠rA A b:=fun{a b} h1 h2 e=>by
   have:=R.down2 h1 h2
   rw[e]at this;grind
  have nz:∀{a b:Nat},a<k→b<k→rA A a≠ngZ (rA A b):=fun{a b} h1 h2 e=>by
   have ca:GM.cr (rA A 0) (rA A a)=GM.cr (rA A 0) (ngZ (rA A b)):=by rw[← e]
   rw[jE]at ca
   by_cases a0:a=0
   ·by_cases b0:b=0
    ·have c1:=R.cr (i:=0) (by omega)
     have e':rA A 0=ngZ (rA A 0):=by rw[a0,b0]at e;exact e
     have z1:(rA A 0).1 = -(rA A 0).1:=congrArg Prod.fst e'
     have z2:(rA A 0).2 = -(rA A 0).2:=congrArg Prod.snd e'
     unfold GM.cr at c1
     have y1:(rA A 0).1=0:=by grind
     have y2:(rA A 0).2=0:=by grind
     rw[y1,y2]at c1;grind
    ·have:=R.up0 (i:=b) (by omega) h2
     rw[a0,me]at ca;grind
   ·have p:=R.up0 (i:=a) (by omega) h1
    by_cases b0:b=0
    ·rw[b0,me]at ca;grind
    ·have:=R.up0 (i:=b) (by omega) h2
     grind
  unfold vA
  by_cases c1:i<k
  ·rw[if_pos c1]
   by_cases c2:j<k
   ·rw[if_pos c2];exact inj hij c2
   ·rw[if_neg c2];exact nz c1 (by omega)
  ·rw[if_neg c1,if_neg (by omega)]
   intro e
   exact inj (a:=i - k) (b:=j - k) (by omega) (by omega) (by rw[← eL (rA A (i - k)),e,eL])
end
theorem tY{h0:Sd}{ss:List Sd}:∀(k:Nat) (a:Sd),∀ ab∈(a :: G7 h0 ss k (C9 a ss)).zip (G7 h0 ss k (C9 a ss)),C9 ab.1 ss=some ab.2
 | 0,a,ab,h=>by
  have:G7 h0 ss 0 (C9 a ss)=[]:=by cases C9 a ss<;>rfl
  rw[this]at h;cases h
 | k+1,a,ab,h=>by
  cases e:C9 a ss with
  | none=>rw[e]at h;cases h
  | some f =>
   rw[e]at h
   have e2:G7 h0 ss (k+1) (some f)=if 0<veZ h0 f then f :: G7 h0 ss k (C9 f ss)else[]:=rfl
   rw[e2]at h
   split at h
   ·rw[RH]at h
    rcases Pn.mp h with rfl|h
    ·exact e
    ·exact tY k f ab h
   ·cases h
theorem yE{h0:Sd}{ss:List Sd}:∀(k:Nat) (o:Option Sd),∀ s∈G7 h0 ss k o,0<veZ h0 s
 | 0,o,s,h=>by cases h
 | k+1,none,s,h=>by cases h
 | k+1,some f,s,h=>by
  have e2:G7 h0 ss (k+1) (some f)=if 0<veZ h0 f then f :: G7 h0 ss k (C9 f ss)else[]:=rfl
  rw[e2]at h
  split at h
  ·rename_i hv
   rcases Pn.mp h with rfl|h
   ·exact hv
   ·exact yE k _ s h
  ·cases h
noncomputable def kp(s:Sd):Rat:=(s.1:Rat) / (s.2.2.1:Rat)
noncomputable def kq(s:Sd):Rat:=(s.2.1:Rat) / (s.2.2.1:Rat)
def Lx(t f:Sd):Prop:=kp t<kp f∨(kp t=kp f∧kq t≤kq f)
theorem Lx.trans{a b c:Sd}(h:Lx a b)(g:Lx b c):Lx a c:=by unfold Lx at *;grind
theorem ya{a b x y:Int}(hx:0<x)(hy:0<y):((a*y - b*x:Int):Rat)=((a:Rat) / (x:Rat) - (b:Rat) / (y:Rat))*((x:Rat)*(y:Rat)):=by
 have h1:(0:Rat)<(x:Rat):=u5.mpr hx
 have h2:(0:Rat)<(y:Rat):=u5.mpr hy
 rw[Rf,PF,PF]
 grind
theorem sgn{a b x y:Int}(hx:0<x)(hy:0<y):(0<a*y - b*x↔(b:Rat) / (y:Rat)<(a:Rat) / (x:Rat))∧(a*y - b*x=0↔(b:Rat) / (y:Rat)=(a:Rat) / (x:Rat)):=by
 have e:=ya (a:=a) (b:=b) hx hy
 have p:(0:Rat)<(x:Rat)*(y:Rat):=Qt (u5.mpr hx) (u5.mpr hy)
 generalize a*y - b*x=n at *
 generalize (a:Rat) / (x:Rat)=u at *
 generalize (b:Rat) / (y:Rat)=v at *
 generalize (x:Rat)*(y:Rat)=c at *
 constructor
 ·rw[← u5,e]
  constructor
  ·intro h
   have:=N6 p (x:=u - v) (by grind)
   grind
  ·intro h
   have:=Qt p (show 0<u - v by grind)
   grind
 ·constructor
  ·intro h
   rw[h]at e
   have e:(0:Rat)=(u - v)*c:=e
   grind
  ·intro h
   rw[h]at e
   have e:(n:Rat)=0:=by rw[e];grind
   exact_mod_cast e
theorem Dv{s f:Sd}(hs:0<s.2.2.1)(hf:0<f.2.2.1):(G2 s f=true→Lx f s)∧(¬ G2 s f=true→Lx s f):=by
 obtain⟨a1,a2⟩:=sgn (a:=s.1) (b:=f.1) hs hf
 obtain⟨b1,b2⟩:=sgn (a:=s.2.1) (b:=f.2.1) hs hf
 have k1:kp s=(s.1:Rat) / (s.2.2.1:Rat):=rfl
 have k2:kp f=(f.1:Rat) / (f.2.2.1:Rat):=rfl
 have k3:kq s=(s.2.1:Rat) / (s.2.2.1:Rat):=rfl
 have k4:kq f=(f.2.1:Rat) / (f.2.2.1:Rat):=rfl
 rw[← k1,← k2]at a1 a2
 rw[← k3,← k4]at b1 b2
 unfold G2 Lx
 by_cases c:s.1*f.2.2.1 - f.1*s.2.2.1=0
 ·rw[if_pos c,decide_eq_true_eq]
  have:=a2.mp c
  constructor
  ·intro h;have:=b1.mp h;grind
  ·intro h;rw[b1]at h;grind
 ·rw[if_neg c,decide_eq_true_eq]
  rw[a2]at c
  constructor
  ·intro h;have:=a1.mp h;grind
  ·intro h;rw[a1]at h;grind
theorem eJ:∀(ss:List Sd) (f t:Sd),(∀ s∈ss,0<s.2.2.1)→0<f.2.2.1→(t∈ss∨Lx t f)→Lx t (A9 ss f)
 | [],f,t,_,_,h=>by
  rcases h with h|h
  ·cases h
  ·exact h
 | s :: r,f,t,hp,hf,h=>by
  have hs:=hp s Po
  obtain⟨j1,j2⟩:=Dv hs hf
  have e:A9 (s :: r) f=A9 r (if G2 s f=true then s else f):=rfl
  rw[e]
  by_cases c:G2 s f=true
  ·rw[if_pos c]
   refine eJ r s t (fun x hx=>hp x (Pk _ hx)) hs ?_
   rcases h with h|h
   ·rcases Pn.mp h with rfl|h
    ·exact .inr (.inr ⟨rfl,Qe⟩)
    ·exact .inl h
   ·exact .inr (h.trans (j1 c))
  ·rw[if_neg c]
   refine eJ r f t (fun x hx=>hp x (Pk _ hx)) hf ?_
   rcases h with h|h
   ·rcases Pn.mp h with rfl|h
    ·exact .inr (j2 c)
    ·exact .inl h
   ·exact .inr h
theorem Kq{a h l:Sd}(pa:0<a.2.2.1)(ph:0<h.2.2.1)(pl:0<l.2.2.1)(la:Lx a h)(ll:Lx l h)(v1:0<veZ a h)(v2:0<veZ h l):tnZ a h l≠0:=fun z=>by
 have ra:(0:Rat)<(a.2.2.1:Rat):=u5.mpr pa
 have rh:(0:Rat)<(h.2.2.1:Rat):=u5.mpr ph
 have rl:(0:Rat)<(l.2.2.1:Rat):=u5.mpr pl
 have V1:(0:Rat)<ve (tri a) (tri h):=by rw[y7];exact u5.mpr v1
 have V2:(0:Rat)<ve (tri h) (tri l):=by rw[y7];exact u5.mpr v2
 have Z:tn (tri a) (tri h) (tri l)=0:=by rw[jV,z];rfl
 have ea:(a.1:Rat)=kp a*(a.2.2.1:Rat):=by unfold kp;grind
 have ea2:(a.2.1:Rat)=kq a*(a.2.2.1:Rat):=by unfold kq;grind
 have eh:(h.1:Rat)=kp h*(h.2.2.1:Rat):=by unfold kp;grind
 have eh2:(h.2.1:Rat)=kq h*(h.2.2.1:Rat):=by unfold kq;grind
 have el:(l.1:Rat)=kp l*(l.2.2.1:Rat):=by unfold kp;grind
 have el2:(l.2.1:Rat)=kq l*(l.2.2.1:Rat):=by unfold kq;grind
 unfold Lx at la ll
 have ve1:ve (tri a) (tri h)=(kp a*kq h - kq a*kp h)*((a.2.2.1:Rat)*(h.2.2.1:Rat)):=by
  unfold ve tri
  show(a.1:Rat)*(h.2.1:Rat) - (a.2.1:Rat)*(h.1:Rat)=_
  rw[ea,ea2,eh,eh2];grind
 have ve2:ve (tri h) (tri l)=(kp h*kq l - kq h*kp l)*((h.2.2.1:Rat)*(l.2.2.1:Rat)):=by
  unfold ve tri
  show(h.1:Rat)*(l.2.1:Rat) - (h.2.1:Rat)*(l.1:Rat)=_
  rw[el,el2,eh,eh2];grind
 have te:tn (tri a) (tri h) (tri l)=((kp h*kq l - kq h*kp l) - (kp a*kq l - kq a*kp l)+(kp a*kq h - kq a*kp h))*((a.2.2.1:Rat)*(h.2.2.1:Rat)*(l.2.2.1:Rat)):=by
  unfold tn ve tri
  show(a.2.2.1:Rat)*((h.1:Rat)*(l.2.1:Rat) - (h.2.1:Rat)*(l.1:Rat)) - (h.2.2.1:Rat)*((a.1:Rat)*(l.2.1:Rat) - (a.2.1:Rat)*(l.1:Rat))+(l.2.2.1:Rat)*((a.1:Rat)*(h.2.1:Rat) - (a.2.1:Rat)*(h.1:Rat))=_
  rw[ea,ea2,eh,eh2,el,el2];grind
 have P3:(0:Rat)<(a.2.2.1:Rat)*(h.2.2.1:Rat)*(l.2.2.1:Rat):=Qt (Qt ra rh) rl
 have U1:0<kp a*kq h - kq a*kp h:=N6 (Qt ra rh) (by rw[ve1]at V1;grind)
 have U2:0<kp h*kq l - kq h*kp l:=N6 (Qt rh rl) (by rw[ve2]at V2;grind)
 have U3:(kp h*kq l - kq h*kp l) - (kp a*kq l - kq a*kp l)+(kp a*kq h - kq a*kp h)=0:=by
  rw[Z]at te
  have hz:∀ x c:Rat,0<c→0=x*c→x=0:=fun x c h e=>by grind
  exact hz _ _ P3 te
 clear te ve1 ve2 ea ea2 eh eh2 el el2 Z V1 V2 z v1 v2 pa ph pl P3 ra rh rl
 generalize kp a=ap at *
 generalize kq a=aq at *
 generalize kp h=hp at *
 generalize kq h=hq at *
 generalize kp l=lp at *
 generalize kq l=lq at *
 generalize hU:hp*lq - hq*lp=u2 at *
 generalize hV:ap*hq - aq*hp=u1 at *
 have i1:u2*(hp - ap)+u1*(hp - lp)=0:=by grind
 have i2:u2*(hq - aq)+u1*(hq - lq)=0:=by grind
 have g1:ap≤hp:=by grind
 have g2:lp≤hp:=by grind
 have n1:0≤u2*(hp - ap):=Pq (G0 U2) (by grind)
 have n2:0≤u1*(hp - lp):=Pq (G0 U1) (by grind)
 have y1:u2*(hp - ap)=0:=by grind
 have y2:u1*(hp - lp)=0:=by grind
 have e1:hp=ap:=by grind
 have e2:hp=lp:=by grind
 have g3:aq≤hq:=by grind
 have g4:lq≤hq:=by grind
 have n3:0≤u2*(hq - aq):=Pq (G0 U2) (by grind)
 have n4:0≤u1*(hq - lq):=Pq (G0 U1) (by grind)
 have y3:u2*(hq - aq)=0:=by grind
 have e3:hq=aq:=by grind
 rw[e1,e3]at hV
 grind
noncomputable def m9(h0:Sd)(l:List Sd):List Sd:=h0 :: l++[g6 h0,g6 (l.headD h0)]
noncomputable def fA(h0:Sd)(l:List Sd)(i:Nat):T3:=tri ((m9 h0 l).getD i h0)
theorem L1{h0:Sd}{l:List Sd}{i:Nat}(h:i<l.length+1):(m9 h0 l).getD i h0=(h0 :: l)[i]'(by rw[Pp];exact h):=by
 unfold m9
 rw[PC,QY (by rw[Pp];exact h),PH];rfl
theorem aG{h0:Sd}{l:List Sd}:(m9 h0 l).getD (l.length+1) h0=g6 h0:=by
 unfold m9
 rw[PC,QH (by rw[Pp];exact Py _),Pp,Nat.sub_self];rfl
theorem eR{h0:Sd}{l:List Sd}:(m9 h0 l).getD (l.length+2) h0=g6 (l.headD h0):=by
 unfold m9
 rw[PC,QH (by rw[Pp];omega),Pp,show l.length+2 - (l.length+1)=1 by omega];rfl
theorem uJ{h0:Sd}{l:List Sd}{i:Nat}(h:i<l.length+1):((m9 h0 l).getD i h0,(m9 h0 l).getD (i+1) h0)∈(h0 :: l).zip (l++[g6 h0]):=by
 have hz:i<((h0 :: l).zip (l++[g6 h0])).length:=by rw[Qx,Pp,PB];show i<min _ (l.length+1);omega
 have e:((h0 :: l).zip (l++[g6 h0]))[i]=((m9 h0 l).getD i h0,(m9 h0 l).getD (i+1) h0):=by
  rw[Rn,L1 h]
  congr 1
  by_cases c:i<l.length
  ·rw[L1 (show i+1<l.length+1 by omega),QU,Rh c]
  ·obtain rfl:i=l.length:=by omega
   rw[aG,Rw (Py _)]
   simp
 rw[← e]
 exact Rm _
theorem Ge{h0:Sd}{l:List Sd}{i:Nat}(h:i<l.length):((m9 h0 l).getD i h0,(m9 h0 l).getD (i+1) h0)∈(h0 :: l).zip l:=by
 have hz:i<((h0 :: l).zip l).length:=by rw[Qx,Pp];omega
 have e:((h0 :: l).zip l)[i]=((m9 h0 l).getD i h0,(m9 h0 l).getD (i+1) h0):=by
  rw[Rn,L1 (show i<l.length+1 by omega),L1 (show i+1<l.length+1 by omega),QU]
 rw[← e]
 exact Rm _
theorem tM{a b c:Sd}(pa:0<a.2.2.1)(pb:0<b.2.2.1)(pc:0<c.2.2.1)(v1:0<veZ a b)(v2:0<veZ b c)(h:veZ a c≤0):0<tnZ a b c:=by
 unfold tnZ
 have h1:=TC pa v2
 have h2:=TC pc v1
 have h3:0≤b.2.2.1 * -veZ a c:=Ru (by omega) (by omega)
 rw[TB]at h3
 omega
theorem Gw{ss:List Sd}(hp:∀ s∈ss,0<s.2.2.1){a b c:Sd}(ha:a∈ss)(hc:c∈ss)(e:C9 a ss=some b)(v2:0<veZ b c):0<tnZ a b c:=by
 obtain⟨mb,v1,h3⟩:=(bF (h:=a) hp).yes b e
 by_cases h:0<veZ a c
 ·obtain⟨q1,q2⟩:=h3 c hc h
  rcases Tn 0 (tnZ a b c)with z|z
  ·exact z
  ·have:=q2 (by omega);omega
 ·exact tM (hp a ha) (hp b mb) (hp c hc) v1 v2 (by omega)
theorem Fj{ls:List T3}(hok:∀ l∈ls,LineOk l){h0 x:Sd}{l:List Sd}(e:v9 (e8 ls)=h0 :: x :: l) :
  N4 ((e8 ls).map tri) (fA h0 (x :: l)) ((x :: l).length+1)∧C6 h0 (x :: l)++(C6 h0 (x :: l)).map ngZ=J1 (fA h0 (x :: l)) ((x :: l).length+1):=by
 have hp:∀ s∈e8 ls,0<s.2.2.1:=aU hok (i:=0)
 have sy:∀ s∈e8 ls,g6 s∈e8 ls:=fM (ls:=ls) (i:=0)
 have hne:ls≠[]:=fun z=>by rw[z]at e;cases e
 obtain⟨g0,m,e',m0,h⟩:=D7 hok hne
 rw[e]at e'
 cases e'
 rcases h with⟨z,_⟩|⟨_,R,hE⟩
 ·cases z
 have nx:(∀ ab∈(h0 :: x :: l).zip (x :: l),C9 ab.1 (e8 ls)=some ab.2)∧(∀ s∈x :: l,0<veZ h0 s)∧∀ t∈e8 ls,Lx t h0:=by
  cases es:e8 ls with
  | nil=>rw[es]at e;cases e
  | cons s r =>
   rw[es]at e hp
   have e2:v9 (s :: r)=A9 (s :: r) s :: G7 (A9 (s :: r) s) (s :: r) (s :: r).length (C9 (A9 (s :: r) s) (s :: r)):=rfl
   rw[e2]at e
   injection e with e3 e4
   have n1:=tY (h0:=A9 (s :: r) s) (ss:=s :: r) (s :: r).length (A9 (s :: r) s)
   have n2:=yE (h0:=A9 (s :: r) s) (ss:=s :: r) (s :: r).length (C9 (A9 (s :: r) s) (s :: r))
   have n3:=fun t ht=>eJ (s :: r) s t hp (hp s Po) (.inl ht)
   rw[e4,e3]at n1
   rw[e4,e3]at n2
   rw[e3]at n3
   exact⟨n1,n2,n3⟩
 obtain⟨nx1,nx2,nx3⟩:=nx
 generalize hL:x :: l=L at *
 have hL1:1≤L.length:=by rw[← hL];exact Nat.succ_le_succ (Qs _)
 have ed:∀ i,i<L.length+1→(m9 h0 L).getD i h0∈e8 ls∧(m9 h0 L).getD (i+1) h0∈e8 ls∧0<veZ ((m9 h0 L).getD i h0) ((m9 h0 L).getD (i+1) h0):=fun i hi=>hE _ (uJ hi)
 have f0:(m9 h0 L).getD 0 h0=h0:=rfl
 have f1:(m9 h0 L).getD 1 h0=L.headD h0:=by rw[← hL];rfl
 have edk:veZ ((m9 h0 L).getD (L.length+1) h0) ((m9 h0 L).getD (L.length+2) h0)=veZ ((m9 h0 L).getD 0 h0) ((m9 h0 L).getD 1 h0):=by
  rw[aG,eR,f0,f1];unfold veZ g6;grind
 have mk1:(m9 h0 L).getD (L.length+2) h0∈e8 ls:=by
  rw[eR,← f1];exact sy _ (ed 0 (by omega)).2.1
 have mem:∀ i,i≤L.length+2→(m9 h0 L).getD i h0∈e8 ls:=fun i hi=>by
  by_cases c:i<L.length+1
  ·exact(ed i c).1
  ·by_cases c2:i=L.length+1
   ·rw[c2];exact(ed L.length (by omega)).2.1
   ·rw[show i=L.length+2 by omega];exact mk1
 have vei:∀ i,i≤L.length+1→0<veZ ((m9 h0 L).getD i h0) ((m9 h0 L).getD (i+1) h0):=fun i hi=>by
  by_cases c:i<L.length+1
  ·exact(ed i c).2.2
  ·rw[show i=L.length+1 by omega,edk];exact(ed 0 (by omega)).2.2
 have sup0:∀ i,i<L.length+1→Sup ((e8 ls).map tri) (ry (fA h0 L i) (fA h0 L (i+1))):=fun i hi=>by
  have hm:=uJ (h0:=h0) (l:=L) hi
  have em:(fA h0 L i,fA h0 L (i+1))∈(tri h0 :: L.map tri).zip (L.map tri++[ng (tri h0)]):=by
   have:(tri h0 :: L.map tri).zip (L.map tri++[ng (tri h0)])=((h0 :: L).zip (L++[g6 h0])).map fun ab=>(tri ab.1,tri ab.2):=by
    rw[← F6,Qc,PQ,Qc,QS,v7]
   rw[this]
   exact Pm.mpr ⟨_,hm,rfl⟩
  exact(R.all _ em).2.2.2
 have lk:fA h0 L (L.length+1)=ng (fA h0 L 0):=by unfold fA;rw[aG,f0,v7]
 have lk1:fA h0 L (L.length+2)=ng (fA h0 L 1):=by unfold fA;rw[eR,f1,v7]
 refine⟨⟨by omega,R.sy,R.pos,fun i hi=>Pm.mpr ⟨_,mem i hi,rfl⟩,fun i hi=>?_,fun i hi=>?_,fun i hi=>?_,fun i h1 h2=>?_,lk,lk1⟩,?_⟩
 ·show 0<ve (tri _) (tri _);rw[y7];exact u5.mpr (vei i hi)
 ·by_cases c:i<L.length+1
  ·exact sup0 i c
  ·rw[show i=L.length+1 by omega,lk,lk1,jj]
   exact Z9 R.sy (sup0 0 (by omega))
 ·show 0<tn (tri _) (tri _) (tri _)
  rw[jV]
  refine u5.mpr ?_
  by_cases c:i<L.length
  ·exact Gw hp (mem i (by omega)) (mem (i+2) (by omega)) (nx1 _ (Ge c)) (vei (i+1) (by omega))
  ·obtain rfl:i=L.length:=by omega
   have q1:=vei L.length (by omega)
   have q2:=vei (L.length+1) (by omega)
   have p1:=hp _ (mem L.length (by omega))
   have p2:=hp _ (mem (L.length+1) (by omega))
   have p3:=hp _ (mem (L.length+2) (by omega))
   by_cases h:veZ ((m9 h0 L).getD L.length h0) ((m9 h0 L).getD (L.length+2) h0)≤0
   ·exact tM p1 p2 p3 q1 q2 h
   ·have ge:0≤tnZ ((m9 h0 L).getD L.length h0) ((m9 h0 L).getD (L.length+1) h0) ((m9 h0 L).getD (L.length+2) h0):=by
     have s:=sup0 L.length (by omega) (fA h0 L (L.length+2)) (Pm.mpr ⟨_,mk1,rfl⟩)
     have V:(0:Rat)<ve (fA h0 L L.length) (fA h0 L (L.length+1)):=by show 0<ve (tri _) (tri _);rw[y7];exact u5.mpr q1
     have t:=oj (t6 V) (fA h0 L (L.length+2))
     have:0≤tn (fA h0 L L.length) (fA h0 L (L.length+1)) (fA h0 L (L.length+2)):=by
      rw[← t];exact Pq (G0 V) (by grind)
     have:0≤tn (tri ((m9 h0 L).getD L.length h0)) (tri ((m9 h0 L).getD (L.length+1) h0)) (tri ((m9 h0 L).getD (L.length+2) h0)):=this
     rw[jV]at this
     exact pS.mp this
    have ne:=Kq (a:=g6 ((m9 h0 L).getD L.length h0)) (h:=h0) (l:=L.headD h0) p1 (hp h0 m0) (hp _ (by rw[← f1];exact(ed 0 (by omega)).2.1)) (nx3 _ (sy _ (mem L.length (by omega)))) (nx3 _ (by rw[← f1];exact(ed 0 (by omega)).2.1)) (by
     rw[aG]at q1
     have:veZ (g6 ((m9 h0 L).getD L.length h0)) h0=veZ ((m9 h0 L).getD L.length h0) (g6 h0):=by unfold veZ g6;grind
     rw[this];exact q1) (by have:=(ed 0 (by omega)).2.2;rw[f0,f1]at this;exact this)
    have eq:tnZ (g6 ((m9 h0 L).getD L.length h0)) h0 (L.headD h0)=tnZ ((m9 h0 L).getD L.length h0) ((m9 h0 L).getD (L.length+1) h0) ((m9 h0 L).getD (L.length+2) h0):=by
     rw[aG,eR];unfold tnZ veZ g6;grind
    rw[eq]at ne
    omega
 ·show 0<ve (tri ((m9 h0 L).getD 0 h0)) (tri _)
  rw[y7,f0,L1 (show i<L.length+1 by omega)]
  obtain⟨j,rfl⟩:∃ j,i=j+1:=⟨i - 1,by omega⟩
  rw[QU]
  exact u5.mpr (nx2 _ (Rm _))
 ·have er:C6 h0 L=(QM (L.length+1)).map (rA (fA h0 L)):=by
   unfold C6
   refine Rz (by rw[Pj,Pj,QT,Qx,Pp,PB];show min _ (L.length+1)=_;omega) fun i h1 h2=>?_
   rw[Pj,QT]at h2
   rw[Ur,Ur,List.getElem_range,Rn]
   have g1:=L1 (h0:=h0) (l:=L) h2
   have hB:i<(h0 :: L).length:=by rw[Pp];exact h2
   have hA:i<(L++[g6 h0]).length:=by rw[PB];exact h2
   show ry (tri ((h0 :: L)[i]'hB)) (tri ((L++[g6 h0])[i]'hA))=ry (tri _) (tri _)
   rw[g1]
   congr 2
   by_cases c:i<L.length
   ·rw[L1 (show i+1<L.length+1 by omega),QU,Rh c]
   ·obtain rfl:i=L.length:=by omega
    rw[aG,Rw (Py _)]
    simp
  unfold J1
  rw[er,Qw]
  rfl
theorem HE{a b c:Zr}(h:¬ K4 a b=true)(g:¬ K4 b c=true):¬ K4 a c=true:=by
 unfold K4 at *
 split at h<;>split at g<;>split<;>simp only[decide_eq_true_eq]at *<;>grind
theorem HI{a b:Zr}(h:¬ K4 a b=true)(g:¬ K4 b a=true):a=b:=by
 unfold K4 at *
 by_cases e:a.1=b.1
 ·rw[if_pos e,decide_eq_true_eq]at h
  rw[if_pos e.symm,decide_eq_true_eq]at g
  exact Prod.ext e (by grind)
 ·rw[if_neg e,decide_eq_true_eq]at h
  rw[if_neg (fun z=>e z.symm),decide_eq_true_eq]at g
  exact absurd (by grind) e
theorem HG(a:Zr):¬ K4 a a=true:=by
 unfold K4
 rw[if_pos rfl,decide_eq_true_eq];grind
theorem HF{a b:Zr}(h:K4 a b=true):¬ K4 b a=true:=by
 unfold K4 at *
 split at h<;>split<;>simp only[decide_eq_true_eq]at *<;>grind
theorem ud{rs:List Zr}:∀(i:Nat),∀ j,j<i→¬ K4 (rs.getD j (0,0)) (rs.getD (J7 rs i) (0,0))=true
 | 0,j,h=>absurd h (Tp j)
 | i+1,j,h=>by
  have ih:=ud (rs:=rs) i
  show ¬ K4 _ (rs.getD (if K4 (rs.getD i (0,0)) (rs.getD (J7 rs i) (0,0))=true then i else J7 rs i) (0,0))=true
  split
  ·rename_i c
   by_cases e:j=i
   ·rw[e];exact HG _
   ·exact HE (ih j (by omega)) (HF c)
  ·rename_i c
   by_cases e:j=i
   ·rw[e];exact c
   ·exact ih j (by omega)
theorem Cs{rs:List Zr}(h:rs≠[]):∀ x∈cy rs,¬ K4 x (nth (cy rs) 0)=true:=fun x hx=>by
 have hx:=bA.mp hx
 have hp:=gi h rs.length (Py _)
 unfold cy
 rw[B3 rs hp,RF,aA hp]
 obtain⟨j,hj,rfl⟩:=Rr.mp hx
 have:=ud (rs:=rs) rs.length j hj
 rw[PC,PC,PH hj,PH hp]at this
 exact this
structure Z8(ls:List T3)(cs:List Zr):Prop where
 ne:cs≠[]
 chn:Chn cs
 low:∀ x∈cs,¬ K4 x (nth cs 0)=true
 mem:∀ z,z∈cs↔Cn2 ((e8 ls).map tri) z
theorem aI{ls:List T3}(hok:∀ l∈ls,LineOk l):(C3 ls=none∧q9 ls) ∨ ∃ cs,C3 ls=some cs∧¬ q9 ls∧Z8 ls cs:=by
 rcases gO hok with h|⟨cs,e,na,g0,m,R,hm⟩
 ·exact .inl h
 right
 refine⟨cs,e,na,?_⟩
 unfold C3 at e
 cases eh:v9 (e8 ls)with
 | nil=>rw[eh]at e;cases e
 | cons h0 t =>
  cases t with
  | nil=>rw[eh]at e;cases e
  | cons x l =>
   rw[eh]at e
   obtain⟨RC,er⟩:=Fj hok eh
   have e:some (cy (C6 h0 (x :: l)++(C6 h0 (x :: l)).map ngZ))=some cs:=e
   rw[er]at e
   cases e
   have hl:(J1 (fA h0 (x :: l)) ((x :: l).length+1)).length=2*((x :: l).length+1):=bB
   have nn:J1 (fA h0 (x :: l)) ((x :: l).length+1)≠[]:=fun z=>by rw[z]at hl;simp at hl
   have hp:=gi nn _ (Py _)
   refine⟨fun z=>?_,RC.chn.rot hp,Cs nn,fun z=>?_⟩
   ·have:nth (J1 (fA h0 (x :: l)) ((x :: l).length+1)) 0∈cy (J1 (fA h0 (x :: l)) ((x :: l).length+1)):=bA.mpr (t8 nn 0)
    rw[z]at this;cases this
   ·constructor
    ·intro hz;exact tX RC (bA.mp hz)
    ·intro⟨sz,s,t,ms,mt,hv,es,et⟩
     rw[hm]
     rcases tot 0 (ve s t)with q|q
     ·exact R.corner sz ms mt (by grind) es et
     ·exact R.corner sz mt ms (by rw[show ve t s = -ve s t by unfold ve;grind];grind) et es
theorem Z8.one{ls ms:List T3}{cs ds:List Zr}(h:Z8 ls cs)(g:Z8 ms ds)(e:∀ z,z∈cs↔z∈ds):cs=ds :=
 FV h.chn g.chn h.ne g.ne e (HI (g.low _ ((e _).mp (t8 h.ne 0))) (h.low _ ((e _).mpr (t8 g.ne 0))))
theorem eps:∀(xs:List (Rat × Rat)),(∀ x∈xs,0≤x.1∧(x.1=0→x.2=0))→∃ e:Rat,0<e∧∀ x∈xs,e*x.2≤x.1∧-(e*x.2)≤x.1
 | [],_=>⟨1,by decide,fun _ h=>nomatch h⟩
 | x :: xs,h=>by
  obtain⟨e,he,hx⟩:=eps xs fun y hy=>h y (Pk _ hy)
  obtain⟨h1,h2⟩:=h x Po
  by_cases c:x.2=0
  ·refine⟨e,he,fun y hy=>?_⟩
   rcases Pn.mp hy with rfl|hy
   ·rw[c];grind
   ·exact hx y hy
  ·have hp:0<x.1:=by
    by_cases z:x.1=0
    ·exact absurd (h2 z) c
    ·grind
   let m:Rat:=if 0<x.2 then x.2 else -x.2
   have hm:0<m:=by show 0<(if 0<x.2 then x.2 else -x.2);split<;>grind
   have hd:0<x.1 / m:=by
    have e1:x.1 / m*m=x.1:=Qk (t6 hm)
    exact N6 hm (by rw[RD,e1];exact hp)
   have e1:x.1 / m*m=x.1:=Qk (t6 hm)
   have mle:x.2≤m∧-x.2≤m:=by
    show x.2≤(if 0<x.2 then x.2 else -x.2)∧-x.2≤(if 0<x.2 then x.2 else -x.2)
    split<;>constructor<;>grind
   generalize m=w at *
   have small:∀ f:Rat,0<f→f≤x.1 / w→f*x.2≤x.1∧-(f*x.2)≤x.1:=fun f f0 f1=>by
    have a1:0≤f*(w - x.2):=Pq (G0 f0) (by grind)
    have a2:0≤f*(w+x.2):=Pq (G0 f0) (by grind)
    have a3:0≤(x.1 / w - f)*w:=Pq (by grind) (G0 hm)
    constructor<;>grind
   have scale:∀ f:Rat,0<f→f≤e→∀ y∈xs,f*y.2≤y.1∧-(f*y.2)≤y.1:=fun f f0 f1 y hy=>by
    obtain⟨b1,b2⟩:=hx y hy
    have y0:=(h y (Pk _ hy)).1
    rcases tot 0 y.2 with c|c
    ·have a1:0≤(e - f)*y.2:=Pq (by grind) c
     have a2:0≤f*y.2:=Pq (G0 f0) c
     constructor<;>grind
    ·have a1:0≤(e - f) * -y.2:=Pq (by grind) (by grind)
     have a2:0≤f * -y.2:=Pq (G0 f0) (by grind)
     constructor<;>grind
   rcases tot e (x.1 / w)with c2|c2
   ·refine⟨e,he,fun y hy=>?_⟩
    rcases Pn.mp hy with rfl|hy
    ·exact small e he c2
    ·exact hx y hy
   ·refine⟨x.1 / w,hd,fun y hy=>?_⟩
    rcases Pn.mp hy with rfl|hy
    ·exact small _ hd Qe
    ·exact scale _ hd c2 y hy
noncomputable def mz(z d:Zr)(e:Rat):Zr:=(z.1+e*d.1,z.2+e*d.2)
theorem rf(s:T3)(z d:Zr)(e:Rat):dt s (mz z d e)=dt s z+e*dt s d:=by unfold dt mz;grind
theorem Ko{ss:List T3}(nz:∀ s∈ss,¬ (s.1=0∧s.2.1=0)){z:Zr}(hz:Sup ss z)(hn:¬ ∃ s t,s∈ss∧t∈ss∧ve s t≠0∧dt s z=s.2.2∧dt t z=t.2.2) :
  ∃ d:Zr,¬ (d.1=0∧d.2=0)∧Sup ss (mz z d 1)∧Sup ss (mz z d (-1)):=by
 obtain⟨d,hd,ht⟩:∃ d:Zr,¬ (d.1=0∧d.2=0)∧∀ s∈ss,dt s z=s.2.2→dt s d=0:=by
  by_cases c:∃ s∈ss,dt s z=s.2.2
  ·obtain⟨s,hs,es⟩:=c
   refine⟨(-s.2.1,s.1),fun⟨h1,h2⟩=>nz s hs ⟨h2,by have h1:-s.2.1=0:=h1;grind⟩,fun t ht et=>?_⟩
   by_cases v:ve s t=0
   ·have:dt t (-s.2.1,s.1)=ve s t:=by unfold dt ve;grind
    rw[this,v]
   ·exact absurd ⟨s,t,hs,ht,v,es,et⟩ hn
  ·exact⟨(1,0),fun⟨h,_⟩=>absurd h (by decide),fun s hs es=>absurd ⟨s,hs,es⟩ c⟩
 obtain⟨e,he,hx⟩:=eps (ss.map fun s=>(s.2.2 - dt s z,dt s d)) fun x hx=>by
  obtain⟨s,hs,rfl⟩:=Pm.mp hx
  have:=hz s hs
  exact⟨by show 0≤s.2.2 - dt s z;grind,fun h0=>ht s hs (by have h0:s.2.2 - dt s z=0:=h0;grind)⟩
 have cmul:∀ s:T3,dt s (e*d.1,e*d.2)=e*dt s d:=fun s=>by unfold dt;grind
 refine⟨(e*d.1,e*d.2),fun⟨h1,h2⟩=>hd ⟨?_,?_⟩,fun s hs=>?_,fun s hs=>?_⟩
 ·have h1:e*d.1=0:=h1;grind
 ·have h2:e*d.2=0:=h2;grind
 ·obtain⟨b1,b2⟩:=hx _ (Pm.mpr ⟨s,hs,rfl⟩)
  rw[rf,cmul]
  have b1:e*dt s d≤s.2.2 - dt s z:=b1
  grind
 ·obtain⟨b1,b2⟩:=hx _ (Pm.mpr ⟨s,hs,rfl⟩)
  rw[rf,cmul]
  have b2:-(e*dt s d)≤s.2.2 - dt s z:=b2
  grind
theorem aT{ls:List T3}(hok:∀ l∈ls,LineOk l):∀ s∈(e8 ls).map tri,¬ (s.1=0∧s.2.1=0):=fun s hs ⟨z1,z2⟩=>by
 obtain⟨t,ht,rfl⟩:=Pm.mp hs
 obtain⟨c,hc,k,ec⟩:=F8 ht
 have cp:=D8 c
 have:(tri (f7 c k)).1=0∧(tri (f7 c k)).2.1=0:=by
  rcases ec with rfl|rfl
  ·exact⟨z1,z2⟩
  ·rw[v7]at z1 z2
   unfold ng at z1 z2
   exact⟨by grind,by grind⟩
 rw[B7]at this
 have t1:c.1*(cbL c:Rat)=0:=this.1
 have t2:c.2.1*(cbL c:Rat)=0:=this.2
 exact(hok c hc).ne ⟨by grind,by grind⟩
noncomputable def cb2(p q:Rat):Nat:=u6 (u6 1 p.den) q.den
theorem rG(p q:Rat):cb2 p q=UI p.den q.den:=by
 unfold cb2;rw[G1,G1,Nat.lcm_comm 1,Nat.lcm_one_right]
theorem mq(p q:Rat):0<cb2 p q:=by rw[rG];exact Ss p.den_pos q.den_pos
theorem Lr(p q:Rat):p.den ∣ cb2 p q:=by rw[rG];exact RA _ _
theorem Lq(p q:Rat):q.den ∣ cb2 p q:=by rw[rG];exact RS _ _
noncomputable def wtF(p q:Rat):Int × Int:=(O1 p (cb2 p q),O1 q (cb2 p q))
noncomputable def veW(a:Sd)(w:Int × Int):Int:=a.1*w.2 - a.2.1*w.1
noncomputable def wVe(w:Int × Int)(b:Sd):Int:=w.1*b.2.1 - w.2*b.1
noncomputable def du(half:List Sd):List Sd:=half++half.map g6
noncomputable def dG(xs:List Sd):List (Sd × Sd):=xs.zip (xs.drop 1++xs.take 1)
noncomputable def bW(w:Int × Int)(f:Option (Sd × Sd))(ab:Sd × Sd):Option (Sd × Sd):=if 0≤veW ab.1 w∧0<wVe w ab.2 then some ab else f
noncomputable def pX(half:List Sd)(w:Int × Int):Option (Sd × Sd):=(dG (du half)).foldl (bW w) none
theorem pW{w:Int × Int}:∀(l:List (Sd × Sd)) (f:Option (Sd × Sd)),(∀ ab,l.foldl (bW w) f=some ab→f=some ab∨(ab∈l∧0≤veW ab.1 w∧0<wVe w ab.2))∧((f≠none ∨ ∃ ab∈l,0≤veW ab.1 w∧0<wVe w ab.2)→l.foldl (bW w) f≠none)
 | [],f=>⟨fun ab h=>.inl h,fun h=>by
  rcases h with h|⟨ab,h,_⟩
  ·exact h
  ·cases h⟩
 | x :: l,f=>by
  obtain⟨i1,i2⟩:=pW (w:=w) l (bW w f x)
  rw[Sv]
  refine⟨fun ab h=>?_,fun h=>i2 ?_⟩
  ·rcases i1 ab h with e|⟨m,c⟩
   ·unfold bW at e
    split at e
    ·rename_i c;cases e;exact .inr ⟨Po,c⟩
    ·exact .inl e
   ·exact .inr ⟨Pk _ m,c⟩
  ·by_cases c:0≤veW x.1 w∧0<wVe w x.2
   ·left;unfold bW;rw[if_pos c];exact fun z=>nomatch z
   ·rcases h with h|⟨ab,hm,hc⟩
    ·left;unfold bW;rw[if_neg c];exact h
    ·rcases Pn.mp hm with rfl|hm
     ·exact absurd hc c
     ·exact .inr ⟨ab,hm,hc⟩
theorem vd(l m:List Sd):(l.map g6).zip (m.map g6)=(l.zip m).map fun ab=>(g6 ab.1,g6 ab.2):=F6 g6 l m
theorem uR(h0:Sd)(l:List Sd):dG (du (h0 :: l))=(h0 :: l).zip (l++[g6 h0])++((h0 :: l).zip (l++[g6 h0])).map fun ab=>(g6 ab.1,g6 ab.2):=by
 unfold dG du
 have e1:(h0 :: l++(h0 :: l).map g6).drop 1++(h0 :: l++(h0 :: l).map g6).take 1=(l++[g6 h0])++(l++[g6 h0]).map g6:=by
  show(l++(g6 h0 :: l.map g6))++[h0]=_
  rw[PQ,Qc,QS,uG]
  simp
 rw[e1,List.zip_append (by rw[Pp,PB];rfl),vd]
theorem Rim.arnd{ss:List T3}{h0:T3}{l:List T3}(R:Rim ss h0 l)(w:T3)(hw:¬ (w.1=0∧w.2.1=0)) :
  ∃ ab∈dF h0 l,(0≤ve ab.1 w∧0<ve w ab.2)∨(0≤ve (ng ab.1) w∧0<ve w (ng ab.2)):=by
 have e0:ve w (ng h0)=ve h0 w:=by unfold ve ng;grind
 have e1:ve (ng h0) w = -ve h0 w:=by unfold ve ng;grind
 by_cases c1:0<ve h0 w
 ·obtain⟨ab,hm,k1,k2⟩:=qh h0 l (ng h0) (G0 c1) (by rw[e0];exact c1)
  exact⟨ab,hm,.inl ⟨k1,k2⟩⟩
 by_cases c2:ve h0 w<0
 ·have e2:ve w h0 = -ve h0 w:=by unfold ve;grind
  obtain⟨ab,hm,k1,k2⟩:=qh (w:=w) (ng h0) (l.map ng) h0 (by rw[e1];grind) (by rw[e2];grind)
  have em:ab∈((h0 :: l).map ng).zip ((l++[ng h0]).map ng):=by
   rw[PQ,Qc,Qc,QS,zu];exact hm
  rw[F6]at em
  obtain⟨cd,hcd,rfl⟩:=Pm.mp em
  exact⟨cd,hcd,.inr ⟨k1,k2⟩⟩
 ·have c0:ve h0 w=0:=by grind
  cases l with
  | nil=>exact absurd rfl R.ne
  | cons x l =>
   have hm:(h0,x)∈dF h0 (x :: l):=Po
   obtain⟨q1,q2,q3,q4⟩:=R.all _ hm
   have q3:0<ve h0 x:=q3
   by_cases k:0<ve w x
   ·exact⟨_,hm,.inl ⟨by show 0≤ve h0 w;rw[c0];exact Qe,k⟩⟩
   ·refine⟨_,hm,.inr ⟨by show 0≤ve (ng h0) w;rw[e1,c0];exact Qe,?_⟩⟩
    show 0<ve w (ng x)
    have ex:ve w (ng x) = -ve w x:=by unfold ve ng;grind
    rw[ex]
    have hne:ve w x≠0:=fun z=>hw (by
     unfold ve at c0 z q3
     have i1:w.1*(h0.1*x.2.1 - h0.2.1*x.1)=0:=by
      have:w.1*(h0.1*x.2.1 - h0.2.1*x.1)=h0.1*(w.1*x.2.1 - w.2.1*x.1)+x.1*(h0.1*w.2.1 - h0.2.1*w.1):=by grind
      rw[this,z,c0];grind
     have i2:w.2.1*(h0.1*x.2.1 - h0.2.1*x.1)=0:=by
      have:w.2.1*(h0.1*x.2.1 - h0.2.1*x.1)=h0.2.1*(w.1*x.2.1 - w.2.1*x.1)+x.2.1*(h0.1*w.2.1 - h0.2.1*w.1):=by grind
      rw[this,z,c0];grind
     have hv:h0.1*x.2.1 - h0.2.1*x.1≠0:=by grind
     exact⟨by grind,by grind⟩)
    grind
noncomputable def wT(w:Int × Int):T3:=((w.1:Rat),(w.2:Rat),0)
theorem Cb(a:Sd)(w:Int × Int):ve (tri a) (wT w)=(veW a w:Rat):=by
 unfold ve tri wT veW
 rw[Rf,PF,PF]
theorem Ca(w:Int × Int)(b:Sd):ve (wT w) (tri b)=(wVe w b:Rat):=by
 unfold ve tri wT wVe
 rw[Rf,PF,PF]
structure Arn(ls:List T3)(w:Int × Int)(a b:Sd):Prop where
 ma:a∈e8 ls
 mb:b∈e8 ls
 ve:0<veZ a b
 sup:Sup ((e8 ls).map tri) (ry (tri a) (tri b))
 ka:0≤veW a w
 kb:0<wVe w b
theorem pV{ls:List T3}(hok:∀ l∈ls,LineOk l){h0 x:Sd}{l:List Sd}(e:v9 (e8 ls)=h0 :: x :: l){w:Int × Int}(hw:¬ (w.1=0∧w.2=0)):∃ a b,pX (h0 :: x :: l) w=some (a,b)∧Arn ls w a b:=by
 have sy:∀ s∈e8 ls,g6 s∈e8 ls:=fM (ls:=ls) (i:=0)
 have hne:ls≠[]:=fun z=>by rw[z]at e;cases e
 obtain⟨g0,m,e',m0,h⟩:=D7 hok hne
 rw[e]at e'
 cases e'
 rcases h with⟨z,_⟩|⟨_,R,hE⟩
 ·cases z
 generalize x :: l=L at *
 have ed:dF (tri h0) (L.map tri)=((h0 :: L).zip (L++[g6 h0])).map fun ab=>(tri ab.1,tri ab.2):=by
  unfold dF
  rw[← F6,Qc,PQ,Qc,QS,v7]
 have hw':¬ ((wT w).1=0∧(wT w).2.1=0):=fun⟨z1,z2⟩=>hw ⟨by have z1:(w.1:Rat)=0:=z1;exact_mod_cast z1,by have z2:(w.2:Rat)=0:=z2;exact_mod_cast z2⟩
 obtain⟨i1,i2⟩:=pW (w:=w) (dG (du (h0 :: L))) none
 have ex:∃ ab∈dG (du (h0 :: L)),0≤veW ab.1 w∧0<wVe w ab.2:=by
  obtain⟨ab,hm,hc⟩:=R.arnd (wT w) hw'
  rw[ed]at hm
  obtain⟨cd,hcd,rfl⟩:=Pm.mp hm
  rw[uR]
  rcases hc with⟨k1,k2⟩|⟨k1,k2⟩
  ·refine⟨cd,QF _ hcd,?_,?_⟩
   ·have k1:0≤ve (tri cd.1) (wT w):=k1
    rw[Cb]at k1;exact pS.mp k1
   ·have k2:0<ve (wT w) (tri cd.2):=k2
    rw[Ca]at k2;exact u5.mp k2
  ·refine⟨(g6 cd.1,g6 cd.2),PN _ (Pm.mpr ⟨cd,hcd,rfl⟩),?_,?_⟩
   ·have k1:0≤ve (ng (tri cd.1)) (wT w):=k1
    rw[← v7,Cb]at k1;exact pS.mp k1
   ·have k2:0<ve (wT w) (ng (tri cd.2)):=k2
    rw[← v7,Ca]at k2;exact u5.mp k2
 obtain⟨⟨a,b⟩,eab⟩:=Option.ne_none_iff_exists'.mp (i2 (.inr ex))
 refine⟨a,b,eab,?_⟩
 rcases i1 _ eab with z|⟨hm,k1,k2⟩
 ·cases z
 rw[uR]at hm
 have supE:∀ ab∈(h0 :: L).zip (L++[g6 h0]),Sup ((e8 ls).map tri) (ry (tri ab.1) (tri ab.2)):=fun ab h=>by
  have hm:(tri ab.1,tri ab.2)∈dF (tri h0) (L.map tri):=by
   rw[ed];exact Pm.mpr ⟨ab,h,rfl⟩
  exact(R.all _ hm).2.2.2
 clear i1 i2 eab ex
 rcases PL.mp hm with hm|hm
 ·have q:=hE (a,b) hm
  have sq:=supE (a,b) hm
  exact⟨q.1,q.2.1,q.2.2,sq,k1,k2⟩
 ·obtain⟨cd,hcd,ec⟩:=Pm.mp hm
  obtain⟨q1,q2,q3⟩:=hE _ hcd
  have ea:a=g6 cd.1:=(congrArg Prod.fst ec).symm
  have eb:b=g6 cd.2:=(congrArg Prod.snd ec).symm
  subst ea eb
  refine⟨sy _ q1,sy _ q2,?_,?_,k1,k2⟩
  ·have:veZ (g6 cd.1) (g6 cd.2)=veZ cd.1 cd.2:=by unfold veZ g6;grind
   rw[this];exact q3
  ·rw[v7,v7,jj];exact Z9 R.sy (supE _ hcd)
inductive pZ
 | free (z:Zr)
 | most (v:Rat) (z:Zr) (sh:List (Int × Rat))
noncomputable def shD(s:Int × Rat):D:=.tup [.int s.1,d8 s.2]
noncomputable def pZ.toD:pZ→D
 | .free z=>.tup [.str "free",rD z]
 | .most v z sh=>.tup [.str "most",d8 v,rD z,.vl (sh.map shD)]
noncomputable def GC:List (Int × Rat)→List (Int × Rat)
 | [x,y]=>if y.1<x.1 then[y,x]else[x,y]
 | l=>l
noncomputable def shF(a b:Sd)(w:Int × Int)(c:Nat):List (Int × Rat):=GC ([(a.2.2.2.1,Qu (wVe w b*a.2.2.2.2) (c*veZ a b)),(b.2.2.2.1,Qu (veW a w*b.2.2.2.2) (c*veZ a b))].filter fun s=>decide (s.2≠0))
noncomputable def vlF(a b:Sd)(w:Int × Int)(c:Nat):Rat:=Qu (wVe w b*a.2.2.1+veW a w*b.2.2.1) (c*veZ a b)
noncomputable def AU(half:List Sd)(p q:Rat):pZ:=match pX half (wtF p q)with
 | none=>.free (0,0)
 | some (a,b)=>.most (vlF a b (wtF p q) (cb2 p q)) (ry (tri a) (tri b)) (shF a b (wtF p q) (cb2 p q))
noncomputable def sqZ(p q:Rat):Rat:=p*p+q*q
noncomputable def aL(l:T3)(n:Int)(p q:Rat):pZ :=
 if l.1*q - p*l.2.1<0 then .free (l.2.1,-l.1)else if 0<l.1*q - p*l.2.1 then .free (-l.2.1,l.1)else
 .most (j9 (if l.1=0 then q / l.2.1 else p / l.1)*l.2.2) (p*(j9 (if l.1=0 then q / l.2.1 else p / l.1)*l.2.2 / sqZ p q),q*(j9 (if l.1=0 then q / l.2.1 else p / l.1)*l.2.2 / sqZ p q)) [(n,if l.1=0 then q / l.2.1 else p / l.1)]
noncomputable def bH(ls:List T3)(p q:Rat):pZ:=if p=0∧q=0 then .most 0 (0,0) []else match v9 (e8 ls)with
 | []=>.free (p,q)
 | [h]=>aL (ls.getD h.2.2.2.1.toNat (0,0,0)) h.2.2.2.1 p q
 | half=>AU half p q
theorem dN{s:Sd}:∀{ls:List T3} {i:Nat},s∈O5 i ls→∃ j l,ls[j]? = some l∧(s=f7 l (i+j)∨s=g6 (f7 l (i+j)))
 | [],_,h=>by cases h
 | a :: r,i,h=>by
  have h:s∈f7 a i :: g6 (f7 a i) :: O5 (i+1) r:=h
  rcases Pn.mp h with rfl|h
  ·exact⟨0,a,rfl,.inl rfl⟩
  ·rcases Pn.mp h with rfl|h
   ·exact⟨0,a,rfl,.inr rfl⟩
   ·obtain⟨j,l,e,q⟩:=dN h
    exact⟨j+1,l,e,by rw[show i+(j+1)=i+1+j by omega];exact q⟩
theorem Dp{ls:List T3}{a b:Sd}(ha:a∈e8 ls)(hb:b∈e8 ls)(hv:veZ a b≠0):a.2.2.2.1≠b.2.2.2.1:=fun e=>by
 obtain⟨i,l,e1,h1⟩:=dN (i:=0) ha
 obtain⟨j,m,e2,h2⟩:=dN (i:=0) hb
 have n1:a.2.2.2.1=((0+i:Nat):Int):=by rcases h1 with h|h<;>rw[h]<;>rfl
 have n2:b.2.2.2.1=((0+j:Nat):Int):=by rcases h2 with h|h<;>rw[h]<;>rfl
 obtain rfl:i=j:=by omega
 rw[e1]at e2
 cases e2
 refine hv ?_
 rcases h1 with h|h<;>rcases h2 with h'|h'<;>(rw[h,h'];unfold veZ;first|(unfold g6;grind)|grind)
theorem tK(p q:Rat):((wtF p q).1:Rat)=p*(cb2 p q:Rat)∧((wtF p q).2:Rat)=q*(cb2 p q:Rat):=⟨X2 (Lr p q),X2 (Lq p q)⟩
theorem Fg{p q:Rat}(h:¬ (p=0∧q=0)):¬ ((wtF p q).1=0∧(wtF p q).2=0):=fun⟨z1,z2⟩=>by
 obtain⟨e1,e2⟩:=tK p q
 have c:(0:Rat)<(cb2 p q:Rat):=by exact_mod_cast mq p q
 rw[z1]at e1
 rw[z2]at e2
 have e1:(0:Rat)=p*(cb2 p q:Rat):=e1
 have e2:(0:Rat)=q*(cb2 p q:Rat):=e2
 generalize (cb2 p q:Rat)=k at *
 exact h ⟨by grind,by grind⟩
theorem DZ{ls:List T3}{p q:Rat}{a b:Sd}(A:Arn ls (wtF p q) a b) :
  vlF a b (wtF p q) (cb2 p q)=p*(ry (tri a) (tri b)).1+q*(ry (tri a) (tri b)).2∧∀ z,Sup ((e8 ls).map tri) z→p*z.1+q*z.2≤p*(ry (tri a) (tri b)).1+q*(ry (tri a) (tri b)).2:=by
 obtain⟨e1,e2⟩:=tK p q
 have c:(0:Rat)<(cb2 p q:Rat):=by exact_mod_cast mq p q
 have V:(0:Rat)<ve (tri a) (tri b):=by rw[y7];exact u5.mpr A.ve
 have ka:(0:Rat)≤ve (tri a) (wT (wtF p q)):=by rw[Cb];exact pS.mpr A.ka
 have kb:(0:Rat)<ve (wT (wtF p q)) (tri b):=by rw[Ca];exact u5.mpr A.kb
 have dw:∀ z:Zr,dt (wT (wtF p q)) z=(p*z.1+q*z.2)*(cb2 p q:Rat):=fun z=>by
  unfold dt wT
  show((wtF p q).1:Rat)*z.1+((wtF p q).2:Rat)*z.2=_
  rw[e1,e2];grind
 have bt:=J5 (w:=wT (wtF p q)) V (ry (tri a) (tri b))
 rw[dq (t6 V),cw (t6 V),dw]at bt
 constructor
 ·unfold vlF
  rw[K0,RN,PF,PF,PF,Qa,← y7,← Ca,← Cb]
  have r1:(tri a).2.2=(a.2.2.1:Rat):=rfl
  have r2:(tri b).2.2=(b.2.2.1:Rat):=rfl
  rw[← r1,← r2,← bt]
  have hz:∀ v k m:Rat,0<v→0<k→v*(m*k) / (k*v)=m:=fun v k m h1 h2=>by
   have:v*(m*k)=m*(k*v):=by grind
   rw[this,TX (t6 (Qt h2 h1))]
  exact hz _ _ _ V c
 ·intro z hz
  have b2:=J5 (w:=wT (wtF p q)) V z
  rw[dw]at b2
  have s1:=hz (tri a) (Pm.mpr ⟨a,A.ma,rfl⟩)
  have s2:=hz (tri b) (Pm.mpr ⟨b,A.mb,rfl⟩)
  have p1:0≤ve (wT (wtF p q)) (tri b)*((tri a).2.2 - dt (tri a) z):=Pq (G0 kb) (by grind)
  have p2:0≤ve (tri a) (wT (wtF p q))*((tri b).2.2 - dt (tri b) z):=Pq ka (by grind)
  have p3:0≤ve (tri a) (tri b)*(((p*(ry (tri a) (tri b)).1+q*(ry (tri a) (tri b)).2) - (p*z.1+q*z.2))*(cb2 p q:Rat)):=by grind
  have p4:=j6 V p3
  have p5:=j6 c (x:=(p*(ry (tri a) (tri b)).1+q*(ry (tri a) (tri b)).2) - (p*z.1+q*z.2)) (by grind)
  grind
theorem DF{ls:List T3}(hok:∀ l∈ls,LineOk l){h0:Sd}{l:List Sd}(e:v9 (e8 ls)=h0 :: l):∀ t∈e8 ls,Lx t h0:=by
 have hp:∀ s∈e8 ls,0<s.2.2.1:=aU hok (i:=0)
 cases es:e8 ls with
 | nil=>rw[es]at e;cases e
 | cons s r =>
  rw[es]at e hp
  have e2:v9 (s :: r)=A9 (s :: r) s :: G7 (A9 (s :: r) s) (s :: r) (s :: r).length (C9 (A9 (s :: r) s) (s :: r)):=rfl
  rw[e2]at e
  injection e with e3 e4
  intro t ht
  rw[← e3]
  exact eJ (s :: r) s t hp (hp s Po) (.inl ht)
theorem zL{s:Sd}(h:0<s.2.2.1):(tri s).1=kp s*(tri s).2.2∧(tri s).2.1=kq s*(tri s).2.2:=by
 have:(0:Rat)<(s.2.2.1:Rat):=u5.mpr h
 unfold kp kq tri
 exact⟨by show(s.1:Rat)=_;grind,by show(s.2.1:Rat)=_;grind⟩
theorem zM(s:Sd):kp (g6 s) = -kp s∧kq (g6 s) = -kq s:=by
 have e1:kp (g6 s)=((-s.1:Int):Rat) / (s.2.2.1:Rat):=rfl
 have e2:kq (g6 s)=((-s.2.1:Int):Rat) / (s.2.2.1:Rat):=rfl
 rw[e1,e2,RK,RK,Rj,Rj,Su,Su,← Rj,← Rj]
 exact⟨rfl,rfl⟩
theorem Iz{ss:List Sd}{h0:Sd}(m0:h0∈ss)(hp:∀ s∈ss,0<s.2.2.1)(sy:∀ s∈ss,g6 s∈ss)(lx:∀ t∈ss,Lx t h0)(al:∀ s∈ss,veZ h0 s=0)(nz:¬ ((tri h0).1=0∧(tri h0).2.1=0)){z:Zr}(hz:dt (tri h0) z=(tri h0).2.2∨dt (tri h0) z = -(tri h0).2.2):Sup (ss.map tri) z:=fun s hs=>by
 obtain⟨t,ht,rfl⟩:=Pm.mp hs
 have r0:(0:Rat)<(tri h0).2.2:=u5.mpr (hp h0 m0)
 have rt:(0:Rat)<(tri t).2.2:=u5.mpr (hp t ht)
 obtain⟨a1,a2⟩:=zL (hp h0 m0)
 obtain⟨b1,b2⟩:=zL (hp t ht)
 obtain⟨f1,f2⟩:=zM h0
 obtain⟨g1,g2⟩:=zM t
 have l0:=lx _ (sy h0 m0)
 have l1:=lx t ht
 have l2:=lx _ (sy t ht)
 have v:ve (tri h0) (tri t)=0:=by rw[y7,al t ht];rfl
 unfold Lx at l0 l1 l2
 rw[f1,f2]at l0
 rw[g1,g2]at l2
 unfold ve at v
 generalize kp h0=hp' at *
 generalize kq h0=hq' at *
 generalize kp t=tp at *
 generalize kq t=tq at *
 unfold dt at hz ⊢
 generalize (tri h0).2.2=R at *
 generalize (tri t).2.2=T at *
 rw[a1,a2,b1,b2]at v
 rw[a1,a2]at hz nz
 rw[b1,b2]
 clear a1 a2 b1 b2 f1 f2 g1 g2 lx al sy hp hs
 have v':hp'*tq - hq'*tp=0:=by
  have:(R*T)*(hp'*tq - hq'*tp)=0:=by grind
  have hRT:=t6 (Qt r0 rt)
  generalize R*T=c at *
  grind
 have hz':hp'*z.1+hq'*z.2=1∨hp'*z.1+hq'*z.2 = -1:=by
  rcases hz with h|h
  ·left;grind
  ·right;grind
 have goal:tp*z.1+tq*z.2≤1→tp*T*z.1+tq*T*z.2≤T:=fun h=>by
  have:0≤T*(1 - (tp*z.1+tq*z.2)):=Pq (G0 rt) (by grind)
  grind
 apply goal
 clear goal hz r0 rt
 by_cases c:0<hp'
 ·have e:hp'*(tp*z.1+tq*z.2)=tp*(hp'*z.1+hq'*z.2):=by grind
  have le1:tp≤hp':=by grind
  have le2:-tp≤hp':=by grind
  have:0≤hp'*(1 - (tp*z.1+tq*z.2)):=by
   rcases hz' with h|h<;>rw[h]at e<;>grind
  have:=j6 c this
  grind
 ·have e0:hp'=0:=by grind
  have q0:0<hq':=by
   have h1:0≤hq':=by grind
   have h2:hq'≠0:=fun w=>nz ⟨by rw[e0];grind,by rw[w];grind⟩
   grind
  have t0:tp=0:=by
   rw[e0]at v'
   have:hq'*tp=0:=by grind
   grind
  have le1:tq≤hq':=by grind
  have le2:-tq≤hq':=by grind
  rw[e0]at hz'
  rw[t0]
  have:0≤hq'*(1 - (0*z.1+tq*z.2)):=by
   rcases hz' with h|h
   ·have e:hq'*(tq*z.2)=tq*(0*z.1+hq'*z.2):=by grind
    rw[h]at e;grind
   ·have e:hq'*(tq*z.2)=tq*(0*z.1+hq'*z.2):=by grind
    rw[h]at e;grind
  have:=j6 q0 this
  grind
structure mE(ls:List T3)(p q:Rat)(m:pZ):Prop where
 free:∀ z,m = .free z→¬ (p=0∧q=0)∧q9 ls∧(∀ l∈ls,l.1*z.1+l.2.1*z.2=0)∧0<p*z.1+q*z.2∧∀ l∈ls,l.1*q - p*l.2.1≠0
 most:∀ v z sh,m = .most v z sh→o6 ls z.1 z.2=true∧v=p*z.1+q*z.2∧(∀ y u,o6 ls y u=true→p*y+q*u≤v)∧((p=0∧q=0)∨(q9 ls∧∃ l∈ls,l.1*q - p*l.2.1=0)∨Cn2 ((e8 ls).map tri) z)
theorem Kt{ls:List T3}(hok:∀ l∈ls,LineOk l):o6 ls 0 0=true:=by
 unfold o6
 rw[Qq]
 intro l hl
 rw[A2]
 have:=(hok l hl).pos
 constructor<;>grind
theorem jQ(s:Rat):(0≤s∧j9 s=s)∨(s<0∧j9 s = -s):=by
 unfold j9
 split
 ·exact .inl ⟨by assumption,rfl⟩
 ·exact .inr ⟨by grind,rfl⟩
theorem qr{p q:Rat}(h:¬ (p=0∧q=0)):0<sqZ p q:=by
 have s:∀ x:Rat,0≤x*x:=fun x=>by
  rcases tot 0 x with h|h
  ·exact Pq h h
  ·have:=Pq (show 0 ≤ -x by grind) (show 0 ≤ -x by grind)
   grind
 have s1:=s p
 have s2:=s q
 unfold sqZ
 by_cases c:p=0
 ·by_cases d:q=0
  ·exact absurd ⟨c,d⟩ h
  ·have:q*q≠0:=fun z=>d (by grind)
   grind
 ·have:p*p≠0:=fun z=>c (by grind)
  grind
theorem rJ{ls:List T3}(hok:∀ l∈ls,LineOk l){l:T3}(hl:l∈ls){n:Int}{h0:Sd}{j:Nat}(e:v9 (e8 ls)=[h0])(eh:h0=f7 l j∨h0=g6 (f7 l j))(m0:h0∈e8 ls)(al0:∀ s∈e8 ls,veZ h0 s=0)(al:q9 ls){p q:Rat}(hpq:¬ (p=0∧q=0)):mE ls p q (aL l n p q):=by
 have ok:=hok l hl
 have rl:=ok.pos
 have cp:=D8 l
 have other:∀ m∈ls,m.1*l.2.1=l.1*m.2.1:=fun m hm=>al m hm l hl
 have nob:l.1*q - p*l.2.1≠0→∀ m∈ls,m.1*q - p*m.2.1≠0:=fun hb m hm z=>by
  have a1:=other m hm
  have mn:=(hok m hm).ne
  have e1:m.1*(l.1*q - p*l.2.1)=0:=by
   have:m.1*(l.1*q - p*l.2.1)=l.1*(m.1*q - p*m.2.1)+p*(l.1*m.2.1 - m.1*l.2.1):=by grind
   rw[this,z,a1];grind
  have e2:m.2.1*(l.1*q - p*l.2.1)=0:=by
   have:m.2.1*(l.1*q - p*l.2.1)=l.2.1*(m.1*q - p*m.2.1)+q*(l.1*m.2.1 - m.1*l.2.1):=by grind
   rw[this,z,a1];grind
  generalize l.1*q - p*l.2.1=b at *
  exact mn ⟨by grind,by grind⟩
 unfold aL
 by_cases c1:l.1*q - p*l.2.1<0
 ·rw[if_pos c1]
  refine⟨fun z hz=>?_,fun v z sh hz=>by cases hz⟩
  cases hz
  exact⟨hpq,al,fun m hm=>by have:=other m hm;show m.1*l.2.1+m.2.1 * -l.1=0;grind,by show 0<p*l.2.1+q * -l.1;grind,nob (by grind)⟩
 rw[if_neg c1]
 by_cases c2:0<l.1*q - p*l.2.1
 ·rw[if_pos c2]
  refine⟨fun z hz=>?_,fun v z sh hz=>by cases hz⟩
  cases hz
  exact⟨hpq,al,fun m hm=>by have:=other m hm;show m.1 * -l.2.1+m.2.1*l.1=0;grind,by show 0<p * -l.2.1+q*l.1;grind,nob (by grind)⟩
 rw[if_neg c2]
 have c0:l.1*q - p*l.2.1=0:=by grind
 obtain⟨s,es,ep,eq⟩:∃ s:Rat,(if l.1=0 then q / l.2.1 else p / l.1)=s∧p=s*l.1∧q=s*l.2.1:=by
  by_cases z:l.1=0
  ·have n2:l.2.1≠0:=fun w=>ok.ne ⟨z,w⟩
   rw[if_pos z]
   refine⟨q / l.2.1,rfl,?_,?_⟩
   ·rw[z]at c0 ⊢
    have:p*l.2.1=0:=by grind
    grind
   ·grind
  ·rw[if_neg z]
   exact⟨p / l.1,rfl,by grind,by grind⟩
 rw[es]
 have sq:=qr hpq
 have s0:s≠0:=fun w=>hpq ⟨by rw[ep,w];grind,by rw[eq,w];grind⟩
 refine⟨fun z hz=>(by cases hz),fun v z sh hz=>?_⟩
 cases hz
 have k1:j9 s*l.2.2 / sqZ p q*sqZ p q=j9 s*l.2.2:=Qk (t6 sq)
 have val:p*(p*(j9 s*l.2.2 / sqZ p q))+q*(q*(j9 s*l.2.2 / sqZ p q))=j9 s*l.2.2:=by
  have:p*(p*(j9 s*l.2.2 / sqZ p q))+q*(q*(j9 s*l.2.2 / sqZ p q))=j9 s*l.2.2 / sqZ p q*sqZ p q:=by
   generalize j9 s*l.2.2 / sqZ p q=k
   unfold sqZ;grind
  rw[this,k1]
 have lz:s*(l.1*(p*(j9 s*l.2.2 / sqZ p q))+l.2.1*(q*(j9 s*l.2.2 / sqZ p q)))=j9 s*l.2.2:=by
  have g:∀ k:Rat,s*(l.1*(p*k)+l.2.1*(q*k))=(s*l.1)*(p*k)+(s*l.2.1)*(q*k):=fun k=>by grind
  rw[g,← ep,← eq,val]
 have ends:l.1*(p*(j9 s*l.2.2 / sqZ p q))+l.2.1*(q*(j9 s*l.2.2 / sqZ p q))=l.2.2∨l.1*(p*(j9 s*l.2.2 / sqZ p q))+l.2.1*(q*(j9 s*l.2.2 / sqZ p q)) = -l.2.2:=by
  generalize l.1*(p*(j9 s*l.2.2 / sqZ p q))+l.2.1*(q*(j9 s*l.2.2 / sqZ p q))=m at *
  rcases jQ s with⟨h,w⟩|⟨h,w⟩
  ·left;rw[w]at lz;grind
  ·right;rw[w]at lz;grind
 refine⟨?_,val.symm,fun y u hy=>?_,.inr (.inl ⟨al,l,hl,c0⟩)⟩
 ·rw[← D4]
  refine Iz m0 (aU hok (i:=0)) (fM (ls:=ls) (i:=0)) (DF hok e) al0 (aT hok _ (Pm.mpr ⟨h0,m0,rfl⟩)) ?_
  have d1:=Y5 l j (p*(j9 s*l.2.2 / sqZ p q),q*(j9 s*l.2.2 / sqZ p q))
  have rr:(tri (f7 l j)).2.2=l.2.2*(cbL l:Rat):=by rw[B7]
  have d1:dt (tri (f7 l j)) (p*(j9 s*l.2.2 / sqZ p q),q*(j9 s*l.2.2 / sqZ p q))=(l.1*(p*(j9 s*l.2.2 / sqZ p q))+l.2.1*(q*(j9 s*l.2.2 / sqZ p q)))*(cbL l:Rat):=d1
  rcases eh with rfl|rfl
  ·rw[d1,rr]
   rcases ends with h|h
   ·left;rw[h]
   ·right;rw[h,Su]
  ·have r2:(tri (g6 (f7 l j))).2.2=l.2.2*(cbL l:Rat):=rr
   rw[lV,d1,r2]
   rcases ends with h|h
   ·right;rw[h]
   ·left;rw[h,Su,SO]
 ·unfold o6 at hy
  rw[Qq]at hy
  have b:=(A2 l y u).mp (hy l hl)
  have e1:p*y+q*u=s*(l.1*y+l.2.1*u):=by rw[ep,eq];grind
  rw[e1]
  generalize l.1*y+l.2.1*u=m at *
  rcases jQ s with⟨h,w⟩|⟨h,w⟩
  ·rw[w]
   have:0≤s*(l.2.2 - m):=Pq h (by grind)
   grind
  ·rw[w]
   have:0 ≤ -s*(l.2.2+m):=Pq (by grind) (by grind)
   grind
theorem nN{ls:List T3}{h:Sd}(hm:h∈e8 ls):∃(l:T3) (j:Nat),ls[j]? = some l∧h.2.2.2.1=(j:Int)∧(h=f7 l j∨h=g6 (f7 l j)):=by
 obtain⟨j,l,e,q⟩:=dN (i:=0) hm
 rw[RF]at q
 exact⟨l,j,e,by rcases q with q|q<;>rw[q]<;>rfl,q⟩
theorem ju{ls:List T3}(hok:∀ l∈ls,LineOk l)(p q:Rat):mE ls p q (bH ls p q):=by
 unfold bH
 by_cases c:p=0∧q=0
 ·rw[if_pos c]
  refine⟨fun z hz=>(by cases hz),fun v z sh hz=>?_⟩
  cases hz
  exact⟨Kt hok,by rw[c.1,c.2];grind,fun y u _=>by rw[c.1,c.2];grind,.inl c⟩
 rw[if_neg c]
 by_cases hne:ls=[]
 ·subst hne
  refine⟨fun z hz=>?_,fun v z sh hz=>by cases hz⟩
  cases hz
  exact⟨c,(fun a ha=>by cases ha),(fun l hl=>by cases hl),qr c,fun l hl=>by cases hl⟩
 obtain⟨h0,l,e,m0,h⟩:=D7 hok hne
 rw[e]
 cases l with
 | nil =>
  rcases h with⟨_,al0⟩|⟨z,_⟩
  ·obtain⟨m,j,em,en,eq⟩:=nN m0
   have hm:=Px em
   have al:q9 ls:=by
    rcases gO hok with⟨_,a⟩|⟨cs,ec,_⟩
    ·exact a
    ·unfold C3 at ec;rw[e]at ec;cases ec
   show mE ls p q (aL (ls.getD h0.2.2.2.1.toNat (0,0,0)) h0.2.2.2.1 p q)
   rw[en,Rq,PC,em]
   exact rJ hok hm e eq m0 al0 al c
  ·exact absurd rfl z
 | cons x l =>
  obtain⟨a,b,ea,A⟩:=pV hok e (Fg c)
  show mE ls p q (match pX (h0 :: x :: l) (wtF p q)with|none=>.free (0,0)|some (a,b)=>.most (vlF a b (wtF p q) (cb2 p q)) (ry (tri a) (tri b)) (shF a b (wtF p q) (cb2 p q)))
  rw[ea]
  obtain⟨v1,v2⟩:=DZ A
  have V:(0:Rat)<ve (tri a) (tri b):=by rw[y7];exact u5.mpr A.ve
  refine⟨fun z hz=>(by cases hz),fun v z sh hz=>?_⟩
  cases hz
  refine⟨(D4 ls _).mp A.sup,v1,fun y u hy=>?_,.inr (.inr ⟨A.sup,tri a,tri b,Pm.mpr ⟨a,A.ma,rfl⟩,Pm.mpr ⟨b,A.mb,rfl⟩,t6 V,dq (t6 V),cw (t6 V)⟩)⟩
  rw[v1]
  exact v2 (y,u) ((D4 ls (y,u)).mpr hy)
structure L28(l:T3):Prop extends LnOk l where
 p6:sz l.1≤548
 q6:sz l.2.1≤548
 r6:sz l.2.2≤262
 b6:qf 800 (f7 l 0)
theorem uW{l:T3}{m:Nat}(h1:sz l.1≤m)(h2:sz l.2.1≤m)(h3:sz l.2.2≤m):qf (3*m) (f7 l 0):=by
 have e:cbL l≤l.1.den*l.2.1.den*l.2.2.den:=by
  have a:=J4 (u6 (u6 1 l.1.den) l.2.1.den) l.2.2.den
  have b:=J4 (u6 1 l.1.den) l.2.1.den
  have c:=J4 1 l.1.den
  rw[UC]at c
  exact Pu a (QO _ (Pu b (QO _ c)))
 have d1:=o8 _ h1
 have d2:=o8 _ h2
 have d3:=o8 _ h3
 have key:∀{q:Rat} {u v:Nat},sz q≤m→l.1.den*l.2.1.den*l.2.2.den=q.den*(u*v)→u<2 ^ m→v<2 ^ m→(O1 q (cbL l)).natAbs<2 ^ (3*m):=fun{q u v} hq eq hu hv=>by
  unfold O1
  have hd:cbL l / q.den≤u*v:=by
   rw[eq]at e
   exact Sh e
  rw[Qn,Pr,show 3*m=m+(m+m)by omega,QZ,QZ]
  refine QV (E6 q hq) (Pu hd (Ri (QW hu hv))) (Nat.mul_pos (SN (by decide)) (SN (by decide)))
 exact⟨key h1 (Nat.mul_assoc _ _ _) d2 d3,key h2 (by rw[RZ l.1.den,Nat.mul_assoc]) d1 d3,key h3 (RZ _ _) d1 d2⟩
theorem AR{n:Nat}{l:T3}(h:qf n (f7 l 0))(hn:n≤1200):SzS (f7 l 0):=⟨E4 h.1 hn,E4 h.2.1 hn,E4 h.2.2 hn⟩
theorem L28.mk3{l:T3}(ok:LineOk l)(h1:sz l.1≤262)(h2:sz l.2.1≤262)(h3:sz l.2.2≤262):L28 l:=by
 have b:=uW h1 h2 h3
 have b6:qf 800 (f7 l 0):=⟨E4 b.1 (by decide),E4 b.2.1 (by decide),E4 b.2.2 (by decide)⟩
 exact{ ne:=ok.ne,pos:=ok.pos,p:=by omega,q:=by omega,r:=by omega,s:=AR b6 (by decide),p6:=by omega,q6:=by omega,r6:=by omega,b6:=b6 }
theorem L28.bench{bs:List (Str × Rat)}(hl:bs.length≤12)(hok:∀ x∈bs,B6 x):∀ l∈C8 bs bs.length,L28 l:=fun l h=>by
 have hs:l∈B2 bs 0:=by
  have:B2 bs 0=C8 bs bs.length:=by
   show(C8 bs bs.length).map _=_
   conv=>rhs;rw[← List.map_id (C8 bs bs.length)]
   refine RB fun m _=>?_
   obtain⟨a,b,c⟩:=m
   show(a,a*0+b,c)=(a,b,c)
   rw[RE,Rat.zero_add]
  rw[this];exact h
 obtain⟨ok,ls,b⟩:=P7 (x:=0) hl hok (by rw[RM.X3];decide) l hs
 have h1:=ls.p
 have h2:=ls.q
 have h3:=ls.r
 exact{ ok with p6:=by omega,q6:=by omega,r6:=by omega,b6:=⟨E4 b.1 (by decide),E4 b.2.1 (by decide),E4 b.2.2 (by decide)⟩ }
def cK(ls:List T3):Prop:=ls.length≤12∧∀ l∈ls,L28 l
theorem cK.ok{ls:List T3}(h:cK ls):qb ls:=⟨h.1,fun l hl=>(h.2 l hl).toLnOk⟩
theorem cK.lo{ls:List T3}(h:cK ls):∀ l∈ls,LineOk l:=fun l hl=>(h.2 l hl).toLnOk.toLineOk
theorem cK.bits{ls:List T3}(h:cK ls):∀ s∈e8 ls,qf 800 s:=fun s hs=>by
 obtain⟨l,hl,j,e⟩:=F8 hs
 obtain⟨a,b,c⟩:=(h.2 l hl).b6
 rcases e with rfl|rfl
 ·exact⟨a,b,c⟩
 ·exact⟨by show(-(f7 l j).1).natAbs<_;rw[Qr];exact a,by show(-(f7 l j).2.1).natAbs<_;rw[Qr];exact b,c⟩
theorem cK.szs{ls:List T3}(h:cK ls):∀ s∈e8 ls,SzS s:=fun s hs=>by
 obtain⟨a,b,c⟩:=h.bits s hs
 exact⟨E4 a (by decide),E4 b (by decide),E4 c (by decide)⟩
theorem Mu{l:T3}(h:L28 l):cbL l<2 ^ 1400:=by
 have e:cbL l≤l.1.den*l.2.1.den*l.2.2.den:=by
  have a:=J4 (u6 (u6 1 l.1.den) l.2.1.den) l.2.2.den
  have b:=J4 (u6 1 l.1.den) l.2.1.den
  have c:=J4 1 l.1.den
  rw[UC]at c
  exact Pu a (QO _ (Pu b (QO _ c)))
 have d1:=o8 _ h.p6
 have d2:=o8 _ h.q6
 have d3:=o8 _ h.r6
 refine PV e ?_
 refine Pt (QW (QW d1 d2) d3) ?_
 rw[← QZ,← QZ]
 exact Qj (by decide) (by decide)
theorem cK.scale{ls:List T3}(h:cK ls):∀ s∈e8 ls,s.2.2.2.2.natAbs<2 ^ 1400:=fun s hs=>by
 obtain⟨l,hl,j,e⟩:=F8 hs
 have:=Mu (h.2 l hl)
 rcases e with rfl|rfl
 ·show((cbL l:Nat):Int).natAbs<_;rw[Pr];exact this
 ·show(-((cbL l:Nat):Int)).natAbs<_;rw[Qr,Pr];exact this
def Wz(x y:Int):Prop:=x.natAbs<2 ^ 2200∧y.natAbs<2 ^ 2200
theorem AI(p q:Rat):cb2 p q≤p.den*q.den:=by
 have b:=J4 (u6 1 p.den) q.den
 have c:=J4 1 p.den
 rw[UC]at c
 exact Pu b (QO _ c)
theorem AH{p q:Rat}(h1:sz p≤1100)(h2:sz q≤1100):cb2 p q<2 ^ 2200:=by
 refine PV (AI p q) ?_
 rw[show 2200=1100+1100 from rfl,QZ]
 exact QW (o8 _ h1) (o8 _ h2)
theorem LH{p q:Rat}(h1:sz p≤1100)(h2:sz q≤1100):Wz (wtF p q).1 (wtF p q).2:=by
 have e:=AI p q
 have d1:=o8 _ h1
 have d2:=o8 _ h2
 refine⟨?_,?_⟩
 ·show(O1 p (cb2 p q)).natAbs<_
  unfold O1
  rw[Qn,Pr,show 2200=1100+1100 from rfl,QZ]
  exact QV (E6 p h1) (Pu (Sh e) (Ri d2)) (SN (by decide))
 ·show(O1 q (cb2 p q)).natAbs<_
  unfold O1
  rw[Qn,Pr,show 2200=1100+1100 from rfl,QZ]
  exact QV (E6 q h2) (Pu (Sh (by rw[RZ];exact e)) (Ri d1)) (SN (by decide))
noncomputable def CY:Option (Sd × Sd)→D
 | none=>.non
 | some ab=>.tup [sdD ab.1,sdD ab.2]
local macro_rules|`(tactic| walk_at "inj")=>`(tactic| (rename_i e h;simp only[List.cons.injEq,GM.R3,GM.P8,GM.E8,GM.C7,and_true,true_and,GM.g8,GM.h9,GM.f9,GM.i3,GM.g5,D.tup.injEq,D.ref.injEq,D.int.injEq,D.str.injEq,D.bl.injEq,D.vl.injEq,PM,and_assoc]at e;(repeat(obtain⟨e1,e⟩:=e;subst e1));subst e;exact h))
local macro_rules|`(tactic| walk_at "injs")=>`(tactic| (rename_i e o h;rcases o with o|o<;>(subst o;first|(exfalso;simp only[D.tup.injEq,List.cons.injEq,reduceCtorEq,false_and,and_false]at e;done)|(simp only[List.cons.injEq,GM.R3,GM.P8,GM.E8,GM.C7,and_true,true_and,GM.g8,GM.h9,GM.f9,GM.i3,GM.g5,D.tup.injEq,D.ref.injEq,D.int.injEq,D.str.injEq,D.bl.injEq,D.vl.injEq,PM,and_assoc]at e;(repeat(obtain⟨e1,e⟩:=e;subst e1));subst e;exact h))))
abbrev dR(p q y u:Rat)(M:Mem)(R:DK)(Y:DXK):Prop:=(sz p+sz q+sz y+sz u≤8000)∧R (d8 (p*y+q*u)) M
def yq:DSp:=fun ds M R Y=>∃(p q y u:Rat),ds=[d8 p,d8 q,D5 y u]∧dR p q y u M R Y
theorem rW{p q y u:Rat}{M:Mem}{R:DK}{Y:DXK}:yq [d8 p,d8 q,D5 y u] M R Y=(dR p q y u M R Y):=propext ⟨fun z=>by obtain⟨_,_,_,_,_,_⟩:=z;walk_at "inj",fun h=>⟨p,q,y,u,rfl,h⟩⟩
abbrev aX(a:Sd)(x y:Int)(M:Mem)(R:DK)(Y:DXK):Prop:=(SzS a∧Wz x y)∧R (.int (veW a (x,y))) M
def kI:DSp:=fun ds M R Y=>∃(a:Sd) (x y:Int),ds=[sdD a,.vl [.int x,.int y]]∧aX a x y M R Y
theorem mP{a:Sd}{x y:Int}{M:Mem}{R:DK}{Y:DXK}:kI [sdD a,.vl [.int x,.int y]] M R Y=(aX a x y M R Y):=propext ⟨fun z=>by obtain⟨_,_,_,_,_⟩:=z;walk_at "inj",fun h=>⟨a,x,y,rfl,h⟩⟩
abbrev aW(x y:Int)(b:Sd)(M:Mem)(R:DK)(Y:DXK):Prop:=(SzS b∧Wz x y)∧R (.int (wVe (x,y) b)) M
def kH:DSp:=fun ds M R Y=>∃(x y:Int) (b:Sd),ds=[.vl [.int x,.int y],sdD b]∧aW x y b M R Y
theorem mO{x y:Int}{b:Sd}{M:Mem}{R:DK}{Y:DXK}:kH [.vl [.int x,.int y],sdD b] M R Y=(aW x y b M R Y):=propext ⟨fun z=>by obtain⟨_,_,_,_,_⟩:=z;walk_at "inj",fun h=>⟨x,y,b,rfl,h⟩⟩
abbrev kY(p q:Rat)(M:Mem)(R:DK)(Y:DXK):Prop:=(sz p≤1100∧sz q≤1100)∧R (.int ((cb2 p q:Nat):Int)) M
def GO:DSp:=fun ds M R Y=>∃(p q:Rat),ds=[D5 p q]∧kY p q M R Y
theorem wK{p q:Rat}{M:Mem}{R:DK}{Y:DXK}:GO [D5 p q] M R Y=(kY p q M R Y):=propext ⟨fun z=>by obtain⟨_,_,_,_⟩:=z;walk_at "inj",fun h=>⟨p,q,rfl,h⟩⟩
abbrev ba(p q:Rat)(c:Int)(M:Mem)(R:DK)(Y:DXK):Prop:=((sz p≤1100∧sz q≤1100)∧c=((cb2 p q:Nat):Int))∧R (.vl [.int (wtF p q).1,.int (wtF p q).2]) M
def qH:DSp:=fun ds M R Y=>∃(p q:Rat) (c:Int),ds=[D5 p q,.int c]∧ba p q c M R Y
theorem mS{p q:Rat}{c:Int}{M:Mem}{R:DK}{Y:DXK}:qH [D5 p q,.int c] M R Y=(ba p q c M R Y):=propext ⟨fun z=>by obtain⟨_,_,_,_,_⟩:=z;walk_at "inj",fun h=>⟨p,q,c,rfl,h⟩⟩
abbrev kZ(half:List Sd)(x y:Int)(M:Mem)(R:DK)(Y:DXK):Prop:=(half.length≤30∧(∀ s∈half,SzS s)∧Wz x y)∧R (CY (pX half (x,y))) M
def GP:DSp:=fun ds M R Y=>∃(half:List Sd) (x y:Int),ds=[.vl (half.map sdD),.vl [.int x,.int y]]∧kZ half x y M R Y
theorem wL{half:List Sd}{x y:Int}{M:Mem}{R:DK}{Y:DXK}:GP [.vl (half.map sdD),.vl [.int x,.int y]] M R Y=(kZ half x y M R Y):=propext ⟨fun z=>by obtain⟨_,_,_,_,_⟩:=z;walk_at "inj",fun h=>⟨half,x,y,rfl,h⟩⟩
abbrev ey(half:List Sd)(p q:Rat)(M:Mem)(R:DK)(Y:DXK):Prop:=((half.length≤30∧(∀ s∈half,SzS s))∧(sz p≤1100∧sz q≤1100)∧∃ a b,pX half (wtF p q)=some (a,b)∧(SzS a∧SzS b)∧0<veZ a b∧a.2.2.2.1≠b.2.2.2.1∧(a.2.2.2.2.natAbs<2 ^ 1400∧b.2.2.2.2.natAbs<2 ^ 1400))∧R (AU half p q).toD M
def yw:DSp:=fun ds M R Y=>∃(half:List Sd) (p q:Rat),ds=[.vl (half.map sdD),d8 p,d8 q]∧ey half p q M R Y
theorem so{half:List Sd}{p q:Rat}{M:Mem}{R:DK}{Y:DXK}:yw [.vl (half.map sdD),d8 p,d8 q] M R Y=(ey half p q M R Y):=propext ⟨fun z=>by obtain⟨_,_,_,_,_⟩:=z;walk_at "inj",fun h=>⟨half,p,q,rfl,h⟩⟩
abbrev eo(ls:List T3)(n:Int)(p q:Rat)(M:Mem)(R:DK)(Y:DXK):Prop:=(∃(l:T3) (j:Nat),n=(j:Int)∧ls[j]? = some l∧L28 l∧¬ (p=0∧q=0)∧(sz p≤1100∧sz q≤1100)∧R (aL l n p q).toD M)
def tT:DSp:=fun ds M R Y=>∃(ls:List T3) (n:Int) (p q:Rat),ds=[.vl (ls.map h7),.int n,d8 p,d8 q]∧eo ls n p q M R Y
theorem sm{ls:List T3}{n:Int}{p q:Rat}{M:Mem}{R:DK}{Y:DXK}:tT [.vl (ls.map h7),.int n,d8 p,d8 q] M R Y=(eo ls n p q M R Y):=propext ⟨fun z=>by obtain⟨_,_,_,_,_,_⟩:=z;walk_at "inj",fun h=>⟨ls,n,p,q,rfl,h⟩⟩
abbrev eA(ls:List T3)(p q:Rat)(M:Mem)(R:DK)(Y:DXK):Prop:=(cK ls∧sz p≤1100∧sz q≤1100)∧R (bH ls p q).toD M
def yx:DSp:=fun ds M R Y=>∃(ls:List T3) (p q:Rat),ds=[.vl (ls.map h7),d8 p,d8 q]∧eA ls p q M R Y
theorem sr{ls:List T3}{p q:Rat}{M:Mem}{R:DK}{Y:DXK}:yx [.vl (ls.map h7),d8 p,d8 q] M R Y=(eA ls p q M R Y):=propext ⟨fun z=>by obtain⟨_,_,_,_,_⟩:=z;walk_at "inj",fun h=>⟨ls,p,q,rfl,h⟩⟩
abbrev br(y u k:Rat)(M:Mem)(R:DK)(Y:DXK):Prop:=(sz y+sz k≤8900∧sz u+sz k≤8900)∧R (D5 (y*k) (u*k)) M
def qL:DSp:=fun ds M R Y=>∃(y u k:Rat),ds=[D5 y u,d8 k]∧br y u k M R Y
theorem mY{y u k:Rat}{M:Mem}{R:DK}{Y:DXK}:qL [D5 y u,d8 k] M R Y=(br y u k M R Y):=propext ⟨fun z=>by obtain⟨_,_,_,_,_⟩:=z;walk_at "inj",fun h=>⟨y,u,k,rfl,h⟩⟩
abbrev X7(p q y u:Rat)(M:Mem)(R:DK)(Y:DXK):Prop:=(sz p+sz q+sz y+sz u≤20000)∧R (.tup [.int (Gv p q y u),.int (AO p q y u)]) M
def kJ:DSp:=fun ds M R Y=>∃(p q y u:Rat),ds=[d8 p,d8 q,D5 y u]∧X7 p q y u M R Y
theorem iD{p q y u:Rat}{M:Mem}{R:DK}{Y:DXK}:kJ [d8 p,d8 q,D5 y u] M R Y=(X7 p q y u M R Y):=propext ⟨fun z=>by obtain⟨_,_,_,_,_,_⟩:=z;walk_at "inj",fun h=>⟨p,q,y,u,rfl,h⟩⟩
theorem Ir(p q y u:Rat):AO p q y u≠0:=by
 unfold AO
 exact Qv (Qv (Qv (RM.A6 p) (RM.A6 y)) (RM.A6 q)) (RM.A6 u)
theorem Cc(p q y u:Rat):Qu (Gv p q y u) (AO p q y u)=p*y+q*u:=by
 have e:∀ r:Rat,r=(r.num:Rat) / (r.den:Rat):=fun r=>by
  have:=D6 r
  have h0:(r.den:Rat)≠0:=fun z=>QR r.den_pos (by exact_mod_cast z)
  grind
 have h1:(p.den:Rat)≠0:=fun z=>QR p.den_pos (by exact_mod_cast z)
 have h2:(q.den:Rat)≠0:=fun z=>QR q.den_pos (by exact_mod_cast z)
 have h3:(y.den:Rat)≠0:=fun z=>QR y.den_pos (by exact_mod_cast z)
 have h4:(u.den:Rat)≠0:=fun z=>QR u.den_pos (by exact_mod_cast z)
 have e1:=D6 p
 have e2:=D6 q
 have e3:=D6 y
 have e4:=D6 u
 rw[K0]
 unfold Gv AO
 simp only[RN,PF,Qa]
 rw[← e1,← e2,← e3,← e4]
 generalize (p.den:Rat)=a at *
 generalize (q.den:Rat)=b at *
 generalize (y.den:Rat)=c at *
 generalize (u.den:Rat)=d at *
 have hd:a*c*b*d≠0:=fun z=>by grind
 have:p*a*(y*c)*b*d+q*b*(u*d)*a*c=(p*y+q*u)*(a*c*b*d):=by grind
 rw[this,TX hd]
theorem Bf{h0:Sd}{l:List Sd}{i:Nat}(h:i<l.length):((h0 :: l)[i]'(by rw[Pp];omega),l[i])∈(h0 :: l).zip (l++[g6 h0]):=by
 have hz:i<((h0 :: l).zip (l++[g6 h0])).length:=by rw[Qx,Pp,PB];show i<min _ (l.length+1);omega
 have e:((h0 :: l).zip (l++[g6 h0]))[i]=((h0 :: l)[i]'(by rw[Pp];omega),l[i]):=by
  rw[Rn,Rh h]
 rw[← e]
 exact Rm _
theorem DG{ls:List T3}(hok:∀ l∈ls,LineOk l):∀ s∈v9 (e8 ls),s∈e8 ls:=by
 by_cases hne:ls=[]
 ·subst hne;intro s hs;cases hs
 obtain⟨h0,l,e,m0,h⟩:=D7 hok hne
 rw[e]
 intro s hs
 rcases Pn.mp hs with rfl|hs
 ·exact m0
 ·rcases h with⟨rfl,_⟩|⟨_,_,hE⟩
  ·cases hs
  ·obtain⟨i,hi,rfl⟩:=Rr.mp hs
   have:=hE _ (Bf hi)
   exact this.2.1
theorem zr{q:Rat}:0<q.num↔0<q:=by
 have h1:=de (-q)
 rw[SM]at h1
 constructor
 ·intro h;have:=h1.mp (by omega);grind
 ·intro h;have:=h1.mpr (by grind);omega
theorem Cv(half:List Sd):half.map sdD++(half.map g6).map sdD=(du half).map sdD:=by unfold du;rw[PQ]
end GM
namespace GM
open PySem PySem.Spec L2 DL
open RM (sz)
noncomputable def S7(v w z:Zr):Rat:=(w.1 - v.1)*(z.2 - v.2) - (w.2 - v.2)*(z.1 - v.1)
theorem HS{b:T3}{v w z:Zr}(h1:dt b v=b.2.2)(h2:dt b w=b.2.2):b.2.2*S7 v w z=cr v w*(b.2.2 - dt b z):=by
 unfold S7 cr
 unfold dt at *
 have e:b.1*(w.1 - v.1)+b.2.1*(w.2 - v.2)=0:=by grind
 rw[← h1]
 grind
theorem uB{b:T3}(rb:0<b.2.2){v w z:Zr}(h1:dt b v=b.2.2)(h2:dt b w=b.2.2)(hc:0<cr v w):0≤S7 v w z↔dt b z≤b.2.2:=by
 have e:=HS (z:=z) h1 h2
 constructor
 ·intro h
  have:0≤cr v w*(b.2.2 - dt b z):=by rw[← e];exact Pq (G0 rb) h
  have:=j6 hc this
  grind
 ·intro h
  have:0≤b.2.2*S7 v w z:=by rw[e];exact Pq (G0 hc) (by grind)
  exact j6 rb this
theorem N4.all{ss:List T3}{A:Nat→T3}{k:Nat}(R:N4 ss A k)(around:∀ w:T3,¬ (w.1=0∧w.2.1=0)→∃ i,i<k∧((0≤GM.ve (A i) w∧0<GM.ve w (A (i+1)))∨(0≤GM.ve (ng (A i)) w∧0<GM.ve w (ng (A (i+1))))))(nz:∀ s∈ss,¬ (s.1=0∧s.2.1=0)){z:Zr}(h:∀ i,1≤i→i≤k→dt (A i) z≤(A i).2.2∧dt (ng (A i)) z≤(A i).2.2):Sup ss z:=fun s hs=>by
 have h':∀ i,i≤k→dt (A i) z≤(A i).2.2∧dt (ng (A i)) z≤(A i).2.2:=fun i hi=>by
  by_cases c:i=0
  ·have:=h k (by have:=R.two;omega) (Py _)
   rw[R.lst,zu]at this
   have e:(ng (A 0)).2.2=(A 0).2.2:=rfl
   rw[e]at this
   rw[c];exact⟨this.2,this.1⟩
  ·exact h i (by omega) hi
 obtain⟨i,hi,c⟩:=around s (nz s hs)
 have key:∀{a b:T3},0<GM.ve a b→Sup ss (ry a b)→0≤GM.ve a s→0<GM.ve s b→dt a z≤a.2.2→dt b z≤b.2.2→dt s z≤s.2.2:=fun{a b} hv su k1 k2 d1 d2=>by
  have e1:=J5 (w:=s) hv z
  have e2:=J5 (w:=s) hv (ry a b)
  rw[dq (t6 hv),cw (t6 hv)]at e2
  have q1:0≤GM.ve s b*(a.2.2 - dt a z):=Pq (G0 k2) (by grind)
  have q2:0≤GM.ve a s*(b.2.2 - dt b z):=Pq k1 (by grind)
  have q3:0≤GM.ve a b*(dt s (ry a b) - dt s z):=by grind
  have:=j6 hv q3
  have:=su s hs
  grind
 have v:=R.ve i (by omega)
 have su:=R.sup i (by omega)
 obtain⟨a1,a2⟩:=h' i (by omega)
 obtain⟨b1,b2⟩:=h' (i+1) (by omega)
 rcases c with⟨k1,k2⟩|⟨k1,k2⟩
 ·exact key v su k1 k2 a1 b1
 ·refine key (a:=ng (A i)) (b:=ng (A (i+1))) ?_ ?_ k1 k2 a2 b2
  ·have:GM.ve (ng (A i)) (ng (A (i+1)))=GM.ve (A i) (A (i+1)):=by unfold GM.ve ng;grind
   rw[this];exact v
  ·rw[jj];exact Z9 R.sy su
theorem Cu{ss:List T3}{A:Nat→T3}{k:Nat}(R:N4 ss A k)(around:∀ w:T3,¬ (w.1=0∧w.2.1=0)→∃ i,i<k∧((0≤GM.ve (A i) w∧0<GM.ve w (A (i+1)))∨(0≤GM.ve (ng (A i)) w∧0<GM.ve w (ng (A (i+1))))))(nz:∀ s∈ss,¬ (s.1=0∧s.2.1=0))(z:Zr):(∀ i,0≤S7 (nth (J1 A k) i) (nth (J1 A k) (i+1)) z)↔Sup ss z:=by
 have h2:=R.two
 have st:∀ i,nth (J1 A k) (i+1)=if i % (2*k)<k then rA A (i % (2*k)+1)else ngZ (rA A (i % (2*k)+1 - k)):=fun i=>by
  rw[F9 (by omega),oX (by omega),R.v1 (Rg _ (by omega))]
 have on1:∀ j,j<k→dt (A (j+1)) (rA A j)=(A (j+1)).2.2∧dt (A (j+1)) (rA A (j+1))=(A (j+1)).2.2:=fun j hj=>⟨cw (t6 (R.ve j (by omega))),dq (t6 (R.ve (j+1) (by omega)))⟩
 have rp:∀ j,j≤k→0<(A j).2.2:=fun j hj=>R.pos _ (R.mem j (by omega))
 have dn:∀(b:T3) (y:Zr),dt (ng b) (ngZ y)=dt b y:=fun b y=>by unfold dt ng ngZ;grind
 have eq1:∀ j,j<k→(0≤S7 (rA A j) (rA A (j+1)) z↔dt (A (j+1)) z≤(A (j+1)).2.2):=fun j hj=>uB (rp (j+1) (by omega)) (on1 j hj).1 (on1 j hj).2 (R.cr hj)
 have eq2:∀ j,j<k→(0≤S7 (ngZ (rA A j)) (ngZ (rA A (j+1))) z↔dt (ng (A (j+1))) z≤(A (j+1)).2.2):=fun j hj=>by
  have:=uB (b:=ng (A (j+1))) (z:=z) (rp (j+1) (by omega)) (v:=ngZ (rA A j)) (w:=ngZ (rA A (j+1))) (by rw[dn];exact(on1 j hj).1) (by rw[dn];exact(on1 j hj).2) (by rw[FP];exact R.cr hj)
  exact this
 constructor
 ·intro h
  refine R.all around nz fun i h1 hi=>?_
  obtain⟨j,rfl⟩:∃ j,i=j+1:=⟨i - 1,by omega⟩
  have a:=h j
  have b:=h (j+k)
  rw[F9 (by omega),st,QB (show j<2*k by omega),if_pos (show j<k by omega)]at a
  rw[F9 (by omega),st,QB (show j+k<2*k by omega),if_neg (show ¬ j+k<k by omega),show j+k+1 - k=j+1 by omega]at b
  unfold vA at a b
  rw[if_pos (show j<k by omega)]at a
  rw[if_neg (show ¬ j+k<k by omega),show j+k - k=j by omega]at b
  exact⟨(eq1 j (by omega)).mp a,(eq2 j (by omega)).mp b⟩
 ·intro h i
  rw[F9 (by omega),st]
  have hi:i % (2*k)<2*k:=Rg _ (by omega)
  generalize i % (2*k)=j at *
  unfold vA
  by_cases c:j<k
  ·rw[if_pos c,if_pos c]
   exact(eq1 j c).mpr (h _ (R.mem _ (by omega)))
  ·rw[if_neg c,if_neg c,show j+1 - k=j - k+1 by omega]
   exact(eq2 (j - k) (by omega)).mpr (h _ (R.sy _ (R.mem _ (by omega))))
theorem Ij{ls:List T3}(hok:∀ l∈ls,LineOk l){cs:List Zr}(e:C3 ls=some cs)(y u:Rat):(∀ i,0≤S7 (nth cs i) (nth cs (i+1)) (y,u))↔o6 ls y u=true:=by
 rw[← D4 ls (y,u)]
 unfold C3 at e
 cases eh:v9 (e8 ls)with
 | nil=>rw[eh]at e;cases e
 | cons h0 t =>
  cases t with
  | nil=>rw[eh]at e;cases e
  | cons x l =>
   rw[eh]at e
   obtain⟨RC,er⟩:=Fj hok eh
   have e:some (cy (C6 h0 (x :: l)++(C6 h0 (x :: l)).map ngZ))=some cs:=e
   rw[er]at e
   cases e
   have hl:(J1 (fA h0 (x :: l)) ((x :: l).length+1)).length=2*((x :: l).length+1):=bB
   have nn:J1 (fA h0 (x :: l)) ((x :: l).length+1)≠[]:=fun z=>by rw[z]at hl;simp at hl
   have hp:=gi nn _ (Py _)
   have hne:ls≠[]:=fun z=>by rw[z]at eh;cases eh
   have R:Rim ((e8 ls).map tri) (tri h0) ((x :: l).map tri):=by
    obtain⟨g0,m,e',m0,h⟩:=D7 hok hne
    rw[eh]at e'
    cases e'
    rcases h with⟨z,_⟩|⟨_,R,_⟩
    ·cases z
    ·exact R
   have around:∀ w:T3,¬ (w.1=0∧w.2.1=0)→∃ i,i<(x :: l).length+1∧((0≤ve (fA h0 (x :: l) i) w∧0<ve w (fA h0 (x :: l) (i+1)))∨(0≤ve (ng (fA h0 (x :: l) i)) w∧0<ve w (ng (fA h0 (x :: l) (i+1))))):=fun w hw=>by
    obtain⟨ab,hm,hc⟩:=R.arnd w hw
    unfold dF at hm
    have e2:∀ L:List Sd,(tri h0 :: L.map tri).zip (L.map tri++[ng (tri h0)])=((h0 :: L).zip (L++[g6 h0])).map fun ab=>(tri ab.1,tri ab.2):=fun L=>by
     rw[← F6,Qc,PQ,Qc,QS,v7]
    rw[e2 (x :: l)]at hm
    obtain⟨cd,hcd,rfl⟩:=Pm.mp hm
    obtain⟨i,hi,ei⟩:=Rr.mp hcd
    have hi2:i<(x :: l).length+1:=by
     rw[Qx,Pp,PB]at hi
     exact Pt hi (Uv _ _)
    refine⟨i,hi2,?_⟩
    have g1:=L1 (h0:=h0) (l:=x :: l) hi2
    rw[Rn]at ei
    have f1:fA h0 (x :: l) i=tri cd.1:=by unfold fA;rw[g1,← ei]
    have f2:fA h0 (x :: l) (i+1)=tri cd.2:=by
     unfold fA
     rw[← ei]
     congr 1
     by_cases c:i<(x :: l).length
     ·rw[L1 (show i+1<(x :: l).length+1 by omega),QU,Rh c]
     ·obtain rfl:i=(x :: l).length:=by omega
      rw[aG,Rw (Py _)]
      simp
    rw[f1,f2];exact hc
   rw[← Cu RC around (aT hok)]
   unfold cy
   constructor
   ·intro h i
    have:=h (i+(J1 (fA h0 (x :: l)) ((x :: l).length+1)).length - J7 (J1 (fA h0 (x :: l)) ((x :: l).length+1)) (J1 (fA h0 (x :: l)) ((x :: l).length+1)).length)
    rw[B3 _ hp,B3 _ hp]at this
    generalize J1 (fA h0 (x :: l)) ((x :: l).length+1)=L at *
    have per:∀ j,nth L (j+L.length)=nth L j:=fun j=>by unfold nth;rw[Ue]
    rw[show i+L.length - J7 L L.length+J7 L L.length=i+L.length by omega,show i+L.length - J7 L L.length+1+J7 L L.length=i+1+L.length by omega,per,per]at this
    exact this
   ·intro h i
    rw[B3 _ hp,B3 _ hp,show i+1+J7 (J1 (fA h0 (x :: l)) ((x :: l).length+1)) (J1 (fA h0 (x :: l)) ((x :: l).length+1)).length=i+J7 (J1 (fA h0 (x :: l)) ((x :: l).length+1)) (J1 (fA h0 (x :: l)) ((x :: l).length+1)).length+1 by omega]
    exact h _
theorem Am{a b:Int}(ha:0<a)(hb:0<b):0<Qu a b:=by
 rw[K0]
 have h1:(0:Rat)<(a:Rat):=u5.mpr ha
 have h2:(0:Rat)<(b:Rat):=u5.mpr hb
 exact N6 h2 (by rw[RD,Qk (t6 h2)];exact h1)
local macro_rules|`(tactic| walk_at "inj")=>`(tactic| (rename_i e h;simp only[List.cons.injEq,GM.R3,GM.P8,GM.E8,GM.C7,and_true,true_and,GM.g8,GM.h9,GM.f9,GM.i3,GM.g5,D.tup.injEq,D.ref.injEq,D.int.injEq,D.str.injEq,D.bl.injEq,D.vl.injEq,PM,and_assoc]at e;(repeat(obtain⟨e1,e⟩:=e;subst e1));subst e;exact h))
local macro_rules|`(tactic| walk_at "injs")=>`(tactic| (rename_i e o h;rcases o with o|o<;>(subst o;first|(exfalso;simp only[D.tup.injEq,List.cons.injEq,reduceCtorEq,false_and,and_false]at e;done)|(simp only[List.cons.injEq,GM.R3,GM.P8,GM.E8,GM.C7,and_true,true_and,GM.g8,GM.h9,GM.f9,GM.i3,GM.g5,D.tup.injEq,D.ref.injEq,D.int.injEq,D.str.injEq,D.bl.injEq,D.vl.injEq,PM,and_assoc]at e;(repeat(obtain⟨e1,e⟩:=e;subst e1));subst e;exact h))))
abbrev Y3(xs:List D)(M:Mem)(R:DK)(Y:DXK):Prop:=∃ ns:List Int,xs=ns.map D.int∧ns.length≤63∧∀ ms:List Int,ms.length≤3→R (.vl (ms.map D.int)) M
def kU:DSp:=fun ds M R Y=>∃(xs:List D),ds=[.vl xs,.int 3]∧Y3 xs M R Y
theorem iM{xs:List D}{M:Mem}{R:DK}{Y:DXK}:kU [.vl xs,.int 3] M R Y=(Y3 xs M R Y):=propext ⟨fun z=>by obtain⟨_,_,_⟩:=z;walk_at "inj",fun h=>⟨xs,rfl,h⟩⟩
end GM
namespace GM
open PySem PySem.Spec L2 DL
open RM (sz)
structure Ext(P:Zr→Prop)(z:Zr):Prop where
 on:P z
 no:∀ d:Zr,P (mz z d 1)→P (mz z d (-1))→d.1=0∧d.2=0
theorem AF{ss:List T3}(nz:∀ s∈ss,¬ (s.1=0∧s.2.1=0)){z:Zr}:Cn2 ss z↔Ext (Sup ss) z:=by
 constructor
 ·intro hz
  refine⟨hz.sup,fun d s1 s2=>?_⟩
  obtain⟨s,t,ms,mt,hv,es,et⟩:=hz.two
  have key:∀ s∈ss,dt s z=s.2.2→dt s d=0:=fun s ms es=>by
   have a1:=s1 s ms
   have a2:=s2 s ms
   rw[rf]at a1 a2
   grind
  have k1:=key s ms es
  have k2:=key t mt et
  unfold dt at k1 k2
  unfold ve at hv
  refine⟨?_,?_⟩
  ·have:(s.1*t.2.1 - s.2.1*t.1)*d.1=0:=by
    have:(s.1*t.2.1 - s.2.1*t.1)*d.1=t.2.1*(s.1*d.1+s.2.1*d.2) - s.2.1*(t.1*d.1+t.2.1*d.2):=by grind
    rw[this,k1,k2];grind
   generalize s.1*t.2.1 - s.2.1*t.1=u at *
   grind
  ·have:(s.1*t.2.1 - s.2.1*t.1)*d.2=0:=by
    have:(s.1*t.2.1 - s.2.1*t.1)*d.2=s.1*(t.1*d.1+t.2.1*d.2) - t.1*(s.1*d.1+s.2.1*d.2):=by grind
    rw[this,k1,k2];grind
   generalize s.1*t.2.1 - s.2.1*t.1=u at *
   grind
 ·intro⟨on,no⟩
  refine⟨on,?_⟩
  by_cases c:∃ s t,s∈ss∧t∈ss∧ve s t≠0∧dt s z=s.2.2∧dt t z=t.2.2
  ·exact c
  obtain⟨d,hd,s1,s2⟩:=Ko nz on c
  exact absurd (no d s1 s2) hd
noncomputable def lmZ(a b c d:Rat)(z:Zr):Zr:=(a*z.1+b*z.2,c*z.1+d*z.2)
theorem zI(a b c d:Rat)(z x:Zr)(e:Rat):lmZ a b c d (mz z x e)=mz (lmZ a b c d z) (lmZ a b c d x) e:=by
 unfold lmZ mz
 refine Prod.ext ?_ ?_
 ·show a*(z.1+e*x.1)+b*(z.2+e*x.2)=a*z.1+b*z.2+e*(a*x.1+b*x.2);grind
 ·show c*(z.1+e*x.1)+d*(z.2+e*x.2)=c*z.1+d*z.2+e*(c*x.1+d*x.2);grind
theorem uu{a b c d:Rat}(h:a*d - b*c≠0){x:Zr}(h1:(lmZ a b c d x).1=0)(h2:(lmZ a b c d x).2=0):x.1=0∧x.2=0:=by
 have h1:a*x.1+b*x.2=0:=h1
 have h2:c*x.1+d*x.2=0:=h2
 have e1:(a*d - b*c)*x.1=d*(a*x.1+b*x.2) - b*(c*x.1+d*x.2):=by grind
 have e2:(a*d - b*c)*x.2=a*(c*x.1+d*x.2) - c*(a*x.1+b*x.2):=by grind
 rw[h1,h2]at e1 e2
 generalize a*d - b*c=D at *
 exact⟨by grind,by grind⟩
noncomputable def lmB(a b c d:Rat)(z:Zr):Zr:=lmZ (d / (a*d - b*c)) (-b / (a*d - b*c)) (-c / (a*d - b*c)) (a / (a*d - b*c)) z
theorem bJ{a b c d:Rat}(h:a*d - b*c≠0)(z:Zr):lmZ a b c d (lmB a b c d z)=z:=by
 have e:∀ x:Rat,x / (a*d - b*c)*(a*d - b*c)=x:=fun x=>Qk h
 have e1:=e d
 have e2:=e (-b)
 have e3:=e (-c)
 have e4:=e a
 unfold lmB lmZ
 generalize hD:a*d - b*c=D at *
 refine Prod.ext ?_ ?_
 ·show a*(d / D*z.1 + -b / D*z.2)+b*(-c / D*z.1+a / D*z.2)=z.1
  have:D*(a*(d / D*z.1 + -b / D*z.2)+b*(-c / D*z.1+a / D*z.2))=D*z.1:=by
   generalize d / D=x1 at *;generalize -b / D=x2 at *;generalize -c / D=x3 at *;generalize a / D=x4 at *
   grind
  exact J8 h this
 ·show c*(d / D*z.1 + -b / D*z.2)+d*(-c / D*z.1+a / D*z.2)=z.2
  have:D*(c*(d / D*z.1 + -b / D*z.2)+d*(-c / D*z.1+a / D*z.2))=D*z.2:=by
   generalize d / D=x1 at *;generalize -b / D=x2 at *;generalize -c / D=x3 at *;generalize a / D=x4 at *
   grind
  exact J8 h this
theorem qX{a b c d:Rat}(h:a*d - b*c≠0){x y:Zr}(e:lmZ a b c d x=lmZ a b c d y):x=y:=by
 have e1:a*x.1+b*x.2=a*y.1+b*y.2:=congrArg Prod.fst e
 have e2:c*x.1+d*x.2=c*y.1+d*y.2:=congrArg Prod.snd e
 have:=uu h (x:=(x.1 - y.1,x.2 - y.2)) (by show a*(x.1 - y.1)+b*(x.2 - y.2)=0;grind) (by show c*(x.1 - y.1)+d*(x.2 - y.2)=0;grind)
 have t1:x.1 - y.1=0:=this.1
 have t2:x.2 - y.2=0:=this.2
 exact Prod.ext (by grind) (by grind)
theorem HW{P Q:Zr→Prop}{a b c d:Rat}(h:a*d - b*c≠0)(pq:∀ z,Q z↔P (lmZ a b c d z)){z:Zr}:Ext Q z↔Ext P (lmZ a b c d z):=by
 constructor
 ·intro⟨on,no⟩
  refine⟨(pq z).mp on,fun e e1 e2=>?_⟩
  have b0:=bJ h e
  rw[← b0,← zI,← pq]at e1 e2
  obtain⟨h1,h2⟩:=no _ e1 e2
  rw[← b0]
  unfold lmZ
  rw[h1,h2]
  exact⟨by show a*0+b*0=0;grind,by show c*0+d*0=0;grind⟩
 ·intro⟨on,no⟩
  refine⟨(pq z).mpr on,fun e e1 e2=>?_⟩
  rw[pq,zI]at e1 e2
  obtain⟨h1,h2⟩:=no _ e1 e2
  exact uu h h1 h2
theorem uT(a b c d:Rat)(x y:Zr):cr (lmZ a b c d x) (lmZ a b c d y)=(a*d - b*c)*cr x y:=by unfold cr lmZ;grind
noncomputable def C2(f:Nat→Rat):Nat→Rat
 | 0=>0
 | n+1=>C2 f n+f n
noncomputable def a2(L:List Zr):Rat:=C2 (fun i=>cr (nth L i) (nth L (i+1))) L.length
theorem R1{f g:Nat→Rat}:∀{n:Nat},(∀ i,i<n→f i=g i)→C2 f n=C2 g n:=fun{n}=>by
 induction n with
 | zero=>intro _;rfl
 | succ n ih=>intro h;show C2 f n+f n=C2 g n+g n;rw[ih fun i hi=>h i (by omega),h n (by omega)]
theorem fH(f:Nat→Rat)(m:Nat):∀ n:Nat,C2 f (m+n)=C2 f m+C2 (fun i=>f (m+i)) n:=fun n=>by
 induction n with
 | zero=>show C2 f m=C2 f m+0;grind
 | succ n ih=>show C2 f (m+n)+f (m+n)=C2 f m+(C2 (fun i=>f (m+i)) n+f (m+n));rw[ih];grind
theorem xZ(k:Rat)(f:Nat→Rat):∀ n:Nat,C2 (fun i=>k*f i) n=k*C2 f n:=fun n=>by
 induction n with
 | zero=>show(0:Rat)=k*0;grind
 | succ n ih=>show C2 (fun i=>k*f i) n+k*f n=k*(C2 f n+f n);rw[ih];grind
theorem lJ(L:List Zr)(i:Nat):nth L (i+L.length)=nth L i:=by unfold nth;rw[Ue]
theorem xY(f:Nat→Rat){n:Nat}(per:∀ i,f (i+n)=f i):∀ k,C2 (fun i=>f (i+k)) n=C2 f n:=fun k=>by
 induction k with
 | zero=>rfl
 | succ k ih =>
  rw[← ih]
  have h1:=fH (fun i=>f (i+k)) 1 n
  have h2:=fH (fun i=>f (i+k)) n 1
  have e1:C2 (fun i=>f (i+k)) (1+n)=C2 (fun i=>f (i+k)) (n+1):=by rw[Tr]
  rw[h1,h2]at e1
  have f1:C2 (fun i=>f (i+k)) 1=f k:=by show(0:Rat)+f (0+k)=f k;rw[RF];grind
  have f2:C2 (fun i=>(fun i=>f (i+k)) (n+i)) 1=f k:=by
   show(0:Rat)+f (n+0+k)=f k
   rw[show n+0+k=k+n by omega,per];grind
  have f3:C2 (fun i=>(fun i=>f (i+k)) (1+i)) n=C2 (fun i=>f (i+(k+1))) n:=R1 fun i _=>by show f (1+i+k)=f (i+(k+1));rw[show 1+i+k=i+(k+1)by omega]
  rw[f1,f2,f3]at e1
  grind
theorem IB(L:List Zr){n:Nat}(hn:n<L.length):a2 (L.drop n++L.take n)=a2 L:=by
 have hl:(L.drop n++L.take n).length=L.length:=by rw[PB,Qh,PX];omega
 unfold a2
 rw[hl,R1 (g:=fun i=>(fun j=>cr (nth L j) (nth L (j+1))) (i+n)) fun i _=>by
  show cr (nth (L.drop n++L.take n) i) (nth (L.drop n++L.take n) (i+1))=cr (nth L (i+n)) (nth L (i+n+1))
  rw[B3 L hn,B3 L hn,show i+1+n=i+n+1 by omega]]
 exact xY (fun j=>cr (nth L j) (nth L (j+1))) (fun i=>by
  show cr (nth L (i+L.length)) (nth L (i+L.length+1))=cr (nth L i) (nth L (i+1))
  rw[show i+L.length+1=i+1+L.length by omega,lJ,lJ]) n
theorem N9{f:Zr→Zr}{L:List Zr}(h:L≠[])(i:Nat):nth (L.map f) i=f (nth L i):=by
 have hl:0<L.length:=Rk.mpr h
 have hi:i % L.length<L.length:=Rg _ hl
 unfold nth
 rw[Pj,PC,PC,PJ,PH hi];rfl
theorem Lw(a b c d:Rat){L:List Zr}(h:L≠[]):a2 (L.map (lmZ a b c d))=(a*d - b*c)*a2 L:=by
 unfold a2
 rw[Pj,← xZ]
 exact R1 fun i _=>by rw[N9 h,N9 h,uT]
theorem Chn.lm{a b c d:Rat}(h:0<a*d - b*c){L:List Zr}(nL:L≠[])(hL:Chn L):Chn (L.map (lmZ a b c d)):=by
 refine⟨fun i=>?_,fun i x hx hc=>?_,fun i j h1 h2 e=>?_⟩
 ·rw[N9 nL,N9 nL,uT];exact Qt h (hL.cr i)
 ·obtain⟨y,hy,rfl⟩:=Pm.mp hx
  rw[N9 nL,uT]at hc
  rw[N9 nL]
  rcases hL.nxt i y hy (N6 h hc)with e|e
  ·left;rw[e]
  ·right;rw[uT];exact Qt h e
 ·rw[Pj]at h2
  rw[N9 nL,N9 nL]at e
  exact hL.nd i j h1 h2 (qX (by grind) e)
theorem Ed{L M:List Zr}(hL:Chn L)(hM:Chn M)(nL:L≠[])(nM:M≠[])(hs:∀ z,z∈L↔z∈M):a2 L=a2 M:=by
 have m0:=(hs _).mp (t8 nL 0)
 obtain⟨k,hk,ek⟩:=TJ m0
 have hr:=hM.rot hk
 have hmem:∀ z,z∈M.drop k++M.take k↔z∈M:=fun z=>by rw[PL,Or.comm,← PL,Sa]
 have nr:M.drop k++M.take k≠[]:=fun z=>by
  have:=(hmem _).mpr m0
  rw[z]at this;cases this
 have:L=M.drop k++M.take k:=FV hL hr nL nr (fun z=>by rw[hs,hmem]) (by rw[B3 M hk,RF,aA hk,ek])
 rw[this,IB M hk]
theorem mh{ls ms:List T3}(hl:∀ l∈ls,LineOk l)(hm:∀ l∈ms,LineOk l){a b c d:Rat}(h:a*d - b*c≠0)(pq:∀ z:Zr,o6 ms z.1 z.2=o6 ls (lmZ a b c d z).1 (lmZ a b c d z).2)
  {cs ds:List Zr} (C:Z8 ls cs) (D:Z8 ms ds) (z:Zr):z∈ds↔lmZ a b c d z∈cs:=by
 rw[C.mem,D.mem,AF (aT hl),AF (aT hm)]
 exact HW h fun z=>by rw[D4,D4,pq]
theorem AB{ls ms:List T3}(hl:∀ l∈ls,LineOk l)(hm:∀ l∈ms,LineOk l){a b c d:Rat}(h:0<a*d - b*c)(pq:∀ z:Zr,o6 ms z.1 z.2=o6 ls (lmZ a b c d z).1 (lmZ a b c d z).2)
  {cs ds:List Zr} (C:Z8 ls cs) (D:Z8 ms ds):(a*d - b*c)*a2 ds=a2 cs:=by
 have hn:a*d - b*c≠0:=by grind
 rw[← Lw a b c d D.ne]
 refine Ed (D.chn.lm h D.ne) C.chn (fun z=>D.ne (List.map_eq_nil_iff.mp z)) C.ne fun z=>?_
 rw[Pm]
 constructor
 ·rintro⟨y,hy,rfl⟩;exact(mh hl hm hn pq C D y).mp hy
 ·intro hz
  exact⟨lmB a b c d z,(mh hl hm hn pq C D _).mpr (by rw[bJ hn];exact hz),bJ hn z⟩
structure N5(cs:List Zr)(P:Zr→Prop):Prop where
 ne:cs≠[]
 chn:Chn cs
 low:∀ x∈cs,¬ K4 x (nth cs 0)=true
 on:∀ x∈cs,P x
 ins:∀ z,P z ↔ ∀ i,0≤S7 (nth cs i) (nth cs (i+1)) z
 zero:P (0,0)
 sym:∀ x∈cs,ngZ x∈cs
theorem lL{x c:Zr}(h:¬ K4 x c=true):c.1<x.1∨(c.1=x.1∧c.2≤x.2):=by
 unfold K4 at h
 by_cases e:x.1=c.1
 ·simp[e]at h;right;exact⟨e.symm,by grind⟩
 ·simp[e]at h;left;grind
noncomputable def cum(f:Rat→Rat):List Rat→Rat→Rat
 | a :: b :: r,x=>(if b≤x then(b - a)*(f a+f b)else 0)+cum f (b :: r) x
 | _,_=>0
theorem bS(f:Rat→Rat):∀(G:List Rat) (a x:Rat),Ris (a :: G)→x≤a→cum f (a :: G) x=0:=fun G=>by
 induction G with
 | nil=>intro a x _ _;rfl
 | cons b r ih =>
  intro a x h hx
  obtain⟨h1,h2⟩:=QA.mp h
  have ab:=h1 b (.head _)
  show(if b≤x then(b - a)*(f a+f b)else 0)+cum f (b :: r) x=0
  rw[if_neg (by grind),ih b x h2 (by grind)];grind
theorem pI{f:Rat→Rat}{c s:Rat}:∀(G:List Rat) (a b:Rat),Ris G→a∈G→b∈G→a≤b→(∀ x∈G,a≤x→x≤b→f x=c+s*x)→cum f G b - cum f G a=(b - a)*(f a+f b):=fun G=>by
 induction G with
 | nil=>intro a b _ h;cases h
 | cons g r ih =>
  intro a b hG ha hb ab ev
  obtain⟨h1,h2⟩:=QA.mp hG
  by_cases eg:a=g
  ·subst eg
   rw[bS f r a a hG (by grind)]
   by_cases eb:b=a
   ·subst eb;rw[bS f r b b hG (by grind)];grind
   have hb:b∈r:=by rcases Pn.mp hb with e|e;exact absurd e eb;exact e
   cases r with
   | nil=>cases hb
   | cons g' r =>
    have gb:g'≤b:=by
     rcases Pn.mp hb with e|e
     ·grind
     ·have:=(QA.mp h2).1 b e;grind
    have ag:=h1 g' (.head _)
    have:=ih g' b h2 (.head _) hb gb fun x hx x1 x2=>ev x (.tail _ hx) (by grind) x2
    rw[bS f r g' g' h2 (by grind)]at this
    show(if g'≤b then(g' - a)*(f a+f g')else 0)+cum f (g' :: r) b - 0=_
    rw[if_pos gb]
    have e1:=ev a (.head _) (by grind) ab
    have e2:=ev g' (.tail _ (.head _)) (by grind) gb
    have e3:=ev b (.tail _ hb) ab (by grind)
    rw[e1,e2,e3]at *
    generalize cum f (g' :: r) b=C at *
    grind
  ·have ha:a∈r:=by rcases Pn.mp ha with e|e;exact absurd e eg;exact e
   have ga:=h1 a ha
   have hb:b∈r:=by rcases Pn.mp hb with e|e;(exfalso;grind);exact e
   have gb:=h1 b hb
   cases r with
   | nil=>cases ha
   | cons g' r =>
    have g1:g'≤a:=by
     rcases Pn.mp ha with e|e
     ·grind
     ·have:=(QA.mp h2).1 a e;grind
    have:=ih a b h2 ha hb ab fun x hx=>ev x (.tail _ hx)
    show(if g'≤b then(g' - g)*(f g+f g')else 0)+cum f (g' :: r) b - ((if g'≤a then(g' - g)*(f g+f g')else 0)+cum f (g' :: r) a)=_
    rw[if_pos (by grind),if_pos g1]
    generalize cum f (g' :: r) b=C at *
    generalize cum f (g' :: r) a=C' at *
    grind
section
variable {cs:List Zr} {P:Zr→Prop}
theorem N5.rise0(Q:N5 cs P):(nth cs 0).1<(nth cs 1).1:=by
 rcases lL (Q.low _ (t8 Q.ne 1))with h|⟨h1,h2⟩
 ·exact h
 exfalso
 have c:=Q.chn.cr 0
 have s:=lL (Q.low _ (Q.sym _ (t8 Q.ne 0)))
 unfold cr at c
 have s:(nth cs 0).1 < -(nth cs 0).1∨((nth cs 0).1 = -(nth cs 0).1∧(nth cs 0).2 ≤ -(nth cs 0).2):=s
 rw[show 0+1=1 from rfl]at c
 rw[← h1]at c
 generalize (nth cs 0).1=a at *
 generalize (nth cs 0).2=b at *
 generalize (nth cs 1).2=d at *
 have:a≤0:=by grind
 have:a*d - b*a=a*(d - b):=by grind
 rw[this]at c
 have:a*(d - b)≤0:=by
  have:=Pq (show 0 ≤ -a by grind) (show 0≤d - b by grind)
  grind
 grind
theorem N5.turn(Q:N5 cs P){i:Nat}(h1:(nth cs (i+1)).1≤(nth cs i).1)(h2:(nth cs (i+1)).1<(nth cs (i+2)).1):nth cs (i+1)=nth cs 0:=by
 have c:=Q.chn.cr i
 have k:∀ z,P z→0≤S7 (nth cs i) (nth cs (i+1)) z∧0≤S7 (nth cs (i+1)) (nth cs (i+2)) z:=fun z hz=>⟨(Q.ins z).mp hz i,(Q.ins z).mp hz (i+1)⟩
 have k0:=k _ Q.zero
 have k2:=(k _ (Q.on _ (t8 Q.ne (i+2)))).1
 obtain⟨k3,k4⟩:=k _ (Q.on _ (t8 Q.ne 0))
 have lw:=lL (Q.low _ (t8 Q.ne (i+1)))
 generalize nth cs i=v at *
 generalize nth cs (i+1)=w at *
 generalize nth cs (i+2)=x at *
 generalize nth cs 0=o at *
 obtain⟨v1,v2⟩:=v
 obtain⟨w1,w2⟩:=w
 obtain⟨x1,x2⟩:=x
 obtain⟨o1,o2⟩:=o
 unfold S7 at *
 unfold cr at c
 simp only at *
 have idn:∀ z1 z2:Rat,((w1 - v1)*(x2 - v2) - (w2 - v2)*(x1 - v1))*(z1 - w1)=((w1 - v1)*(z2 - v2) - (w2 - v2)*(z1 - v1))*(x1 - w1) - ((x1 - w1)*(z2 - w2) - (x2 - w2)*(z1 - w1))*(w1 - v1):=fun z1 z2=>by grind
 have i0:=idn 0 0
 have io:=idn o1 o2
 have e0:(w1 - v1)*(0 - v2) - (w2 - v2)*(0 - v1)=v1*w2 - v2*w1:=by grind
 have p0:0<((w1 - v1)*(0 - v2) - (w2 - v2)*(0 - v1))*(x1 - w1):=by rw[e0];exact Qt c (by grind)
 have p1:0 ≤ -(((x1 - w1)*(0 - w2) - (x2 - w2)*(0 - w1))*(w1 - v1)):=by
  have:=Pq k0.2 (show 0≤v1 - w1 by grind);grind
 have D0:(w1 - v1)*(x2 - v2) - (w2 - v2)*(x1 - v1)≠0:=fun z=>by rw[z]at i0;grind
 have q0:0≤((w1 - v1)*(o2 - v2) - (w2 - v2)*(o1 - v1))*(x1 - w1):=Pq k3 (by grind)
 have q1:0 ≤ -(((x1 - w1)*(o2 - w2) - (x2 - w2)*(o1 - w1))*(w1 - v1)):=by
  have:=Pq k4 (show 0≤v1 - w1 by grind);grind
 have D1:0<(w1 - v1)*(x2 - v2) - (w2 - v2)*(x1 - v1):=by grind
 have ow:0≤o1 - w1:=by
  refine j6 D1 ?_
  rw[io]
  generalize ((w1 - v1)*(o2 - v2) - (w2 - v2)*(o1 - v1))*(x1 - w1)=A at *
  generalize ((x1 - w1)*(o2 - w2) - (x2 - w2)*(o1 - w1))*(w1 - v1)=B at *
  grind
 have e1:o1=w1:=by grind
 subst e1
 have e2:0≤(x1 - o1)*(o2 - w2):=by grind
 have e3:=j6 (show 0<x1 - o1 by grind) e2
 have:w2=o2:=by grind
 rw[this]
theorem N5.conv(Q:N5 cs P){x y:Zr}(hx:P x)(hy:P y){t:Rat}(t0:0≤t)(t1:t≤1):P (x.1+(y.1 - x.1)*t,x.2+(y.2 - x.2)*t):=by
 rw[Q.ins]
 intro i
 have a:=(Q.ins x).mp hx i
 have b:=(Q.ins y).mp hy i
 have:S7 (nth cs i) (nth cs (i+1)) (x.1+(y.1 - x.1)*t,x.2+(y.2 - x.2)*t)=(1 - t)*S7 (nth cs i) (nth cs (i+1)) x+t*S7 (nth cs i) (nth cs (i+1)) y:=by unfold S7;grind
 rw[this]
 have h1:=Pq (show 0≤1 - t by grind) a
 have h2:=Pq t0 b
 grind
structure dh(P:Zr→Prop)(lo hi:Rat→Rat):Prop where
 at':∀ g u,P (g,u)→∀ v,P (g,v)↔lo g≤v∧v≤hi g
variable {lo hi:Rat→Rat}
theorem ui{a b x y g:Rat}(hab:a≠b):x+(y - x)*((g - a) / (b - a))=(x - (y - x) / (b - a)*a)+(y - x) / (b - a)*g:=by
 have h:b - a≠0:=by grind
 rw[Rj,Rj]
 grind
theorem tL{a b g:Rat}(hab:a≠b):a+(b - a)*((g - a) / (b - a))=g:=by
 have h:b - a≠0:=by grind
 have:=Qk (a:=g - a) h
 grind
theorem Af{a b g:Rat}(h:(a≤g∧g≤b∧a<b)∨(b≤g∧g≤a∧b<a)):0≤(g - a) / (b - a)∧(g - a) / (b - a)≤1:=by
 have hn:b - a≠0:=by grind
 have e:=Qk (a:=g - a) hn
 generalize (g - a) / (b - a)=t at *
 rcases h with⟨h1,h2,h3⟩|⟨h1,h2,h3⟩
 ·refine⟨j6 (show 0<b - a by grind) (by grind),?_⟩
  have:=j6 (v:=b - a) (x:=1 - t) (by grind) (by grind)
  grind
 ·refine⟨j6 (show 0<a - b by grind) (by grind),?_⟩
  have:=j6 (v:=a - b) (x:=1 - t) (by grind) (by grind)
  grind
theorem N5.lo_on(Q:N5 cs P)(C:dh P lo hi){i:Nat}(h:(nth cs i).1<(nth cs (i+1)).1){g:Rat}(h1:(nth cs i).1≤g)(h2:g≤(nth cs (i+1)).1) :
  lo g=(nth cs i).2+((nth cs (i+1)).2 - (nth cs i).2)*((g - (nth cs i).1) / ((nth cs (i+1)).1 - (nth cs i).1)):=by
 obtain⟨t0,t1⟩:=Af (.inl ⟨h1,h2,h⟩)
 have te:=tL (a:=(nth cs i).1) (b:=(nth cs (i+1)).1) (g:=g) (by grind)
 have pe:=Q.conv (Q.on _ (t8 Q.ne i)) (Q.on _ (t8 Q.ne (i+1))) t0 t1
 rw[te]at pe
 obtain⟨a1,a2⟩:=(C.at' _ _ pe _).mp pe
 have pl:=(C.at' _ _ pe (lo g)).mpr ⟨by grind,by grind⟩
 have iq:=(Q.ins _).mp pl i
 unfold S7 at iq
 generalize (g - (nth cs i).1) / ((nth cs (i+1)).1 - (nth cs i).1)=t at *
 generalize (nth cs i).1=a at *
 generalize (nth cs i).2=x at *
 generalize (nth cs (i+1)).1=b at *
 generalize (nth cs (i+1)).2=y at *
 simp only at iq
 have:0≤(b - a)*(lo g - (x+(y - x)*t)):=by
  have:(b - a)*(lo g - (x+(y - x)*t))=(b - a)*(lo g - x) - (y - x)*((b - a)*t):=by grind
  rw[this,show(b - a)*t=g - a by grind]
  exact iq
 have:=j6 (show 0<b - a by grind) this
 grind
theorem N5.hi_on(Q:N5 cs P)(C:dh P lo hi){i:Nat}(h:(nth cs (i+1)).1<(nth cs i).1){g:Rat}(h1:(nth cs (i+1)).1≤g)(h2:g≤(nth cs i).1) :
  hi g=(nth cs i).2+((nth cs (i+1)).2 - (nth cs i).2)*((g - (nth cs i).1) / ((nth cs (i+1)).1 - (nth cs i).1)):=by
 obtain⟨t0,t1⟩:=Af (.inr ⟨h1,h2,h⟩)
 have te:=tL (a:=(nth cs i).1) (b:=(nth cs (i+1)).1) (g:=g) (by grind)
 have pe:=Q.conv (Q.on _ (t8 Q.ne i)) (Q.on _ (t8 Q.ne (i+1))) t0 t1
 rw[te]at pe
 obtain⟨a1,a2⟩:=(C.at' _ _ pe _).mp pe
 have pl:=(C.at' _ _ pe (hi g)).mpr ⟨by grind,by grind⟩
 have iq:=(Q.ins _).mp pl i
 unfold S7 at iq
 generalize (g - (nth cs i).1) / ((nth cs (i+1)).1 - (nth cs i).1)=t at *
 generalize (nth cs i).1=a at *
 generalize (nth cs i).2=x at *
 generalize (nth cs (i+1)).1=b at *
 generalize (nth cs (i+1)).2=y at *
 simp only at iq
 have:0≤(a - b)*((x+(y - x)*t) - hi g):=by
  have:(a - b)*((x+(y - x)*t) - hi g)=(b - a)*(hi g - x) - (y - x)*((b - a)*t):=by grind
  rw[this,show(b - a)*t=g - a by grind]
  exact iq
 have:=j6 (show 0<a - b by grind) this
 grind
theorem Ae{a b:Rat}:(a - a) / (b - a)=0:=by rw[Rj];grind
theorem Ad{a b:Rat}(h:a≠b):(b - a) / (b - a)=1:=by
 have hn:b - a≠0:=by grind
 have:=Qk (a:=b - a) hn
 exact J8 hn (by grind)
theorem N5.edge_lo(Q:N5 cs P)(C:dh P lo hi){G:List Rat}(hG:Ris G)(hh:∀ z∈cs,z.1∈G){i:Nat}(h:(nth cs i).1<(nth cs (i+1)).1) :
  ((nth cs i).1 - (nth cs (i+1)).1)*((nth cs i).2+(nth cs (i+1)).2) = -(cum lo G (nth cs (i+1)).1 - cum lo G (nth cs i).1):=by
 have e1:=Q.lo_on C h (Qe) (by grind)
 have e2:=Q.lo_on C h (by grind) (Qe)
 rw[Ae]at e1
 rw[Ad (by grind)]at e2
 have:=pI (f:=lo) (c:=(nth cs i).2 - ((nth cs (i+1)).2 - (nth cs i).2) / ((nth cs (i+1)).1 - (nth cs i).1)*(nth cs i).1) (s:=((nth cs (i+1)).2 - (nth cs i).2) / ((nth cs (i+1)).1 - (nth cs i).1)) G _ _ hG (hh _ (t8 Q.ne i)) (hh _ (t8 Q.ne (i+1))) (by grind) fun x _ x1 x2=>by
  rw[Q.lo_on C h x1 x2,ui (by grind)]
 rw[this,e1,e2]
 generalize (nth cs i).1=a at *
 generalize (nth cs i).2=x at *
 generalize (nth cs (i+1)).1=b at *
 generalize (nth cs (i+1)).2=y at *
 grind
theorem N5.edge_hi(Q:N5 cs P)(C:dh P lo hi){G:List Rat}(hG:Ris G)(hh:∀ z∈cs,z.1∈G){i:Nat}(h:(nth cs (i+1)).1≤(nth cs i).1) :
  ((nth cs i).1 - (nth cs (i+1)).1)*((nth cs i).2+(nth cs (i+1)).2)=cum hi G (nth cs i).1 - cum hi G (nth cs (i+1)).1:=by
 by_cases e:(nth cs (i+1)).1=(nth cs i).1
 ·rw[e];grind
 have h:(nth cs (i+1)).1<(nth cs i).1:=by grind
 have e1:=Q.hi_on C h (by grind) (Qe)
 have e2:=Q.hi_on C h (Qe) (by grind)
 rw[Ae]at e1
 rw[Ad (by grind)]at e2
 have:=pI (f:=hi) (c:=(nth cs i).2 - ((nth cs (i+1)).2 - (nth cs i).2) / ((nth cs (i+1)).1 - (nth cs i).1)*(nth cs i).1) (s:=((nth cs (i+1)).2 - (nth cs i).2) / ((nth cs (i+1)).1 - (nth cs i).1)) G _ _ hG (hh _ (t8 Q.ne (i+1))) (hh _ (t8 Q.ne i)) (by grind) fun x _ x1 x2=>by
  rw[Q.hi_on C h x1 x2,ui (by grind)]
 rw[this,e1,e2]
 generalize (nth cs i).1=a at *
 generalize (nth cs i).2=x at *
 generalize (nth cs (i+1)).1=b at *
 generalize (nth cs (i+1)).2=y at *
 grind
end
section
variable {cs:List Zr} {P:Zr→Prop} {lo hi:Rat→Rat}
theorem tel(L:List Zr):∀ n:Nat,C2 (fun i=>cr (nth L i) (nth L (i+1))) n=C2 (fun i=>((nth L i).1 - (nth L (i+1)).1)*((nth L i).2+(nth L (i+1)).2)) n+((nth L n).1*(nth L n).2 - (nth L 0).1*(nth L 0).2):=fun n=>by
 induction n with
 | zero=>show(0:Rat)=0+_;grind
 | succ n ih =>
  show C2 _ n+cr (nth L n) (nth L (n+1))=C2 _ n+((nth L n).1 - (nth L (n+1)).1)*((nth L n).2+(nth L (n+1)).2)+_
  rw[ih];unfold cr;grind
theorem N5.len(Q:N5 cs P):0<cs.length:=Rk.mpr Q.ne
theorem N5.upto(Q:N5 cs P)(C:dh P lo hi){G:List Rat}(hG:Ris G)(hh:∀ z∈cs,z.1∈G):∀ k,k+1≤cs.length →
  (((nth cs k).1<(nth cs (k+1)).1∧(∀ j,j≤k+1→(nth cs j).1≤(nth cs (k+1)).1) ∧
   C2 (fun i=>((nth cs i).1 - (nth cs (i+1)).1)*((nth cs i).2+(nth cs (i+1)).2)) (k+1) = -(cum lo G (nth cs (k+1)).1 - cum lo G (nth cs 0).1)) ∨
  ((nth cs (k+1)).1≤(nth cs k).1∧∃ m,(∀ j,j≤k+1→(nth cs j).1≤(nth cs m).1) ∧
   C2 (fun i=>((nth cs i).1 - (nth cs (i+1)).1)*((nth cs i).2+(nth cs (i+1)).2)) (k+1) = -(cum lo G (nth cs m).1 - cum lo G (nth cs 0).1)+(cum hi G (nth cs m).1 - cum hi G (nth cs (k+1)).1))):=fun k=>by
 induction k with
 | zero =>
  intro _
  left
  refine⟨Q.rise0,fun j hj=>?_,?_⟩
  ·have r:=Q.rise0
   rcases Nat.le_one_iff_eq_zero_or_eq_one.mp hj with rfl|rfl
   ·grind
   ·exact Qe
  ·have e:=Q.edge_lo C hG hh Q.rise0
   show(0:Rat)+((nth cs 0).1 - (nth cs (0+1)).1)*((nth cs 0).2+(nth cs (0+1)).2)=_
   rw[e];grind
 | succ k ih =>
  intro hk
  rcases ih (by omega)with⟨r,mx,s⟩|⟨r,m,mx,s⟩
  ·by_cases r2:(nth cs (k+1)).1<(nth cs (k+1+1)).1
   ·left
    refine⟨r2,fun j hj=>?_,?_⟩
    ·by_cases e:j=k+1+1
     ·rw[e];exact Qe
     ·have:=mx j (by omega);grind
    ·have e:=Q.edge_lo C hG hh r2
     show C2 _ (k+1)+((nth cs (k+1)).1 - (nth cs (k+1+1)).1)*((nth cs (k+1)).2+(nth cs (k+1+1)).2)=_
     rw[s,e];grind
   ·right
    refine⟨by grind,k+1,fun j hj=>?_,?_⟩
    ·by_cases e:j=k+1+1
     ·rw[e];grind
     ·exact mx j (by omega)
    ·have e:=Q.edge_hi C hG hh (i:=k+1) (by grind)
     show C2 _ (k+1)+((nth cs (k+1)).1 - (nth cs (k+1+1)).1)*((nth cs (k+1)).2+(nth cs (k+1+1)).2)=_
     rw[s,e]
  ·have r2:¬ (nth cs (k+1)).1<(nth cs (k+1+1)).1:=fun r2=>by
    have e:=Q.turn r r2
    exact Q.chn.nd 0 (k+1) (by omega) (by omega) e.symm
   right
   refine⟨by grind,m,fun j hj=>?_,?_⟩
   ·by_cases e:j=k+1+1
    ·have:=mx (k+1) (by omega);rw[e];grind
    ·exact mx j (by omega)
   ·have e:=Q.edge_hi C hG hh (i:=k+1) (by grind)
    show C2 _ (k+1)+((nth cs (k+1)).1 - (nth cs (k+1+1)).1)*((nth cs (k+1)).2+(nth cs (k+1+1)).2)=_
    rw[s,e];grind
theorem N5.area(Q:N5 cs P)(C:dh P lo hi){G:List Rat}(hG:Ris G)(hh:∀ z∈cs,z.1∈G) :
  ∃ b,(∃ z∈cs,z.1=b)∧(∀ z∈cs,z.1≤b)∧a2 cs=(cum hi G b - cum hi G (nth cs 0).1) - (cum lo G b - cum lo G (nth cs 0).1):=by
 have hl:=Q.len
 have h:=Q.upto C hG hh (cs.length - 1) (by omega)
 rw[show cs.length - 1+1=cs.length by omega]at h
 have e0:nth cs cs.length=nth cs 0:=by have:=lJ cs 0;rwa [RF]at this
 have al:∀ z∈cs,∃ j,j≤cs.length∧nth cs j=z:=fun z hz=>by
  obtain⟨j,hj,e⟩:=TJ hz
  exact⟨j,by omega,by rw[aA hj,e]⟩
 have ta:=tel cs cs.length
 have ta:a2 cs=_:=ta
 rw[e0]at ta h
 rcases h with⟨r,mx,s⟩|⟨r,m,mx,s⟩
 ·exfalso
  have:=mx 1 (by
   have:=Q.rise0
   by_cases e:cs.length=0
   ·omega
   ·omega)
  have:=Q.rise0
  grind
 ·refine⟨(nth cs m).1,⟨_,t8 Q.ne m,rfl⟩,fun z hz=>?_,?_⟩
  ·obtain⟨j,hj,rfl⟩:=al z hz
   exact mx j hj
  ·rw[ta,s];grind
end
theorem DO(f g:Rat→Rat):∀(G:List Rat) (x:Rat),cum (fun y=>f y - g y) G x=cum f G x - cum g G x:=fun G=>by
 induction G with
 | nil=>intro x;show(0:Rat)=0 - 0;grind
 | cons a r ih =>
  intro x
  cases r with
  | nil=>show(0:Rat)=0 - 0;grind
  | cons b r =>
   show(if b≤x then(b - a)*((f a - g a)+(f b - g b))else 0)+cum (fun y=>f y - g y) (b :: r) x=(if b≤x then(b - a)*(f a+f b)else 0)+cum f (b :: r) x - ((if b≤x then(b - a)*(g a+g b)else 0)+cum g (b :: r) x)
   rw[ih];split<;>grind
noncomputable def evn(f:Rat→Rat):List Rat→Rat
 | a :: b :: r=>(b - a)*(f a+f b)+evn f (b :: r)
 | _=>0
theorem DP(f:Rat→Rat):∀(G:List Rat) (b:Rat),(∀ x∈G,x≤b)→cum f G b=evn f G:=fun G=>by
 induction G with
 | nil=>intro b _;rfl
 | cons a r ih =>
  intro b h
  cases r with
  | nil=>rfl
  | cons y r=>show(if y≤b then(y - a)*(f a+f y)else 0)+cum f (y :: r) b=(y - a)*(f a+f y)+evn f (y :: r);rw[if_pos (h y (.tail _ (.head _))),ih b fun x hx=>h x (.tail _ hx)]
theorem N5.even{cs:List Zr}{P:Zr→Prop}{lo hi:Rat→Rat}(Q:N5 cs P)(C:dh P lo hi):a2 cs=evn (fun h=>hi h - lo h) (G6 (cs.map (·.1))):=by
 obtain⟨hG,mG⟩:=lb (cs.map (·.1))
 have m1:∀ z∈cs,z.1∈G6 (cs.map (·.1)):=fun z hz=>(mG _).mpr (Pm.mpr ⟨z,hz,rfl⟩)
 have lowC:∀ z∈cs,(nth cs 0).1≤z.1:=fun z hz=>by rcases lL (Q.low z hz)with h|⟨h,_⟩<;>grind
 have m3:∀ x∈G6 (cs.map (·.1)),∃ z∈cs,z.1=x:=fun x hx=>Pm.mp ((mG x).mp hx)
 generalize G6 (cs.map (·.1))=G at *
 obtain⟨b,⟨zb,hzb,eb⟩,mb,e⟩:=Q.area C hG m1
 have hb:∀ x∈G,x≤b:=fun x hx=>by obtain⟨z,hz,rfl⟩:=m3 x hx;exact mb z hz
 have z0:∀ f:Rat→Rat,cum f G (nth cs 0).1=0:=fun f=>by
  have m0:=m1 _ (t8 Q.ne 0)
  cases G with
  | nil=>cases m0
  | cons g r =>
   refine bS f r g _ hG ?_
   obtain⟨z,hz,e⟩:=m3 g (.head _)
   have:=lowC z hz;grind
 rw[e,z0,z0,← DP _ G b hb,DO];grind
theorem vQ{ls:List T3}(hok:∀ l∈ls,LineOk l):o6 ls 0 0=true:=by
 unfold o6
 rw[Qq]
 intro l hl
 have:=(hok l hl).pos
 rw[A2]
 exact⟨by grind,by grind⟩
theorem gQ{a b:Bool}(h:a=true↔b=true):a=b:=by cases a<;>cases b<;>simp_all
theorem Q1(ls:List T3)(y u:Rat):o6 ls y u=true ↔ ∀ l∈ls,l.1*y+l.2.1*u≤l.2.2∧-(l.1*y+l.2.1*u)≤l.2.2:=by
 unfold o6
 rw[Qq]
 exact⟨fun h l hl=>(A2 l y u).mp (h l hl),fun h l hl=>(A2 l y u).mpr (h l hl)⟩
theorem Ds(ls:List T3)(z:Zr):o6 ls z.1 z.2=o6 ls (lmZ (-1) 0 0 (-1) z).1 (lmZ (-1) 0 0 (-1) z).2:=by
 refine gQ ?_
 rw[Q1,Q1]
 unfold lmZ
 constructor
 ·intro h l hl;have:=h l hl;exact⟨by show l.1*(-1*z.1+0*z.2)+l.2.1*(0*z.1 + -1*z.2)≤_;grind,by show -(l.1*(-1*z.1+0*z.2)+l.2.1*(0*z.1 + -1*z.2))≤_;grind⟩
 ·intro h l hl
  obtain⟨h1,h2⟩:=h l hl
  have h1:l.1*(-1*z.1+0*z.2)+l.2.1*(0*z.1 + -1*z.2)≤l.2.2:=h1
  have h2:-(l.1*(-1*z.1+0*z.2)+l.2.1*(0*z.1 + -1*z.2))≤l.2.2:=h2
  exact⟨by grind,by grind⟩
theorem mi{ls:List T3}(hok:∀ l∈ls,LineOk l){cs:List Zr}(e:C3 ls=some cs):Z8 ls cs∧¬ q9 ls:=by
 rcases aI hok with⟨e',_⟩|⟨ds,e',na,C⟩
 ·rw[e]at e';cases e'
 ·rw[e]at e';cases e';exact⟨C,na⟩
theorem Ii{ls:List T3}(hok:∀ l∈ls,LineOk l){cs:List Zr}(C:Z8 ls cs){z:Zr}(h:z∈cs):ngZ z∈cs:=by
 have:=(mh hok hok (a:=-1) (b:=0) (c:=0) (d:=-1) (by grind) (Ds ls) C C z).mp h
 have e:lmZ (-1) 0 0 (-1) z=ngZ z:=by unfold lmZ ngZ;exact Prod.ext (by show -1*z.1+0*z.2 = -z.1;grind) (by show 0*z.1 + -1*z.2 = -z.2;grind)
 rwa [e]at this
theorem CG{ls:List T3}(hok:∀ l∈ls,LineOk l){cs:List Zr}(e:C3 ls=some cs):N5 cs (fun z=>o6 ls z.1 z.2=true):=by
 obtain⟨C,_⟩:=mi hok e
 exact⟨C.ne,C.chn,C.low,fun x hx=>(D4 ls x).mp ((C.mem x).mp hx).sup,fun z=>(Ij hok e z.1 z.2).symm,vQ hok,fun x hx=>Ii hok C hx⟩
theorem AD{ls:List T3}(hok:∀ l∈ls,LineOk l)(hq:∃ l∈ls,l.2.1≠0):dh (fun z=>o6 ls z.1 z.2=true) (fun g=>(W8 ls g).1) (fun g=>(W8 ls g).2):=by
 refine⟨fun g u h v=>?_⟩
 obtain⟨lo,hi,C,_,_⟩:=bT hok hq (show o6 ls g u=true from h)
 rw[Q8 C]
 constructor
 ·intro h2
  obtain⟨lo',hi',C',h3,h4⟩:=bT hok hq (show o6 ls g v=true from h2)
  have:=Q8 C
  rw[Q8 C']at this
  cases this
  exact⟨h3,h4⟩
 ·intro⟨h3,h4⟩
  exact F5 hok C.eq h3 h4
theorem vn(ls:List T3)(x:Rat)(z:Zr):o6 (ls.map fun l=>(l.1,l.1*x+l.2.1,l.2.2)) z.1 z.2=o6 ls (lmZ 1 x 0 1 z).1 (lmZ 1 x 0 1 z).2:=by
 refine gQ ?_
 rw[Q1,Q1]
 have e:∀ l:T3,l.1*z.1+(l.1*x+l.2.1)*z.2=l.1*(lmZ 1 x 0 1 z).1+l.2.1*(lmZ 1 x 0 1 z).2:=fun l=>by
  show _=l.1*(1*z.1+x*z.2)+l.2.1*(0*z.1+1*z.2);grind
 constructor
 ·intro h l hl
  have:=h _ (Pm.mpr ⟨l,hl,rfl⟩)
  rw[← e];exact this
 ·intro h l hl
  obtain⟨m,hm,rfl⟩:=Pm.mp hl
  have:=h m hm
  rw[← e]at this;exact this
theorem gS(ls:List T3)(x:Rat):q9 (ls.map fun l=>(l.1,l.1*x+l.2.1,l.2.2))↔q9 ls:=by
 unfold q9
 constructor
 ·intro h a ha b hb
  have:=h _ (Pm.mpr ⟨a,ha,rfl⟩) _ (Pm.mpr ⟨b,hb,rfl⟩)
  have:a.1*(b.1*x+b.2.1)=b.1*(a.1*x+a.2.1):=this
  grind
 ·intro h a ha b hb
  obtain⟨m,hm,rfl⟩:=Pm.mp ha
  obtain⟨n,hn,rfl⟩:=Pm.mp hb
  have:=h m hm n hn
  show m.1*(n.1*x+n.2.1)=n.1*(m.1*x+m.2.1)
  grind
theorem lu{ls:List T3}(hl:∀ l∈ls,LineOk l)(x:Rat):∀ l∈ls.map (fun l=>(l.1,l.1*x+l.2.1,l.2.2)),LineOk l:=fun l h=>by
 obtain⟨m,hm,rfl⟩:=Pm.mp h
 have:=hl m hm
 refine⟨fun⟨h1,h2⟩=>this.ne ?_,this.pos⟩
 have h1:m.1=0:=h1
 have h2:m.1*x+m.2.1=0:=h2
 exact⟨h1,by rw[h1]at h2;grind⟩
theorem ye{ls:List T3}(hl:∀ l∈ls,LineOk l)(x:Rat):(C3 ls=none∧C3 (ls.map fun l=>(l.1,l.1*x+l.2.1,l.2.2))=none) ∨ ∃ cs ds,C3 ls=some cs∧C3 (ls.map fun l=>(l.1,l.1*x+l.2.1,l.2.2))=some ds∧a2 ds=a2 cs:=by
 rcases aI hl with⟨e1,a1⟩|⟨cs,e1,n1,c1⟩
 ·rcases aI (lu hl x)with⟨e2,a2⟩|⟨ds,e2,n2,c2⟩
  ·exact .inl ⟨e1,e2⟩
  ·exact absurd ((gS ls x).mpr a1) n2
 ·rcases aI (lu hl x)with⟨e2,a2⟩|⟨ds,e2,n2,c2⟩
  ·exact absurd ((gS ls x).mp a2) n1
  ·refine .inr ⟨cs,ds,e1,e2,?_⟩
   have:=AB hl (lu hl x) (a:=1) (b:=x) (c:=0) (d:=1) (by grind) (vn ls x) c1 c2
   grind
theorem Ah{ls:List T3}(hl:∀ l∈ls,LineOk l){cs:List Zr}(e:C3 ls=some cs):a2 cs=evn (fun h=>(W8 ls h).2 - (W8 ls h).1) (G6 (cs.map (·.1))) :=
 (CG hl e).even (AD hl (yc hl (mi hl e).2))
end GM
namespace DL
open PySem PySem.Spec L2
open PyProof.Rows hiding St
section
variable {X:Cx} {x:Expr} {t:DTE}
def JB(t:TE):TE:=fun σ H Q=>t σ H fun v H1=>(∃ p xs,H1 p=some (.lst xs)∧∀ o,Q v (upd H1 p (.frz o (.lst xs))))∨Q v H1
theorem CP{t:TE}(h:PE X x t):PE X x (JB t):=fun pins s σ H Q I q =>
 wpAny_mono (h pins s σ H _ I q) (fun u s1 ⟨v,H1,I1,r,z⟩=>by
  rcases z with⟨p,xs,hp,q1⟩|q1
  ·obtain⟨o,I2⟩:=I1.freeze hp
   exact⟨v,_,I2,r,q1 o⟩
  ·exact⟨v,H1,I1,r,q1⟩) fun _ _ z=>z
def Gb(x:D)(M1:Mem)(R:DK):Prop:=(∃ p ds,x = .ref p∧M1 p=some (.lst ds)∧R (.vl ds) (cF M1 p))∨R x M1
def FI(t:DTE):DTE:=fun e M R=>t e M fun x M1=>Gb x M1 R
theorem DC(h:JE X x t):JE X x (FI t):=⟨(CP h.out).imp fun σ H Q ⟨e,M,R,ok,am,t,f⟩=>⟨e,M,_,ok,am,t,fun d M1 z v H1 k1 a1 r1=>by
 rcases z with⟨p,ds,z,hm,r⟩|r
 ·subst z
  cases r1
  obtain⟨xs,hx,lx⟩:=a1.lst hm
  exact .inl ⟨p,xs,hx,fun o=>f _ _ r _ _ (k1.trans (KT.any hx)) (a1.del.at (KT.any hx).toKT0 jC) (.vl (.inl ⟨o,j4⟩) (lx.mono (KT.any hx)))⟩
 ·exact .inr (f _ _ r _ _ k1 a1 r1)⟩⟩
theorem xC{e:Ev}{M:Mem}{R:DK}:FI t e M R=t e M fun x M1=>Gb x M1 R:=rfl
end
end DL
namespace GM
open PySem PySem.Spec L2 DL
open RM (sz)
local macro_rules|`(tactic| walk_at "inj")=>`(tactic| (rename_i e h;simp only[List.cons.injEq,GM.L6,GM.E8,GM.C7,and_true,true_and,GM.g8,GM.h9,GM.f9,GM.i3,GM.g5,D.tup.injEq,D.ref.injEq,D.int.injEq,D.str.injEq,D.bl.injEq,D.vl.injEq,PM,and_assoc]at e;(repeat(obtain⟨e1,e⟩:=e;subst e1));subst e;exact h))
local macro_rules|`(tactic| walk_at "injs")=>`(tactic| (rename_i e o h;rcases o with o|o<;>(subst o;first|(exfalso;simp only[D.tup.injEq,List.cons.injEq,reduceCtorEq,false_and,and_false]at e;done)|(simp only[List.cons.injEq,GM.L6,GM.E8,GM.C7,and_true,true_and,GM.g8,GM.h9,GM.f9,GM.i3,GM.g5,D.tup.injEq,D.ref.injEq,D.int.injEq,D.str.injEq,D.bl.injEq,D.vl.injEq,PM,and_assoc]at e;(repeat(obtain⟨e1,e⟩:=e;subst e1));subst e;exact h))))
abbrev eC(a b:Int)(M:Mem)(R:DK)(Y:DXK):Prop:=b≠0∧R (d8 (Qu a b)) M
def K6:DSp:=fun ds M R Y=>∃(a b:Int),ds=[.int a,.int b]∧eC a b M R Y
theorem sA{a b:Int}{M:Mem}{R:DK}{Y:DXK}:K6 [.int a,.int b] M R Y=(eC a b M R Y):=propext ⟨fun z=>by obtain⟨_,_,_,_⟩:=z;walk_at "inj",fun h=>⟨a,b,rfl,h⟩⟩
abbrev bg(q r:Rat)(M:Mem)(R:DK)(Y:DXK):Prop:=sz q+sz r≤9000000∧R (d8 (q+r)) M
def kM:DSp:=fun ds M R Y=>∃(q r:Rat),ds=[d8 q,d8 r]∧bg q r M R Y
theorem mV{q r:Rat}{M:Mem}{R:DK}{Y:DXK}:kM [d8 q,d8 r] M R Y=(bg q r M R Y):=propext ⟨fun z=>by obtain⟨_,_,_,_⟩:=z;walk_at "inj",fun h=>⟨q,r,rfl,h⟩⟩
abbrev Y1(q r:Rat)(M:Mem)(R:DK)(Y:DXK):Prop:=sz q+sz r≤9000000∧R (d8 (q - r)) M
def eB:DSp:=fun ds M R Y=>∃(q r:Rat),ds=[d8 q,d8 r]∧Y1 q r M R Y
theorem iH{q r:Rat}{M:Mem}{R:DK}{Y:DXK}:eB [d8 q,d8 r] M R Y=(Y1 q r M R Y):=propext ⟨fun z=>by obtain⟨_,_,_,_⟩:=z;walk_at "inj",fun h=>⟨q,r,rfl,h⟩⟩
abbrev X6(q r:Rat)(M:Mem)(R:DK)(Y:DXK):Prop:=sz q+sz r≤9000000∧R (d8 (q*r)) M
def C5:DSp:=fun ds M R Y=>∃(q r:Rat),ds=[d8 q,d8 r]∧X6 q r M R Y
theorem iB{q r:Rat}{M:Mem}{R:DK}{Y:DXK}:C5 [d8 q,d8 r] M R Y=(X6 q r M R Y):=propext ⟨fun z=>by obtain⟨_,_,_,_⟩:=z;walk_at "inj",fun h=>⟨q,r,rfl,h⟩⟩
theorem zw{a b:Int}(m n:Nat)(ha:a.natAbs<2 ^ m)(hb:b.natAbs<2 ^ n)(h:m+n≤100000000):IntMulOk a b:=by
 have hx:∀(x:Int) (k:Nat),x.natAbs<2 ^ k→Builtin.Int.intBits x≤k:=fun x k hx=>by
  unfold Builtin.Int.intBits
  split
  ·exact Qs _
  ·rename_i h0
   have:x.natAbs≠0:=by
    intro z;apply h0
    first|exact(by simpa using TN.mp z)|(simp;omega)
   have:=(Tv this).mpr hx
   omega
 exact PySem.IntMulOk.of_le (hx a m ha) (hx b n hb) (by omega)
theorem bNN{q r:Rat}(h:sz q+sz r≤9000000):IntMulOk q.num r.num:=zw _ _ (D2 q) (D2 r) (by omega)
theorem bND{q r:Rat}(h:sz q+sz r≤9000000):IntMulOk q.num (r.den:Int):=zw _ _ (D2 q) (y8 r) (by omega)
theorem bDD{q r:Rat}(h:sz q+sz r≤9000000):IntMulOk (q.den:Int) (r.den:Int):=zw _ _ (y8 q) (y8 r) (by omega)
noncomputable def lcL(qs:List Rat):Nat:=qs.foldl (fun c q=>u6 c q.den) 1
abbrev kW(qs:List Rat)(M:Mem)(R:DK)(Y:DXK):Prop:=(qs.length≤60∧∀ q∈qs,sz q≤5000)∧R (.int ((lcL qs:Nat):Int)) M
def GL:DSp:=fun ds M R Y=>∃(qs:List Rat),ds=[.vl (qs.map d8)]∧kW qs M R Y
theorem wI{qs:List Rat}{M:Mem}{R:DK}{Y:DXK}:GL [.vl (qs.map d8)] M R Y=(kW qs M R Y):=propext ⟨fun z=>by obtain⟨_,_,_⟩:=z;walk_at "inj",fun h=>⟨qs,rfl,h⟩⟩
abbrev dU(qs:List Rat)(c:Int)(M:Mem)(R:DK)(Y:DXK):Prop:=((qs.length≤60∧∀ q∈qs,sz q≤5000)∧c=((lcL qs:Nat):Int))∧R (.vl ((qs.map fun q=>q.num*((lcL qs / q.den:Nat):Int)).map D.int)) M
def yt:DSp:=fun ds M R Y=>∃(qs:List Rat) (c:Int),ds=[.vl (qs.map d8),.int c]∧dU qs c M R Y
theorem rY{qs:List Rat}{c:Int}{M:Mem}{R:DK}{Y:DXK}:yt [.vl (qs.map d8),.int c] M R Y=(dU qs c M R Y):=propext ⟨fun z=>by obtain⟨_,_,_,_⟩:=z;walk_at "inj",fun h=>⟨qs,c,rfl,h⟩⟩
noncomputable def jW(qs:List Rat):Rat:=qs.foldr (· + ·) 0
abbrev aY(qs:List Rat)(M:Mem)(R:DK)(Y:DXK):Prop:=(qs.length≤60∧∀ q∈qs,sz q≤5000)∧R (d8 (jW qs)) M
def qF:DSp:=fun ds M R Y=>∃(qs:List Rat),ds=[.vl (qs.map d8)]∧aY qs M R Y
theorem mQ{qs:List Rat}{M:Mem}{R:DK}{Y:DXK}:qF [.vl (qs.map d8)] M R Y=(aY qs M R Y):=propext ⟨fun z=>by obtain⟨_,_,_⟩:=z;walk_at "inj",fun h=>⟨qs,rfl,h⟩⟩
abbrev Y2(y u z w:Rat)(M:Mem)(R:DK)(Y:DXK):Prop:=(sz y≤1200∧sz u≤1200∧sz z≤1200∧sz w≤1200)∧R (d8 (y*w - z*u)) M
def eF:DSp:=fun ds M R Y=>∃(y u z w:Rat),ds=[D5 y u,D5 z w]∧Y2 y u z w M R Y
theorem iK{y u z w:Rat}{M:Mem}{R:DK}{Y:DXK}:eF [D5 y u,D5 z w] M R Y=(Y2 y u z w M R Y):=propext ⟨fun z=>by obtain⟨_,_,_,_,_,_⟩:=z;walk_at "inj",fun h=>⟨y,u,z,w,rfl,h⟩⟩
abbrev eG(cs:List Zr)(M:Mem)(R:DK)(Y:DXK):Prop:=(cs.length≤60∧2≤cs.length∧∀ z∈cs,sz z.1≤1200∧sz z.2≤1200)∧R (d8 (a2 cs*(1 / 2))) M
def tV:DSp:=fun ds M R Y=>∃(cs:List Zr),ds=[.vl (cs.map rD)]∧eG cs M R Y
theorem sG{cs:List Zr}{M:Mem}{R:DK}{Y:DXK}:tV [.vl (cs.map rD)] M R Y=(eG cs M R Y):=propext ⟨fun z=>by obtain⟨_,_,_⟩:=z;walk_at "inj",fun h=>⟨cs,rfl,h⟩⟩
abbrev oi(cs:List Zr)(M:Mem)(R:DK)(Y:DXK):Prop:=(cs.length≤60∧2≤cs.length∧∀ z∈cs,sz z.1≤1200∧sz z.2≤1200)∧R (d8 (a2 cs*(1 / 2))) M
theorem uw(qs:List Rat):0<lcL qs:=by
 have:∀(xs:List Rat) (c:Nat),0<c→0<xs.foldl (fun c q=>u6 c q.den) c:=fun xs=>by
  induction xs with
  | nil=>exact fun c h=>h
  | cons x xs ih=>exact fun c h=>ih _ (by show 0<u6 c x.den;rw[G1];exact Ss h x.den_pos)
 exact this _ _ (by decide)
theorem Dt{qs:List Rat}{q:Rat}(h:q∈qs):q.den ∣ lcL qs:=by
 have up:∀(xs:List Rat) (c:Nat),c ∣ xs.foldl (fun c q=>u6 c q.den) c:=fun xs=>by
  induction xs with
  | nil=>exact fun c=>Nat.dvd_refl c
  | cons x xs ih=>exact fun c=>SQ (by show c ∣ u6 c x.den;rw[G1];exact RA _ _) (ih _)
 have:∀(xs:List Rat) (c:Nat),q∈xs→q.den ∣ xs.foldl (fun c q=>u6 c q.den) c:=fun xs=>by
  induction xs with
  | nil=>exact fun c h=>nomatch h
  | cons x xs ih =>
   intro c h
   rcases Pn.mp h with rfl|h
   ·exact SQ (by rw[G1];exact RS _ _) (up xs (u6 c q.den))
   ·exact ih _ h
 exact this _ _ h
theorem zJ:∀(qs:List Rat) (c n:Nat),(∀ q∈qs,sz q≤5000)→c<2 ^ n→qs.foldl (fun c q=>u6 c q.den) c<2 ^ (n+5000*qs.length):=fun qs=>by
 induction qs with
 | nil=>exact fun c n _ h=>h
 | cons q qs ih =>
  intro c n hq hc
  have hd:q.den<2 ^ 5000:=o8 q (hq q (.head _))
  have h1:u6 c q.den<2 ^ (n+5000):=by
   rw[G1,QZ]
   refine PV (Pu (QL _ _) (Py _)) ?_
   exact QW hc hd
  have:=ih _ _ (fun x hx=>hq x (.tail _ hx)) h1
  show qs.foldl (fun c q=>u6 c q.den) (u6 c q.den)<_
  rw[Pp]
  exact Pt this (Qj (by decide) (by omega))
theorem xW:∀(qs:List Rat) (N:Nat),0<N→(∀ q∈qs,q.den ∣ N)→Qu ((qs.map fun q=>q.num*((N / q.den:Nat):Int)).sum) N=jW qs:=fun qs=>by
 induction qs with
 | nil =>
  intro N hN _
  show Qu 0 N=0
  rw[Rat.zero_divInt]
 | cons q qs ih =>
  intro N hN hd
  rw[Qc,List.sum_cons]
  have e:=ih N hN fun x hx=>hd x (.tail _ hx)
  have n0:(N:Int)≠0:=by omega
  have e1:Qu (q.num*((N / q.den:Nat):Int)) N=q:=by
   obtain⟨k,rfl⟩:=hd q (.head _)
   rw[SR _ q.den_pos]
   have k0:(k:Int)≠0:=fun z=>by rw[RP,z]at n0;exact n0 (Uj _)
   rw[RP,Tu k0,Sy]
  show _=q+jW qs
  rw[← e]
  conv=>rhs;rw[← e1]
  rw[Rat.divInt_add_divInt _ _ n0 n0,← Int.add_mul,Tu n0]
theorem jD{ds:List D}{n:Nat}:P2 ds (some (n:Int)) none=ds.drop n:=by
 unfold P2
 rw[HT.Cr,HT.yz]
 by_cases h:n≤ds.length
 ·rw[Uz h,QI (by rw[Qh];omega)]
 ·rw[Up (by omega),Tc (by omega),Tc (by omega),List.take_nil]
theorem uS{cs:List Zr}:P2 (cs.map rD) (some 1) none++P2 (cs.map rD) none (some 1)=(cs.drop 1++cs.take 1).map rD:=by
 rw[show(some (1:Int))=some ((1:Nat):Int)from rfl,jD,cG,← Si,← RQ,← PQ]
theorem mI:∀(xs ys:List Zr),S9 (xs.map rD) (ys.map rD)=(xs.zip ys).map fun p=>D.tup [rD p.1,rD p.2]
 | [],_=>by cases ‹List Zr›<;>rfl
 | _ :: _,[]=>rfl
 | x :: xs,y :: ys=>by
  show D.tup [rD x,rD y] :: S9 (xs.map rD) (ys.map rD)=_
  rw[mI xs ys];rfl
noncomputable def lZ(cs:List Zr):List Rat:=(cs.zip (cs.drop 1++cs.take 1)).map fun p=>p.1.1*p.2.2 - p.2.1*p.1.2
theorem gf{cs:List Zr}(h:0<cs.length):(cs.drop 1++cs.take 1).length=cs.length:=by rw[PB,Qh,PX];omega
theorem Ig{cs:List Zr}(h:1<cs.length){i:Nat}(hi:i<cs.length):(lZ cs)[i]? = some (cr (nth cs i) (nth cs (i+1))):=by
 unfold lZ
 have hr:=gf (show 0<cs.length by omega)
 rw[PJ,PH (by rw[Qx,hr];omega),Rn]
 have e1:cs[i]=nth cs i:=(aA hi).symm
 have e2:(cs.drop 1++cs.take 1)[i]'(by omega)=nth cs (i+1):=by rw[← B3 cs h,aA (by omega)]
 show some (_*_ - _*_)=_
 rw[e1,e2]
 unfold cr
 congr 1
 grind
theorem xX:∀(qs:List Rat) (f:Nat→Rat),(∀ i,i<qs.length→qs[i]? = some (f i))→jW qs=C2 f qs.length:=fun qs=>by
 induction qs with
 | nil=>intro f _;rfl
 | cons q qs ih =>
  intro f h
  have h0:=h 0 (by simp)
  have h0:q=f 0:=by simpa using h0
  have:=ih (fun i=>f (i+1)) fun i hi=>by
   have:=h (i+1) (by simpa using hi)
   simpa using this
  show q+jW qs=_
  rw[this,Pp,Tr qs.length 1,fH]
  rw[show C2 f 1=f 0 by show(0:Rat)+f 0=f 0;grind,h0]
  congr 1
  exact R1 fun i _=>by rw[Tr]
theorem lY{cs:List Zr}(h:0<cs.length):(lZ cs).length=cs.length:=by unfold lZ;rw[Pj,Qx,gf h];omega
theorem Ih{cs:List Zr}(h:1<cs.length):jW (lZ cs)=a2 cs:=by
 rw[xX (lZ cs) (fun i=>cr (nth cs i) (nth cs (i+1))) fun i hi=>Ig h (by rw[lY (by omega)]at hi;exact hi),lY (by omega)];rfl
theorem Ie{cs:List Zr}(hz:∀ z∈cs,sz z.1≤1200∧sz z.2≤1200):∀ q∈lZ cs,sz q≤5000:=fun q hq=>by
 obtain⟨p,hp,rfl⟩:=Pm.mp hq
 have m1:=Rb hp
 have m2:p.2∈cs:=by
  rcases PL.mp m1.2 with h|h
  ·exact Ra h
  ·exact Qm h
 have a:=hz _ m1.1
 have b:=hz _ m2
 have c1:=RM.u9 p.1.1 p.2.2
 have c2:=RM.u9 p.2.1 p.1.2
 have c3:=RM.Q9 (p.1.1*p.2.2) (p.2.1*p.1.2)
 show sz (p.1.1*p.2.2 - p.2.1*p.1.2)≤5000
 omega
theorem GB:∀(qs:List Rat),(∀ q∈qs,sz q≤5000)→sz (jW qs)≤5001*qs.length+1:=fun qs=>by
 induction qs with
 | nil=>intro _;show sz 0≤_;rw[RM.X3];omega
 | cons q qs ih =>
  intro h
  have h1:=ih fun x hx=>h x (.tail _ hx)
  have h2:=h q (.head _)
  have h3:=RM.O4 q (jW qs)
  show sz (q+jW qs)≤_
  rw[Pp];omega
end GM
namespace GM
open PySem PySem.Spec L2 DL
open RM (sz)
local macro_rules|`(tactic| walk_at "inj")=>`(tactic| (rename_i e h;simp only[List.cons.injEq,GM.L6,GM.E8,GM.C7,and_true,true_and,GM.g8,GM.h9,GM.f9,GM.i3,GM.g5,D.tup.injEq,D.ref.injEq,D.int.injEq,D.str.injEq,D.bl.injEq,D.vl.injEq,PM,and_assoc]at e;(repeat(obtain⟨e1,e⟩:=e;subst e1));subst e;exact h))
local macro_rules|`(tactic| walk_at "injs")=>`(tactic| (rename_i e o h;rcases o with o|o<;>(subst o;first|(exfalso;simp only[D.tup.injEq,List.cons.injEq,reduceCtorEq,false_and,and_false]at e;done)|(simp only[List.cons.injEq,GM.L6,GM.E8,GM.C7,and_true,true_and,GM.g8,GM.h9,GM.f9,GM.i3,GM.g5,D.tup.injEq,D.ref.injEq,D.int.injEq,D.str.injEq,D.bl.injEq,D.vl.injEq,PM,and_assoc]at e;(repeat(obtain⟨e1,e⟩:=e;subst e1));subst e;exact h))))
noncomputable def evT:List T3→Rat
 | a :: b :: r=>((a.2.2 - a.2.1)+(b.2.2 - b.2.1))*(1 / 2)*(b.1 - a.1)+evT (b :: r)
 | _=>0
theorem rR{α:Type}(f:α→D):∀(xs ys:List α),S9 (xs.map f) (ys.map f)=(xs.zip ys).map fun p=>D.tup [f p.1,f p.2]
 | [],ys=>by cases ys<;>rfl
 | _ :: _,[]=>rfl
 | x :: xs,y :: ys=>by
  show D.tup [f x,f y] :: S9 (xs.map f) (ys.map f)=_
  rw[rR f xs ys];rfl
theorem Ay{α:Type}(f:α→D)(xs:List α):P2 (xs.map f) (some 1) none=(xs.drop 1).map f:=by
 rw[show(some (1:Int))=some ((1:Nat):Int)from rfl,jD,← Si]
noncomputable def evA(p:T3 × T3):Rat:=((p.1.2.2 - p.1.2.1)+(p.2.2.2 - p.2.2.1))*(1 / 2)*(p.2.1 - p.1.1)
noncomputable def evP(ps:List (T3 × T3)):Rat:=ps.foldl (fun c p=>c+evA p) 0
theorem Ai(ps:List (T3 × T3))(c:Rat):ps.foldl (fun c p=>c+evA p) c=c+evP ps:=by
 unfold evP
 induction ps generalizing c with
 | nil=>show c=c+0;grind
 | cons p ps ih =>
  show ps.foldl _ (c+evA p)=c+ps.foldl _ (0+evA p)
  rw[ih,ih (0+evA p)];grind
theorem Fw:∀(rs:List T3),evP (rs.zip (rs.drop 1))=evT rs
 | []=>rfl
 | [_]=>rfl
 | a :: b :: r=>by
  have ih:=Fw (b :: r)
  show(((a,b) :: (b :: r).zip r):List (T3 × T3)).foldl (fun c p=>c+evA p) 0=_
  show((b :: r).zip r).foldl (fun c p=>c+evA p) (0+evA (a,b))=_
  rw[Ai]
  have ih:evP ((b :: r).zip r)=evT (b :: r):=ih
  rw[ih]
  show 0+evA (a,b)+evT (b :: r)=evA (a,b)+evT (b :: r)
  grind
theorem HX{p:T3 × T3}(h1:sz p.1.1≤1200∧sz p.1.2.1≤2900∧sz p.1.2.2≤2900)(h2:sz p.2.1≤1200∧sz p.2.2.1≤2900∧sz p.2.2.2≤2900) :
  sz (p.1.2.2 - p.1.2.1)≤5801∧sz (p.2.2.2 - p.2.2.1)≤5801∧sz ((p.1.2.2 - p.1.2.1)+(p.2.2.2 - p.2.2.1))≤11603∧sz (((p.1.2.2 - p.1.2.1)+(p.2.2.2 - p.2.2.1))*(1 / 2))≤11606∧sz (p.2.1 - p.1.1)≤2401∧sz (evA p)≤14007:=by
 have a1:=RM.Q9 p.1.2.2 p.1.2.1
 have a2:=RM.Q9 p.2.2.2 p.2.2.1
 have a3:=RM.O4 (p.1.2.2 - p.1.2.1) (p.2.2.2 - p.2.2.1)
 have a4:=RM.u9 ((p.1.2.2 - p.1.2.1)+(p.2.2.2 - p.2.2.1)) (1 / 2)
 have a5:=lQ
 have a6:=RM.Q9 p.2.1 p.1.1
 have a7:=RM.u9 (((p.1.2.2 - p.1.2.1)+(p.2.2.2 - p.2.2.1))*(1 / 2)) (p.2.1 - p.1.1)
 refine⟨by omega,by omega,by omega,by omega,by omega,?_⟩
 unfold evA
 omega
theorem Fv{f:Rat→Rat × Rat}:∀(hs:List Rat),evn (fun h=>(f h).2 - (f h).1) hs*(1 / 2)=evT (hs.map fun h=>(h,f h))
 | []=>by show(0:Rat)*(1 / 2)=0;grind
 | [_]=>by show(0:Rat)*(1 / 2)=0;grind
 | a :: b :: r=>by
  have ih:=Fv (f:=f) (b :: r)
  show((b - a)*(((f a).2 - (f a).1)+((f b).2 - (f b).1))+evn (fun h=>(f h).2 - (f h).1) (b :: r))*(1 / 2)=(((f a).2 - (f a).1)+((f b).2 - (f b).1))*(1 / 2)*(b - a)+evT ((b :: r).map fun h=>(h,f h))
  rw[← ih];grind
end GM
namespace GM
open PySem PySem.Spec L2 DL
open RM (sz)
theorem Dr{bs:List (Str × Rat)}{l:T3}:∀{i:Nat},l∈C8 bs i ↔ ∃ j x,j<i∧bs[j]? = some x∧x.1 = "stop" ∧ l=((j7 (bs.take j) (1,0)).1,(j7 (bs.take j) (0,1)).1,x.2):=fun{i}=>by
 induction i with
 | zero =>
  constructor
  ·intro h;cases h
  ·rintro⟨j,_,h,_⟩;exact absurd h (Tp j)
 | succ i ih =>
  show l∈C8 bs i++_↔_
  rw[PL,ih]
  constructor
  ·rintro(⟨j,x,h1,h2⟩|h)
   ·exact⟨j,x,by omega,h2⟩
   ·cases e:bs[i]? with
    | none=>rw[e]at h;cases h
    | some x =>
     rw[e]at h
     by_cases c:x.1 = "stop"
     ·have h:l∈(if x.1 = "stop" then[_]else[]):=h
      rw[if_pos c]at h
      exact⟨i,x,by omega,e,c,PY.mp h⟩
     ·have h:l∈(if x.1 = "stop" then[_]else[]):=h
      rw[if_neg c]at h;cases h
  ·rintro⟨j,x,h1,h2,h3,h4⟩
   by_cases c:j<i
   ·exact .inl ⟨j,x,c,h2,h3,h4⟩
   ·obtain rfl:j=i:=by omega
    right
    rw[h2]
    show l∈(if x.1 = "stop" then[_]else[])
    rw[if_pos h3,h4]
    exact PY.mpr rfl
theorem JM(bs:List (Str × Rat)):B2 bs 0=C8 bs bs.length:=by
 unfold B2
 conv=>rhs;rw[← List.map_id (C8 bs bs.length)]
 refine RB fun l _=>?_
 show(l.1,l.1*0+l.2.1,l.2.2)=l
 rw[show l.1*0+l.2.1=l.2.1 by grind]
theorem uV{cs:List Zr}(hn:cs≠[])(h:Chn cs):2≤cs.length:=by
 match cs,hn with
 | [],hn=>exact absurd rfl hn
 | [a],_ =>
  have:=h.cr 0
  have e1:nth [a] 0=a:=rfl
  have e2:nth [a] (0+1)=a:=by simp[nth]
  rw[e1,e2]at this
  unfold cr at this
  grind
 | _ :: _ :: _,_=>exact UA 2 _
structure BnL(ls:List T3):Prop where
 ok:∀ l∈ls,LineOk l
 lsk:qb ls
 bd:∀ cs,C3 ls=some cs→cs.length≤50∧2≤cs.length∧∀ z∈cs,sz z.1≤1177∧sz z.2≤1177
theorem jZ{bs:List (Str × Rat)}{x:Rat}(hl:bs.length≤12)(hok:∀ x∈bs,B6 x)(hx:sz x≤41):BnL (B2 bs x):=by
 have hso:=P7 hl hok hx
 have hlo:∀ l∈B2 bs x,LineOk l:=fun l h=>(hso l h).1.toLineOk
 refine⟨hlo,tR hl hok hx,fun cs ec=>?_⟩
 obtain⟨hcl,hcz⟩:=rC hlo (fun l h=>(hso l h).2.2) ec
 have h12:(B2 bs x).length≤12:=Pu (cj bs x) hl
 have C:=(mi hlo ec).1
 exact⟨by omega,uV C.ne C.chn,hcz⟩
theorem qW{bs:List (Str × Rat)}(hl:bs.length≤12)(hok:∀ x∈bs,B6 x):BnL (C8 bs bs.length):=by
 have:=jZ (x:=0) hl hok (by rw[RM.X3];decide)
 rwa [JM]at this
theorem vz{bs:List (Str × Rat)}{x:Rat}{cs ds:List Zr}(hl:bs.length≤12)(hok:∀ x∈bs,B6 x)(hx:sz x≤41)(e:C3 (B2 bs x)=some ds)(ea:a2 ds=a2 cs):(cZ (B2 bs x) ds).length≤60∧(∀ r∈cZ (B2 bs x) ds,sz r.1≤1200∧sz r.2.1≤2900∧sz r.2.2≤2900)∧evT (cZ (B2 bs x) ds)=a2 cs*(1 / 2):=by
 have B:=jZ hl hok hx
 have hso:=P7 hl hok hx
 obtain⟨b1,_,b3⟩:=B.bd ds e
 have fo:=gJ B.ok e
 unfold cZ
 refine⟨?_,fun r hr=>?_,?_⟩
 ·rw[Pj]
  exact Pu (Pu (gg (ds.map (·.1))) (by rw[Pj];exact Py _)) (Pu b1 (by decide))
 ·obtain⟨h,hh,rfl⟩:=Pm.mp hr
  obtain⟨lo,hi,c⟩:=fo.cone h hh
  obtain⟨z,hz,rfl⟩:=(fo.mem h).mp hh
  have z1:=(b3 z hz).1
  have:=DQ (fun l hl=>(hso l hl).2.1) z1 c
  dsimp only
  rw[Q8 c]
  exact⟨by omega,by dsimp only;omega,by dsimp only;omega⟩
 ·rw[← Fv,← Ah B.ok e,ea]
noncomputable def zk(z:Rat × Rat):dJ:=([z.1.num,(z.1.den:Int)],[z.2.num,(z.2.den:Int)])
theorem yI{q r:Rat}(h1:q.num=r.num)(h2:(q.den:Int)=(r.den:Int)):q=r:=Rat.ext h1 (by omega)
theorem wt{z w:Rat × Rat}(h:zk z=zk w):z=w:=by
 unfold zk at h
 injection h with h1 h2
 injection h1 with a h1
 injection h1 with b _
 injection h2 with c h2
 injection h2 with d _
 exact Prod.ext (yI a b) (yI c d)
def ID(ws:List (Rat × Rat)):Prop:=ws.Pairwise fun a b=>lt2 (zk a) (zk b)=true
theorem yD{xs ys:List (Rat × Rat)}(hx:ID xs)(hy:ID ys)(h:∀ z,z∈xs↔z∈ys):xs=ys:=by
 have e:=om (xs.map zk) (ys.map zk) (QJ.mpr hx) (QJ.mpr hy) fun k=>by
  rw[Pm,Pm]
  exact⟨fun⟨z,a,b⟩=>⟨z,(h z).mp a,b⟩,fun⟨z,a,b⟩=>⟨z,(h z).mpr a,b⟩⟩
 exact(Qz fun _ _=>wt).mp e
theorem oZ{K:Pg}{H:Hp}:∀{vs:List V} {zs:List (Rat × Rat)},HasL K H vs (zs.map rD)→Z6 K H vs (zs.map zk)
 | _,[],h=>by cases h;exact .nil
 | _,z :: zs,h=>by
  cases h with
  | cons h t =>
  have r:=oZ (zs:=zs) t
  cases h with
  | tup s1 l1 =>
  cases l1 with
  | cons g1 l1 =>
  cases l1 with
  | cons g2 l1 =>
  cases l1
  cases g1 with
  | tup s2 l2 =>
  cases l2 with
  | cons i1 l2 =>
  cases l2 with
  | cons i2 l2 =>
  cases l2
  cases i1
  cases i2
  cases g2 with
  | tup s3 l3 =>
  cases l3 with
  | cons j1 l3 =>
  cases l3 with
  | cons j2 l3 =>
  cases l3
  cases j1
  cases j2
  exact .cons s1 s2 s3 r
def Mp:DRC:=fun ds M R=>∃(x:D) (zs:List (Rat × Rat)),ds=[x]∧N0 M x=some (zs.map rD)∧2≤zs.length∧zs.length<64∧zs.Nodup ∧
 ∀ ws:List (Rat × Rat),ws.Perm zs→ID ws→∀ p,M p=none→R (.ref p) (A8 M p (.lst (ws.map rD)))
theorem uC{K:Pg}{H:Hp}:∀{vs:List V} {ds:List D},HasL K H vs ds→∀ i,i<vs.length→Has K H (vs.getD i .non) (ds.getD i .non)
 | _,_,.nil,i,hi=>absurd hi (by simp)
 | _,_,.cons a _,0,_=>a
 | _,_,.cons _ b,i+1,hi=>uC b i (by simpa using hi)
theorem vW{K:Pg}{H:Hp}{vs:List V}{ds:List D}(h:HasL K H vs ds):∀{is:List Nat},(∀ i∈is,i<vs.length)→HasL K H (is.map fun i=>vs.getD i .non) (is.map fun i=>ds.getD i .non):=fun{is} hi=>by
 induction is with
 | nil=>exact .nil
 | cons i is ih=>exact .cons (uC h i (hi i (.head _))) (ih fun j hj=>hi j (.tail _ hj))
theorem jK{X:Cx}(hu:X.A.units+64<cLine):Z7 X (.builtin "sorted") Mp:=A4.imp (rq hu) fun xs H Q ⟨ds,M,R,hl,am,⟨x,zs,z,hi,l2,l64,nd,h⟩,f⟩=>by
 subst z
 obtain⟨v,rfl,hv⟩:=hl.one
 obtain⟨a,us,rfl,sq,lx⟩:=B4 am hv hi
 have len:us.length=zs.length:=by rw[lx.length,Pj]
 refine⟨a,us,zs.map zk,rfl,sq,oZ lx,by omega,by omega,?_,fun is hp hr p hn=>?_⟩
 ·exact QJ.mpr (nd.imp fun h e=>h (wt e))
 have hlt:∀ i∈is,i<zs.length:=fun i hi=>by rw[← len];simpa using hp.mem_iff.mp hi
 have e1:(is.map fun i=>(zs.map rD).getD i .non)=(is.map fun i=>zs.getD i (0,0)).map rD:=by
  rw[Qw]
  refine RB fun i hi=>?_
  have:=hlt i hi
  simp[this]
 have e2:(is.map fun i=>(zs.map zk).getD i ([],[]))=(is.map fun i=>zs.getD i (0,0)).map zk:=by
  rw[Qw]
  refine RB fun i hi=>?_
  have:=hlt i hi
  simp[this]
 have e3:((QM zs.length).map fun i=>zs.getD i (0,0))=zs:=by
  refine Rz (by simp) fun i h1 h2=>?_
  simp[h2]
 rw[e2]at hr
 refine f _ _ (h (is.map fun i=>zs.getD i (0,0)) ?_ (QJ.mp hr) p (am.fresh hn)) _ _ (KT.alloc hn) (am.new hn ?_) (.ref p)
 ·rw[len]at hp
  have:=hp.map fun i=>zs.getD i (0,0)
  rwa [e3]at this
 ·rw[← e1]
  exact vW lx fun i hi=>by rw[len];exact hlt i hi
noncomputable def fl(z:Zr):Zr:=(z.1,-z.2)
theorem jI{cs:List Zr}(h:Chn cs):cs.Nodup:=by
 refine Rt.mpr fun i j hi hj hij=>?_
 have:=h.nd i j hij hj
 rwa [aA hi,aA hj]at this
theorem EB{z:Rat × Rat}{M:Mem}{R:DK}:gIx (rD z) (.int 0) M R=R (d8 z.1) M:=T5
theorem EA{z:Rat × Rat}{M:Mem}{R:DK}:gIx (rD z) (.int 1) M R=R (d8 z.2) M:=T0
local macro_rules|`(tactic| walk_at "inj")=>`(tactic| (rename_i e h;simp only[List.cons.injEq,GM.E8,GM.C7,and_true,true_and,GM.g8,GM.h9,GM.f9,GM.i3,GM.g5,D.tup.injEq,D.ref.injEq,D.int.injEq,D.str.injEq,D.bl.injEq,D.vl.injEq,PM,and_assoc]at e;(repeat(obtain⟨e1,e⟩:=e;subst e1));subst e;exact h))
local macro_rules|`(tactic| walk_at "injs")=>`(tactic| (rename_i e o h;rcases o with o|o<;>(subst o;first|(exfalso;simp only[D.tup.injEq,List.cons.injEq,reduceCtorEq,false_and,and_false]at e;done)|(simp only[List.cons.injEq,GM.E8,GM.C7,and_true,true_and,GM.g8,GM.h9,GM.f9,GM.i3,GM.g5,D.tup.injEq,D.ref.injEq,D.int.injEq,D.str.injEq,D.bl.injEq,D.vl.injEq,PM,and_assoc]at e;(repeat(obtain⟨e1,e⟩:=e;subst e1));subst e;exact h))))
end GM
namespace GM
open PySem PySem.Spec L2 DL
open RM (sz)
noncomputable def sbL(a b c d:Rat)(l:T3):T3:=(l.1*d - l.2.1*c,l.2.1*a - l.1*b,l.2.2)
theorem fT{a b c d:Rat}(dt:a*d - b*c=1)(l:T3)(z:Zr):(sbL a b c d l).1*(lmZ a b c d z).1+(sbL a b c d l).2.1*(lmZ a b c d z).2=l.1*z.1+l.2.1*z.2:=by
 show(l.1*d - l.2.1*c)*(a*z.1+b*z.2)+(l.2.1*a - l.1*b)*(c*z.1+d*z.2)=_
 have e:(l.1*d - l.2.1*c)*(a*z.1+b*z.2)+(l.2.1*a - l.1*b)*(c*z.1+d*z.2)=(a*d - b*c)*(l.1*z.1+l.2.1*z.2):=by grind
 rw[e,dt,TF]
theorem dP{a b c d:Rat}(dt:a*d - b*c=1)(ls:List T3)(z:Zr):o6 ls z.1 z.2=o6 (ls.map (sbL a b c d)) (lmZ a b c d z).1 (lmZ a b c d z).2:=by
 refine gQ ?_
 rw[Q1,Q1]
 constructor
 ·intro h l hl
  obtain⟨m,hm,rfl⟩:=Pm.mp hl
  rw[fT dt];exact h m hm
 ·intro h l hl
  have:=h _ (Pm.mpr ⟨l,hl,rfl⟩)
  rw[fT dt]at this;exact this
theorem fU{a b c d:Rat}(dt:a*d - b*c=1)(ls:List T3):q9 (ls.map (sbL a b c d))↔q9 ls:=by
 unfold q9
 have e:∀ m n:T3,(sbL a b c d m).1*(sbL a b c d n).2.1 - (sbL a b c d n).1*(sbL a b c d m).2.1=m.1*n.2.1 - n.1*m.2.1:=fun m n=>by
  show(m.1*d - m.2.1*c)*(n.2.1*a - n.1*b) - (n.1*d - n.2.1*c)*(m.2.1*a - m.1*b)=_
  have:(m.1*d - m.2.1*c)*(n.2.1*a - n.1*b) - (n.1*d - n.2.1*c)*(m.2.1*a - m.1*b)=(a*d - b*c)*(m.1*n.2.1 - n.1*m.2.1):=by grind
  rw[this,dt,TF]
 constructor
 ·intro h m hm n hn
  have:=h _ (Pm.mpr ⟨m,hm,rfl⟩) _ (Pm.mpr ⟨n,hn,rfl⟩)
  have:=e m n
  grind
 ·intro h x hx y hy
  obtain⟨m,hm,rfl⟩:=Pm.mp hx
  obtain⟨n,hn,rfl⟩:=Pm.mp hy
  have:=h m hm n hn
  have:=e m n
  grind
theorem JQ{a b c d p q:Rat}(dt:a*d - b*c=1)(h1:p*d - q*c=0)(h2:q*a - p*b=0):p=0∧q=0:=by
 have e1:p*(a*d - b*c)=(p*d - q*c)*a+(q*a - p*b)*c:=by grind
 have e2:q*(a*d - b*c)=(q*a - p*b)*d+(p*d - q*c)*b:=by grind
 rw[dt,h1,h2]at e1 e2
 exact⟨by grind,by grind⟩
theorem jh{a b c d:Rat}(dt:a*d - b*c=1){ls:List T3}(hl:∀ l∈ls,LineOk l):∀ l∈ls.map (sbL a b c d),LineOk l:=fun l h=>by
 obtain⟨m,hm,rfl⟩:=Pm.mp h
 exact⟨fun⟨h1,h2⟩=>(hl m hm).ne (JQ dt h1 h2),(hl m hm).pos⟩
theorem GH{a b c d:Rat}(dt:a*d - b*c=1){ls:List T3}(hl:∀ l∈ls,LineOk l):(C3 ls=none∧C3 (ls.map (sbL a b c d))=none) ∨
  ∃ cs ds,C3 ls=some cs∧C3 (ls.map (sbL a b c d))=some ds∧cs.Nodup∧ds.Nodup∧¬ q9 ls∧(∀ w,w∈cs.map (lmZ a b c d)↔w∈ds)∧a2 ds=a2 cs:=by
 rcases aI hl with⟨e1,al⟩|⟨cs,e1,n1,c1⟩
 ·rcases aI (jh dt hl)with⟨e2,_⟩|⟨ds,e2,n2,c2⟩
  ·exact .inl ⟨e1,e2⟩
  ·exact absurd ((fU dt ls).mpr al) n2
 ·rcases aI (jh dt hl)with⟨e2,al⟩|⟨ds,e2,n2,c2⟩
  ·exact absurd ((fU dt ls).mp al) n1
  ·have key:=mh (jh dt hl) hl (a:=a) (b:=b) (c:=c) (d:=d) (by grind) (dP dt ls) c2 c1
   have ar:=AB (jh dt hl) hl (a:=a) (b:=b) (c:=c) (d:=d) (by grind) (dP dt ls) c2 c1
   refine .inr ⟨cs,ds,e1,e2,jI c1.chn,jI c2.chn,n1,fun w=>?_,by rw[dt,TF]at ar;exact ar.symm⟩
   rw[Pm]
   constructor
   ·rintro⟨z,hz,rfl⟩
    exact(key z).mp hz
   ·intro hw
    have ew:=bJ (a:=a) (b:=b) (c:=c) (d:=d) (by grind) w
    exact⟨lmB a b c d w,(key _).mpr (by rw[ew];exact hw),ew⟩
theorem Cp{a b c d p q:Rat}(dt:a*d - b*c=1){ls:List T3}(hl:∀ l∈ls,LineOk l)(na:¬ q9 ls) :
  ∃ v z sh z' sh',bH ls p q = .most v z sh∧bH (ls.map (sbL a b c d)) (p*d - q*c) (q*a - p*b) = .most v z' sh':=by
 have M1:=ju hl p q
 have M2:=ju (jh dt hl) (p*d - q*c) (q*a - p*b)
 cases e1:bH ls p q with
 | free z=>exact absurd (M1.free z e1).2.1 na
 | most v z sh =>
  cases e2:bH (ls.map (sbL a b c d)) (p*d - q*c) (q*a - p*b)with
  | free z'=>exact absurd ((fU dt ls).mp (M2.free z' e2).2.1) na
  | most v' z' sh' =>
   obtain⟨h1,h2,h3,_⟩:=M1.most v z sh e1
   obtain⟨g1,g2,g3,_⟩:=M2.most v' z' sh' e2
   have wv:∀ w:Zr,(p*d - q*c)*(lmZ a b c d w).1+(q*a - p*b)*(lmZ a b c d w).2=p*w.1+q*w.2:=fun w=>fT dt (p,q,0) w
   have le1:v≤v':=by
    have:=g3 _ _ ((dP dt ls z).symm.trans h1)
    rw[wv z]at this
    rw[h2];exact this
   have le2:v'≤v:=by
    have ew:=bJ (a:=a) (b:=b) (c:=c) (d:=d) (by grind) z'
    have hw:o6 ls (lmB a b c d z').1 (lmB a b c d z').2=true:=by rw[dP dt,ew];exact g1
    have:=h3 _ _ hw
    rw[← wv,ew]at this
    rw[g2];exact this
   obtain rfl:v=v':=Rat.le_antisymm le1 le2
   exact⟨v,z,sh,z',sh',rfl,rfl⟩
structure vc(x:Str × Rat):Prop where
 ok:B6 x
 s:sz x.2≤6
structure Bn6(bs:List (Str × Rat)):Prop where
 len:bs.length≤9
 ok:∀ x∈bs,vc x
theorem Bn6.pk{bs:List (Str × Rat)}(h:Bn6 bs):∀ x∈bs,B6 x:=fun x hx=>(h.ok x hx).ok
theorem Bn6.take{bs:List (Str × Rat)}(h:Bn6 bs)(k:Nat):Bn6 (bs.take k):=⟨by rw[PX];have:=h.len;omega,fun x hx=>h.ok x (Qm hx)⟩
theorem CV{bs:List (Str × Rat)}(h:Bn6 bs):CD 64 (j7 bs (1,0)).1 (j7 bs (0,1)).1 (j7 bs (1,0)).2 (j7 bs (0,1)).2:=by
 have gen:∀(bs:List (Str × Rat)) (S:Nat) (a b c d:Rat),(∀ x∈bs,vc x)→CD S a b c d→CD (S+7*bs.length) (j7 bs (a,c)).1 (j7 bs (b,d)).1 (j7 bs (a,c)).2 (j7 bs (b,d)).2:=by
  intro bs
  induction bs with
  | nil=>intro S a b c d _ h;exact h.mono (by simp)
  | cons x r ih =>
   intro S a b c d hb h
   have h1:=h.led5 (hb x Po).s
   have h2:=ih _ _ _ _ _ (fun z hz=>hb z (Pk _ hz)) h1
   exact h2.mono (by simp only[Pp];omega)
 exact(gen bs 1 1 0 0 1 h.ok CD.one).mono (by have:=h.len;omega)
structure wo(a b c d:Rat):Prop where
 a:sz a≤64
 b:sz b≤64
 c:sz c≤64
 d:sz d≤64
theorem ug{bs:List (Str × Rat)}(h:Bn6 bs):wo (j7 bs (1,0)).1 (j7 bs (0,1)).1 (j7 bs (1,0)).2 (j7 bs (0,1)).2:=by
 obtain⟨a,b,c,d⟩:=(CV h).t4
 exact⟨a,b,c,d⟩
theorem ur{bs:List (Str × Rat)}(h:Bn6 bs):∀ l∈C8 bs bs.length,LSz 64 l:=fun l hl=>by
 obtain⟨j,x,_,hx,_,rfl⟩:=Dr.mp hl
 have t:=ug (h.take j)
 exact⟨t.a,t.b,by have:=(h.ok x (Px hx)).s;show sz x.2≤64;omega⟩
theorem yn{a b c d:Rat}{l:T3}(t:wo a b c d)(h:LSz 64 l):sz (l.1*d)≤128∧sz (l.2.1*c)≤128∧sz (l.2.1*a)≤128∧sz (l.1*b)≤128∧LSz 257 (sbL a b c d l):=by
 obtain⟨t1,t2,t3,t4⟩:=t
 obtain⟨h1,h2,h3⟩:=h
 have a1:=RM.u9 l.1 d
 have a2:=RM.u9 l.2.1 c
 have a3:=RM.u9 l.2.1 a
 have a4:=RM.u9 l.1 b
 have a5:=RM.Q9 (l.1*d) (l.2.1*c)
 have a6:=RM.Q9 (l.2.1*a) (l.1*b)
 exact⟨by omega,by omega,by omega,by omega,by show sz (l.1*d - l.2.1*c)≤257;omega,by show sz (l.2.1*a - l.1*b)≤257;omega,by show sz l.2.2≤257;omega⟩
theorem zH{bs:List (Str × Rat)}(h:Bn6 bs):cK (C8 bs bs.length):=by
 have hl:=h.len
 refine⟨Pu (Q0 bs bs.length) (by omega),fun l hl=>?_⟩
 have B:=qW (show bs.length≤12 by omega) h.pk
 obtain⟨a,b,c⟩:=ur h l hl
 exact L28.mk3 (B.ok l hl) (by omega) (by omega) (by omega)
theorem LW{bs:List (Str × Rat)}(h:Bn6 bs){a b c d:Rat}(dt:a*d - b*c=1)(t:wo a b c d):cK ((C8 bs bs.length).map (sbL a b c d)):=by
 have L:=zH h
 refine⟨by rw[Pj];exact L.1,fun l hl=>?_⟩
 have ok:=jh dt L.lo l hl
 obtain⟨m,hm,rfl⟩:=Pm.mp hl
 obtain⟨x,y,z⟩:=(yn t (ur h m hm)).2.2.2.2
 exact L28.mk3 ok (by omega) (by omega) (by omega)
theorem Lo{bs:List (Str × Rat)}(h:Bn6 bs){cs:List Zr}(e:C3 (C8 bs bs.length)=some cs):cs.length≤40∧2≤cs.length∧∀ z∈cs,sz z.1≤385∧sz z.2≤385:=by
 have L:=zH h
 obtain⟨h1,h2⟩:=rC (n:=192) L.lo (fun l hl=>by obtain⟨x,y,z⟩:=ur h l hl;exact uW (m:=64) x y z) e
 have C:=(mi L.lo e).1
 have:=Q0 bs bs.length
 have:=h.len
 exact⟨by omega,uV C.ne C.chn,h2⟩
theorem Ks{a b c d:Rat}(t:wo a b c d){z:Zr}(h:sz z.1≤385∧sz z.2≤385):sz (lmZ a b c d z).1≤1200∧sz (lmZ a b c d z).2≤1200:=by
 obtain⟨t1,t2,t3,t4⟩:=t
 have a1:=RM.u9 a z.1
 have a2:=RM.u9 b z.2
 have a3:=RM.u9 c z.1
 have a4:=RM.u9 d z.2
 have a5:=RM.O4 (a*z.1) (b*z.2)
 have a6:=RM.O4 (c*z.1) (d*z.2)
 exact⟨by show sz (a*z.1+b*z.2)≤_;omega,by show sz (c*z.1+d*z.2)≤_;omega⟩
def Ee(M:Mem)(q:Addr):Prop:=∃ n:Int,M q=some (.lst [.int n])
noncomputable def evS(ps:List (T3 × T3)):Rat:=ps.foldl (fun c p=>c+(p.2.1 - p.1.1)*((p.1.2.2 - p.1.2.1)+(p.2.2.2 - p.2.2.1))) 0
theorem KW(ps:List (T3 × T3)):evS ps*(1 / 2)=evP ps:=by
 have g:∀(ps:List (T3 × T3)) (c:Rat),(ps.foldl (fun c p=>c+(p.2.1 - p.1.1)*((p.1.2.2 - p.1.2.1)+(p.2.2.2 - p.2.2.1))) c)*(1 / 2)=ps.foldl (fun c p=>c+evA p) (c*(1 / 2)):=fun ps=>by
  induction ps with
  | nil=>intro c;rfl
  | cons p ps ih =>
   intro c
   show(ps.foldl _ (c+(p.2.1 - p.1.1)*((p.1.2.2 - p.1.2.1)+(p.2.2.2 - p.2.2.1))))*(1 / 2)=ps.foldl _ (c*(1 / 2)+evA p)
   rw[ih]
   congr 1
   unfold evA
   grind
 have:=g ps 0
 rw[show(0:Rat)*(1 / 2)=0 by grind]at this
 exact this
theorem KU(rs:List T3):evS (rs.zip (rs.drop 1))*(1 / 2)=evT rs:=by rw[KW,Fw]
local macro_rules|`(tactic| walk_at "inj")=>`(tactic| (rename_i e h;simp only[List.cons.injEq,GM.E8,GM.C7,and_true,true_and,GM.g8,GM.h9,GM.f9,GM.i3,GM.g5,D.tup.injEq,D.ref.injEq,D.int.injEq,D.str.injEq,D.bl.injEq,D.vl.injEq,PM,and_assoc]at e;(repeat(obtain⟨e1,e⟩:=e;subst e1));subst e;exact h))
local macro_rules|`(tactic| walk_at "injs")=>`(tactic| (rename_i e o h;rcases o with o|o<;>(subst o;first|(exfalso;simp only[D.tup.injEq,List.cons.injEq,reduceCtorEq,false_and,and_false]at e;done)|(simp only[List.cons.injEq,GM.E8,GM.C7,and_true,true_and,GM.g8,GM.h9,GM.f9,GM.i3,GM.g5,D.tup.injEq,D.ref.injEq,D.int.injEq,D.str.injEq,D.bl.injEq,D.vl.injEq,PM,and_assoc]at e;(repeat(obtain⟨e1,e⟩:=e;subst e1));subst e;exact h))))
abbrev dZ(p:Addr)(M:Mem)(R:DK)(Y:DXK):Prop:=E2 M p∧∀(q:Rat) M',sz q≤6→K7 p M M'→R (d8 q) M'
def tS:DSp:=fun ds M R Y=>∃(p:Addr),ds=[.ref p]∧dZ p M R Y
theorem sk{p:Addr}{M:Mem}{R:DK}{Y:DXK}:tS [.ref p] M R Y=(dZ p M R Y):=propext ⟨fun z=>by obtain⟨_,_,_⟩:=z;walk_at "inj",fun h=>⟨p,rfl,h⟩⟩
abbrev X9(p q:Addr)(M:Mem)(R:DK)(Y:DXK):Prop:=(p≠q∧E2 M p∧Ee M q)∧∀ x M',vc x→E2 M' p→Ee M' q→R (m8 x) M'
def kN:DSp:=fun ds M R Y=>∃(p q:Addr),ds=[.ref p,.ref q]∧X9 p q M R Y
theorem iG{p q:Addr}{M:Mem}{R:DK}{Y:DXK}:kN [.ref p,.ref q] M R Y=(X9 p q M R Y):=propext ⟨fun z=>by obtain⟨_,_,_,_⟩:=z;walk_at "inj",fun h=>⟨p,q,rfl,h⟩⟩
abbrev dX(rs:List T3)(M:Mem)(R:DK)(Y:DXK):Prop:=(rs.length≤60∧∀ r∈rs,sz r.1≤1200∧sz r.2.1≤2900∧sz r.2.2≤2900)∧R (d8 (evT rs)) M
def yu:DSp:=fun ds M R Y=>∃(rs:List T3),ds=[.vl (rs.map h7)]∧dX rs M R Y
theorem si{rs:List T3}{M:Mem}{R:DK}{Y:DXK}:yu [.vl (rs.map h7)] M R Y=(dX rs M R Y):=propext ⟨fun z=>by obtain⟨_,_,_⟩:=z;walk_at "inj",fun h=>⟨rs,rfl,h⟩⟩
abbrev bf(a b c d:Rat)(ls:List T3)(M:Mem)(R:DK)(Y:DXK):Prop:=(ls.length≤12∧wo a b c d∧∀ l∈ls,LSz 64 l)∧R (.vl ((ls.map (sbL a b c d)).map h7)) M
def qI:DSp:=fun ds M R Y=>∃(a b c d:Rat) (ls:List T3),ds=[gY a b c d,.vl (ls.map h7)]∧bf a b c d ls M R Y
theorem mU{a b c d:Rat}{ls:List T3}{M:Mem}{R:DK}{Y:DXK}:qI [gY a b c d,.vl (ls.map h7)] M R Y=(bf a b c d ls M R Y):=propext ⟨fun z=>by obtain⟨_,_,_,_,_,_,_⟩:=z;walk_at "inj",fun h=>⟨a,b,c,d,ls,rfl,h⟩⟩
abbrev V8(bs:List (Str × Rat))(x g:Rat)(M:Mem)(R:DK)(Y:DXK):Prop:=(bs.length≤12∧(∀ x∈bs,B6 x)∧sz x≤41∧sz g≤2400)∧R (pN (B9 g (B2 bs x) none)) M
def kT:DSp:=fun ds M R Y=>∃(x0:D) (bs:List (Str × Rat)) (x g:Rat),ds=[x0,d8 x,d8 g]∧(x0 = .vl (bs.map m8)∨x0 = .tup (bs.map m8))∧V8 bs x g M R Y
theorem ni{bs:List (Str × Rat)}{x g:Rat}{M:Mem}{R:DK}{Y:DXK}:kT [.vl (bs.map m8),d8 x,d8 g] M R Y=(V8 bs x g M R Y):=propext ⟨fun z=>by obtain⟨_,_,_,_,_,_,_⟩:=z;walk_at "injs",fun h=>⟨_,bs,x,g,rfl,.inl rfl,h⟩⟩
theorem fb{bs:List (Str × Rat)}{x g:Rat}{M:Mem}{R:DK}{Y:DXK}:kT [.tup (bs.map m8),d8 x,d8 g] M R Y=(V8 bs x g M R Y):=propext ⟨fun z=>by obtain⟨_,_,_,_,_,_,_⟩:=z;walk_at "injs",fun h=>⟨_,bs,x,g,rfl,.inr rfl,h⟩⟩
abbrev bx(bs:List (Str × Rat))(ls:List T3)(r:D)(x:Rat)(M:Mem)(R:DK)(Y:DXK):Prop:=(Bn6 bs∧r=qP (C3 (C8 bs bs.length))∧sz x≤6)∧R (.bl true) M
def qN:DSp:=fun ds M R Y=>∃(bs:List (Str × Rat)) (ls:List T3) (r:D) (x:Rat),ds=[.vl (bs.map m8),.vl (ls.map h7),r,d8 x]∧bx bs ls r x M R Y
theorem nc{bs:List (Str × Rat)}{ls:List T3}{r:D}{x:Rat}{M:Mem}{R:DK}{Y:DXK}:qN [.vl (bs.map m8),.vl (ls.map h7),r,d8 x] M R Y=(bx bs ls r x M R Y):=propext ⟨fun z=>by obtain⟨_,_,_,_,_,_⟩:=z;walk_at "inj",fun h=>⟨bs,ls,r,x,rfl,h⟩⟩
abbrev bj(ls:List T3)(r:D)(a b c d p q:Rat)(M:Mem)(R:DK)(Y:DXK):Prop:=(∃ bs:List (Str × Rat),Bn6 bs∧ls=C8 bs bs.length∧r=qP (C3 ls)∧a*d - b*c=1∧wo a b c d∧sz p≤6∧sz q≤6)∧R (.bl true) M
def qK:DSp:=fun ds M R Y=>∃(ls:List T3) (r:D) (a b c d p q:Rat),ds=[.vl (ls.map h7),r,gY a b c d,d8 p,d8 q]∧bj ls r a b c d p q M R Y
theorem mX{ls:List T3}{r:D}{a b c d p q:Rat}{M:Mem}{R:DK}{Y:DXK}:qK [.vl (ls.map h7),r,gY a b c d,d8 p,d8 q] M R Y=(bj ls r a b c d p q M R Y):=propext ⟨fun z=>by obtain⟨_,_,_,_,_,_,_,_,_,_⟩:=z;walk_at "inj",fun h=>⟨ls,r,a,b,c,d,p,q,rfl,h⟩⟩
end GM
namespace K68
open PySem PySem.Spec L2 DL GM
open RM (sz)
open PyProof.Rows hiding St
local macro_rules|`(tactic| walk_at "sim")=>do
 let f:=fun(b:Bool) (p:String) (s:String)=>((s.splitOn " ").mapM (fun s=>(let i:=Lean.mkIdent (p++s).toName;if b then `(Lean.Parser.Tactic.simpLemma| ↓$i:ident)else `(Lean.Parser.Tactic.simpLemma| $i:ident))):Lean.MacroM _)
 let a := "z_C Jq Jo Jm Jn Jl Jk Jj xm Fc Fe Jp EL xH xv Js ET EM xE EG ER xG Jt xw EI xD EJ tD sS xl sT fD nk Fd EK xu Ff EO EN ES EV EU xx xF EH nA xt tw tE nq je nu sR xB xk jT EW EZ tJ EF sV xq xp ny tI tH sU tm sX sZ sY sW xr nv tu EY Fb xy xA Jr xI xo cS ff iS fg iR cR fc iQ fe iP cV fm iY fq iX cU fj iW fk iV cT fh iU fi iT cX fw jd fy jb cW ft ja fu iZ IY IX IW IV IU IT IS IQ IP IM En Em El Ji Jh Jg Jf Je Jd Jc Jb Ja IZ EE ED EC T5 T0 jS xj xi xh xg xf xc wZ wY wX wW wV wU wR Ez Ey Ex Ew Eu Et Es Er Ep Eo xC"
 let b := "nj iN sH wQ wO wN wM sL sJ sI sN sQ sP sO sG wL wK wJ wI iM ni fb sF iL iK wH nh eZ nc mZ mY sE iJ sD wG mX sC eY aP sA mW wF iH sr so sm sk wD sj iG mV si wC wB iF EB EA wA wy wx rZ mU iE mT eX aO eW iD iC cQ iB rY mS mR mQ rX rW rV mP mO rT cP cO mN iA mM rS mL mK mJ oi eG kZ kY kX kW Y3 V8 bz Y2 kS V7 bx bu br bo eE bj eD kQ M8 eC bh kP Y1 eA ey eo dZ kO dY X9 bg dX X8 bf bc V5 K8 R9 X7 P9 X6 dU ba aZ aY dS dR aX aW dQ"
 let xs:=((← f true "DL." a)++(← f true "GM." b)++(← f false "GM." b)++(← f false "DL." a)++(← f false "" "DL.BS DL.BM DL.BC DL.Bw DL.BU DL.BN DL.BD DL.Bx DL.BV DL.BO DL.BE DL.By DL.BW DL.BP DL.BF DL.Bz DL.BX DL.BQ DL.BG DL.BA DL.BY DL.BR DL.BH DL.BB DL.Bk DL.Bq DL.Bl DL.Br DL.Bm DL.Bs DL.Bn DL.Bt DL.Bo DL.Bu DL.Bp DL.Bv GM.BI GM.BJ GM.BK GM.BL DL.Gr DL.Gq DL.Gp DL.Gn DL.Gm DL.Gk DL.Gj DL.Gi DL.Gh DL.Bj DL.Bi DL.Bh Nat.reduceAdd Nat.reduceLT Nat.reduceLeDiff RF Int.reduceLT Int.reduceLE Int.reduceEq eq_self decide_true decide_false D.int.injEq D.str.injEq beq_self_eq_true and_self true_and and_true not_true_eq_false not_false_eq_true false_implies true_implies forall_const aH Qc QS Uq Ux Rp Pp Sn Ro pT List.getElem?_cons_zero List.getElem?_cons_succ Option.getD_some decide_eq_true_eq decide_eq_false_iff_not Bool.not_eq_true' Bool.not_eq_false' Bool.and_self TM Bool.and_true Bool.xor_false Bool.false_xor Bool.true_xor Bool.not_true Bool.not_false RI Bool.true_eq_false reduceIte GM.r0 GM.r1 GM.r2 GM.r4 GM.rm1 GM.rm2 GM.g8 GM.GU GM.JR GM.Fl GM.GS")).toArray
 `(tactic| try simp only[$xs,*])
local macro_rules|`(tactic| walk_at "fn")=>do
 let i:=fun(s:String)=>Lean.mkIdent s.toName
 let x:=(("f cdv A outer s H E ds M R Y hr h".splitOn " ").map i).toArray
 `(tactic| (refine $(i "i4") $(i "d") $(i "sc") (by walk_at "len") (fun $x*=>?_);have $(i "hu"):ident:=$(i "hr.units")))
local macro_rules|`(tactic| walk_at "len")=>`(tactic| (intro ds M R Y h;repeat(first|exact congrArg SK h.1|(obtain⟨_,h⟩:=h))))
local macro_rules|`(tactic| walk_at "size")=>`(tactic| first|omega|grind only[RM.u9,RM.O4,RM.Q9,RM.F7,RM.xV,RM.X3,GM.R0])
local macro_rules|`(tactic| walk_at "sc")=>`(tactic| exact⟨rfl,rfl,rfl,by decide +kernel,rfl,by decide +kernel,by decide +kernel⟩)
noncomputable def top(i:Nat):Stmt:=PySem.Challenge.pw_roundglass_k68_whole_area_stays_along_a.main.body.getD i (.Pass ⟨0,0,0,0⟩)
noncomputable abbrev R8:Stmt:=top 63
noncomputable abbrev cq:Stmt:=top 6
noncomputable abbrev au:Stmt:=top 5
noncomputable abbrev kB:Stmt:=top 7
noncomputable abbrev fV:Stmt:=top 31
noncomputable abbrev fY:Stmt:=top 37
noncomputable abbrev fZ:Stmt:=top 29
noncomputable abbrev M0:Stmt:=top 56
noncomputable abbrev J6:Stmt:=top 15
noncomputable abbrev B8:Stmt:=top 14
noncomputable abbrev O8:Stmt:=top 57
noncomputable abbrev kA:Stmt:=top 12
noncomputable abbrev kD:Stmt:=top 24
noncomputable abbrev qA:Stmt:=top 13
noncomputable abbrev fW:Stmt:=top 44
noncomputable abbrev af:Stmt:=top 55
noncomputable abbrev ah:Stmt:=top 9
noncomputable abbrev ak:Stmt:=top 8
noncomputable abbrev qz:Stmt:=top 10
noncomputable abbrev kC:Stmt:=top 11
noncomputable abbrev kG:Stmt:=top 23
noncomputable abbrev R5:Stmt:=top 58
noncomputable abbrev qy:Stmt:=top 32
noncomputable abbrev U6:Stmt:=top 35
noncomputable abbrev U7:Stmt:=top 33
noncomputable abbrev U5:Stmt:=top 34
noncomputable abbrev aj:Stmt:=top 30
noncomputable abbrev aw:Stmt:=top 36
noncomputable abbrev qB:Stmt:=top 59
noncomputable abbrev ay:Stmt:=top 64
noncomputable abbrev ax:Stmt:=top 65
noncomputable abbrev V4:Stmt:=top 67
noncomputable abbrev V3:Stmt:=top 70
noncomputable abbrev R7:Stmt:=top 66
noncomputable abbrev E7:Stmt:=top 72
noncomputable abbrev ky:Stmt:=top 16
noncomputable abbrev qE:Stmt:=top 53
noncomputable abbrev yo:Stmt:=top 21
noncomputable abbrev qC:Stmt:=top 17
noncomputable abbrev av:Stmt:=top 39
noncomputable abbrev P0:Stmt:=top 40
noncomputable abbrev cu:Stmt:=top 41
noncomputable abbrev I0:Stmt:=top 74
noncomputable abbrev V0:Stmt:=top 62
noncomputable abbrev P1:Stmt:=top 68
noncomputable abbrev R6:Stmt:=top 22
noncomputable abbrev O9:Stmt:=top 26
noncomputable abbrev ai:Stmt:=top 27
noncomputable abbrev U0:Stmt:=top 48
noncomputable abbrev fX:Stmt:=top 49
noncomputable abbrev ao:Stmt:=top 43
noncomputable abbrev U4:Stmt:=top 47
noncomputable abbrev qD:Stmt:=top 50
noncomputable abbrev D9:Stmt:=top 71
noncomputable abbrev O7:Stmt:=top 51
noncomputable abbrev kF:Stmt:=top 52
noncomputable abbrev E1:Stmt:=top 73
noncomputable abbrev U9:Stmt:=top 69
noncomputable abbrev U8:Stmt:=top 61
noncomputable abbrev yp:Stmt:=top 75
theorem ik:e9 ["script","bound","found","k"] ["script","bound"] (e7 R8):=by walk_at "sc"
theorem qw:e9 ["one","other"] ["one","other"] (e7 cq):=by walk_at "sc"
theorem nV:e9 ["thing"] ["thing"] (e7 au):=by walk_at "sc"
theorem yh:e9 ["top","bottom","share"] ["top","bottom"] (e7 kB):=by walk_at "sc"
theorem kc:e9 ["one","other"] ["one","other"] (e7 fV):=by walk_at "sc"
theorem vw:e9 ["one","other","bottom","y","u"] ["one","other"] (e7 fY):=by walk_at "sc"
theorem vx:e9 ["side","p","q","r","number","scale"] ["side"] (e7 fZ):=by walk_at "sc"
theorem dm:e9 ["half","wanted","rim","found","one","other"] ["half","wanted"] (e7 M0):=by walk_at "sc"
theorem R4:e9 ["ratios","bottom"] ["ratios","bottom"] (e7 J6):=by walk_at "sc"
theorem G9:e9 ["ratios","bottom","one"] ["ratios"] (e7 B8):=by walk_at "sc"
theorem fO:e9 ["half","p","q","bottom","wanted","one","other","of_one","of_other","whole","value","shares"] ["half","p","q"] (e7 O8):=by walk_at "sc"
theorem yg:e9 ["one","other"] ["one","other"] (e7 kA):=by walk_at "sc"
theorem yj:e9 ["ray","share"] ["ray","share"] (e7 kD):=by walk_at "sc"
theorem Cj:e9 ["one","other"] ["one","other"] (e7 qA):=by walk_at "sc"
theorem vq:e9 ["p","q","ray","y","u","top"] ["p","q","ray"] (e7 fW):=by walk_at "sc"
theorem nP:e9 ["p","q","ray","top","bottom"] ["p","q","ray"] (e7 af):=by walk_at "sc"
theorem nQ:e9 ["one"] ["one"] (e7 ah):=by walk_at "sc"
theorem nT:e9 ["one"] ["one"] (e7 ak):=by walk_at "sc"
theorem Ci:e9 ["one","other"] ["one","other"] (e7 qz):=by walk_at "sc"
theorem yi:e9 ["one","other"] ["one","other"] (e7 kC):=by walk_at "sc"
theorem ym:e9 ["one","other","y","u","z","w"] ["one","other"] (e7 kG):=by walk_at "sc"
theorem hZ:e9 ["lines","number","p","q","own_p","own_q","r","bend","share","value","ray"] ["lines","number","p","q"] (e7 R5):=by walk_at "sc"
theorem Cg:e9 ["one","other","third"] ["one","other","third"] (e7 qy):=by walk_at "sc"
theorem kl:e9 ["sides","here","found","side","bend"] ["sides","here"] (e7 U6):=by walk_at "sc"
theorem km:e9 ["one","other","more"] ["one","other"] (e7 U7):=by walk_at "sc"
theorem kj:e9 ["sides","found","side"] ["sides"] (e7 U5):=by walk_at "sc"
theorem nS:e9 ["lines","sides","number","line","scale","p","q","r","side"] ["lines"] (e7 aj):=by walk_at "sc"
theorem nX:e9 ["lines","sides","half","here"] ["lines"] (e7 aw):=by walk_at "sc"
theorem Ck:e9 ["lines","p","q","half"] ["lines","p","q"] (e7 qB):=by walk_at "sc"
theorem nZ:e9 ["top","bottom","one","other"] ["top","bottom"] (e7 ay):=by walk_at "sc"
theorem nY:e9 ["one","other"] ["one","other"] (e7 ax):=by walk_at "sc"
theorem kv:e9 ["one"] ["one"] (e7 V4):=by walk_at "sc"
theorem ku:e9 ["one","other"] ["one","other"] (e7 V3):=by walk_at "sc"
theorem ij:e9 ["one","other"] ["one","other"] (e7 R7):=by walk_at "sc"
theorem Y9:e9 ["table","lines","a","b","c","d","found","p","q","r"] ["table","lines"] (e7 E7):=by walk_at "sc"
theorem yf:e9 ["ratios","bottom"] ["ratios"] (e7 ky):=by walk_at "sc"
theorem Co:e9 ["rays","crosses"] ["rays"] (e7 qE):=by walk_at "sc"
theorem GF:e9 ["table","ray","a","b","c","d","y","u"] ["table","ray"] (e7 yo):=by walk_at "sc"
theorem Cm:e9 ["one","other"] ["one","other"] (e7 qC):=by walk_at "sc"
theorem nW:e9 ["one","other"] ["one","other"] (e7 av):=by walk_at "sc"
theorem fQ:e9 ["rays","place","number","ray"] ["rays"] (e7 P0):=by walk_at "sc"
theorem qx:e9 ["lines","half","rays"] ["lines"] (e7 cu):=by walk_at "sc"
theorem aV:e9 ["lines","rays","table","p","q","there","found","sight"] ["lines","rays","table","p","q"] (e7 I0):=by walk_at "sc"
theorem kr:e9 ["pool","base","digit","near","stir"] ["pool","base"] (e7 V0):=by walk_at "sc"
theorem fR:e9 ["pool"] ["pool"] (e7 P1):=by walk_at "sc"
theorem ig:e9 ["first","second"] ["first","second"] (e7 R6):=by walk_at "sc"
theorem fP:e9 ["part","ray","word","number","y","u"] ["part","ray"] (e7 O9):=by walk_at "sc"
theorem nR:e9 ["bench","first","second","part"] ["bench"] (e7 ai):=by walk_at "sc"
theorem ke:e9 ["line","h","p","q","r","middle","half"] ["line","h"] (e7 U0):=by walk_at "sc"
theorem vt:e9 ["lines","h","low","high","line","p","q","r","least","greatest"] ["lines","h"] (e7 fX):=by walk_at "sc"
theorem nU:e9 ["bench","lines","level","axis","part"] ["bench"] (e7 ao):=by walk_at "sc"
theorem ki:e9 ["bench","x"] ["bench","x"] (e7 U4):=by walk_at "sc"
theorem Cn:e9 ["bench","x","h"] ["bench","x","h"] (e7 qD):=by walk_at "sc"
theorem T8:e9 ["rows","found","one","other","wide"] ["rows"] (e7 D9):=by walk_at "sc"
theorem fN:e9 ["ratios","rising","one","lower"] ["ratios"] (e7 O7):=by walk_at "sc"
theorem yk:e9 ["bench","x","lines","rays","told","h","low","high"] ["bench","x"] (e7 kF):=by walk_at "sc"
theorem T9:e9 ["bench","lines","rays","x","rows"] ["bench","lines","rays","x"] (e7 E1):=by walk_at "sc"
theorem ko:e9 ["pool","stops","number","pick"] ["pool","stops"] (e7 U9):=by walk_at "sc"
theorem kn:e9 ["cell"] ["cell"] (e7 U8):=by walk_at "sc"
theorem GG:e9 ["script","cell","pool","stops","bench","lines","rays","x","table"] ["script"] (e7 yp):=by walk_at "sc"
structure Txt(K:Pg)(mg:Str→Option Value):Prop where
 b_abs:mg "abs" = none
 b_all:mg "all" = none
 b_bool:mg "bool" = none
 b_enumerate:mg "enumerate" = none
 b_int:mg "int" = none
 b_isinstance:mg "isinstance" = none
 b_len:mg "len" = none
 b_list:mg "list" = none
 b_max:mg "max" = none
 b_min:mg "min" = none
 b_range:mg "range" = none
 b_sorted:mg "sorted" = none
 b_sum:mg "sum" = none
 b_zip:mg "zip" = none
 sub:AW K
 c_AXIS_RAY:GlD K mg "AXIS_RAY" (.tup [(.tup [(.int 0),(.int 1)]),(.tup [(.int 1),(.int 1)])])
 c_HALF:GlD K mg "HALF" (.tup [(.int 1),(.int 2)])
 c_LEVEL_RAY:GlD K mg "LEVEL_RAY" (.tup [(.tup [(.int 1),(.int 1)]),(.tup [(.int 0),(.int 1)])])
 c_NOUGHT:GlD K mg "NOUGHT" (.tup [(.int 0),(.int 1)])
section
variable {P:Program} {w:World} {K:Pg} {mg:Str→Option Value} {base:Heap}
theorem iw(T:Txt K mg)(d:Df K mg "_law_cells" R8 ["script","bound"]):Fn P w K mg base "_law_cells" 1 ["script","bound"] kU:=by
 have sc:=ik
 walk_at "fn"
 obtain⟨xs,rfl,ns,rfl,hl,k⟩:=h
 refine⟨_,(d6 (jst 2 sc.nd (zQ (L0 (zR rfl T.b_list DU (a8 (A0 (a9 0) y4 (w6 (a9 1))) d4)) (G4 (a8 d5 d4))) y4 (w6 (v8 (FW rfl) rfl T.b_max AN (a8 d5 (a8 (v8 (Lu rfl) rfl T.b_min Io (a8 (a9 1) (a8 (v8 dg rfl T.b_len X0 (a8 (a9 0) d4)) d4))) d4)))))) (d6 (t7 PassesOwn.never rfl (zN rfl T.b_range (a8 (a9 1) (a8 (v8 dg rfl T.b_len X0 (a8 (a9 0) d4)) d4))) (jn 3 sc.nd) (d7 (t9 (f6 N8 (f6 i8 (jx (a9 2) (f6 Z3 (a9 3) (a9 1))) d5) (jx (a9 0) (a9 3))) (eQ (a9 2) (f6 Z3 (a9 3) (a9 1)))))) (d7 (e6 (W6 (W5 (a9 2))))))),?_⟩
 walk_at "sim"
 unfold dSl
 walk_at "sim"
 have l1:(ns.map D.int).length=ns.length:=Pj ..
 have e3:DL.P2 (ns.map D.int) none (some 3)=(ns.take 3).map D.int:=by rw[show(3:Int)=((3:Nat):Int)from rfl,cG,RQ]
 obtain⟨m,hm,hm1,hm2⟩:∃ m:Nat,max 1 (min 3 ((ns.map D.int).length:Int))=(m:Int)∧m≤3∧(3<ns.length→m=3):=⟨max 1 (min 3 ns.length),by rw[l1];omega,by omega,by omega⟩
 rw[e3,hm,show(ns.take 3).map D.int++[D.int 0]=(ns.take 3++[0]).map D.int by rw[PQ];rfl]
 refine⟨Pu (show _≤4 by rw[Pj,PX];omega) (by decide),?_⟩
 have hz:((ns.take 3++[0]).take m).length≤3∧(3<ns.length→((ns.take 3++[0]).take m).length=3):=by
  rw[PX,PB,PX]
  show min m (min 3 ns.length+1)≤3∧_
  exact⟨by omega,fun h=>by show min m (min 3 ns.length+1)=3;have:=hm2 h;omega⟩
 refine⟨_,rfl,fun p hp=>?_⟩
 rw[cG,← RQ]
 generalize (ns.take 3++[0]).take m=ms0 at *
 refine⟨by omega,?_⟩
 refine P4.by (fun i e M'=>(∃ z3:Option D,e=[some (D.vl (ns.map D.int)),some (D.int 3),some (D.ref p),z3])∧∃ ms:List Int,ms.length=ms0.length∧M'=A8 M p (.lst (ms.map D.int))) ⟨⟨_,rfl⟩,ms0,rfl,rfl⟩ (fun i e M' _ _=>trivial) ?_ ?_
 ·rintro i dd e M' hd ⟨⟨z3,rfl⟩,ms,hml,rfl⟩
  obtain⟨hi,rfl⟩:=vC hd
  have h3:ms.length=3:=by rw[hml];exact hz.2 (by omega)
  have hj:∃ j:Nat,((3:Int)+(i:Int)) % 3=(j:Int)∧j<3:=⟨((3+i) % 3),by omega,by omega⟩
  obtain⟨j,ej,hj⟩:=hj
  have hgj:ms[j]? = some (ms[j]'(by omega)):=PH (by omega)
  generalize ms[j]'(by omega)=v at hgj
  have hgi:ns[3+i]? = some (ns[3+i]'(by omega)):=PH (by omega)
  generalize ns[3+i]'(by omega)=w at hgi
  walk_at "sim"
  rw[ej]
  refine⟨_,G5 f8 (u0 (n:=j) (by rw[PJ,hgj];rfl)),?_⟩
  walk_at "sim"
  refine⟨IntMulOk.of_right (by decide),?_⟩
  rw[show(3:Int)+(i:Int)=((3+i:Nat):Int)by omega]
  refine⟨_,(show ixD _ (D.vl (ns.map D.int)) _=some (D.int w)from u0 (n:=3+i) (by rw[PJ,hgi];rfl)),?_⟩
  walk_at "sim"
  refine uZ (j:=j) f8 (by rw[Pj];omega) ⟨⟨_,rfl⟩,ms.set j (v*31+w),by rw[Us];exact hml,?_⟩
  rw[L9,List.map_set]
 ·rintro e M' ⟨⟨z3,rfl⟩,ms,hml,rfl⟩
  walk_at "sim"
  rw[fE f8,N3 hp]
  exact⟨_,fun _ _ h=>h,k ms (by omega)⟩
theorem qS(T:Txt K mg)(d:Df K mg "divisor" cq ["one","other"]):Fn P w K mg base "divisor" 1 ["one","other"] L5:=by
 have sc:=qw
 refine i4 d sc (fun ds M R Y h=>?_) (fun f cdv A outer s H E ds M R Y hr h=>?_)
 ·obtain⟨a,b,rfl,_⟩:=h;rfl
 ·obtain⟨a,b,rfl,k⟩:=h
  refine⟨_,(d6 (cB PassesOwn.never (jtm Kl (a9 1) d5) (d7 (eP (i:=0) (j:=1) rfl sc.nd rfl rfl (by decide) rfl rfl (a8 (a9 1) (a8 (f6 Z3 (a9 0) (a9 1)) d4))))) (d7 (e6 (a9 0)))),?_⟩
  refine⟨fun m e M'=>M'=M∧∃ u:Nat,e=[some (.int (u:Int)),some (.int (m:Int))]∧QD u m=QD a b,⟨b,rfl,a,rfl,rfl⟩,?_⟩
  rintro v e M' ⟨rfl,u,rfl,hg⟩
  refine⟨_,rfl,_,rfl,_,rfl,?_⟩
  refine Kw (fun h0=>?_) (fun h0=>?_)
  ·have hv:0<v:=by omega
   refine⟨_,rfl,_,rfl,_,rfl,_,_,rfl,rfl,by omega,_,_,rfl,?_⟩
   exact⟨u % v,Rg _ hv,rfl,v,rfl,by rw[← RM.pz u v (by omega)];exact hg⟩
  ·have hv:v=0:=by omega
   subst hv
   rw[TY]at hg
   subst hg
   exact⟨_,rfl,k⟩
theorem oM(T:Txt K mg)(d:Df K mg "is_whole" au ["thing"]):Fn P w K mg base "is_whole" 1 ["thing"] tO:=by
 have sc:=nV
 refine i4 d sc (fun ds M R Y h=>?_) (fun f cdv A outer s H E ds M R Y hr h=>?_)
 ·obtain⟨n,rfl,_⟩:=h;rfl
 ·obtain⟨n,rfl,k⟩:=h
  refine⟨_,(d7 (e6 (uy (v8 (FX T.sub) rfl T.b_isinstance Z5 (a8 (a9 0) (a8 (Fs rfl T.b_int Ip) d4))) (ux (DA (v8 (FX T.sub) rfl T.b_isinstance Z5 (a8 (a9 0) (a8 (Fs rfl T.b_bool DV) d4)))))))),?_⟩
  refine⟨_,rfl,_,_,_,_,rfl,rfl,rfl,_,rfl,?_⟩
  refine Mj ?_
  exact⟨_,rfl,_,_,_,_,rfl,rfl,rfl,_,rfl,k⟩
theorem zh(T:Txt K mg)(d:Df K mg "ratio" kB ["top","bottom"])(hsee:AY P base)(MI:Fn P w K mg base "divisor" 1 ["one","other"] L5)(Nt:Fn P w K mg base "is_whole" 1 ["thing"] tO):Fn P w K mg base "ratio" 40 ["top","bottom"] K6:=by
 have sc:=yh
 walk_at "fn"
 obtain⟨a,b,rfl,hb,k⟩:=h
 refine⟨_,(d6 (j5 (Q5 (bL (lO (G3 (jc Nt hr (a8 (a9 0) d4)))) (bL (lO (G3 (jc Nt hr (a8 (a9 1) d4)))) (W4 (jtm gx (a9 1) d5))))) (d7 vS) i6) (d6 (jst 2 sc.nd (jc MI hr (a8 (v8 jL rfl T.b_abs cI (a8 (a9 0) d4)) (a8 (v8 jL rfl T.b_abs cI (a8 (a9 1) d4)) d4)))) (d6 (j5 (jtm lI (a9 1) d5) (d7 (jst 2 sc.nd (cC (a9 2)))) i6) (d7 (e6 (h8 (a8 (f6 (eK (ldv hsee hr sc)) (a9 0) (a9 2)) (a8 (f6 (eK (ldv hsee hr sc)) (a9 1) (a9 2)) d4)))))))),?_⟩
 walk_at "sim"
 have hn:=zY (a:=a) hb
 refine⟨_,rfl,true,rfl,fun z=>absurd z (by decide),fun _=>⟨_,rfl,true,rfl,fun z=>absurd z (by decide),fun _=>⟨fun z=>absurd z hb,fun _=>⟨fun h1=>⟨?_,?_,?_⟩,fun h1=>⟨hn,hn,?_⟩⟩⟩⟩⟩
 ·show -((QD a.natAbs b.natAbs:Nat):Int)≠0;omega
 ·show -((QD a.natAbs b.natAbs:Nat):Int)≠0;omega
 ·exact eM hb (by rw[if_pos h1]) k
 ·exact eM hb (by rw[if_neg h1]) k
theorem Dd(T:Txt K mg)(d:Df K mg "veer" fV ["one","other"]):Fn P w K mg base "veer" 1 ["one","other"] gc:=by
 have sc:=kc
 walk_at "fn"
 obtain⟨a,b,rfl,⟨ha,hb⟩,k⟩:=h
 unfold sdD
 refine⟨_,(d7 (e6 (f6 N7 (f6 i8 (jx (a9 0) d5) (jx (a9 1) d5)) (f6 i8 (jx (a9 0) d5) (jx (a9 1) d5))))),?_⟩
 walk_at "sim"
 exact⟨r9 _ _ ha.p hb.q (by decide),r9 _ _ ha.q hb.p (by decide),k⟩
theorem vK(T:Txt K mg)(d:Df K mg "met_at" fY ["one","other"])(MC:Fn P w K mg base "ratio" 40 ["top","bottom"] K6)(MN:Fn P w K mg base "veer" 1 ["one","other"] gc):Fn P w K mg base "met_at" 41 ["one","other"] Cq:=by
 have sc:=vw
 walk_at "fn"
 obtain⟨a,b,rfl,⟨ha,hb,hv⟩,k⟩:=h
 refine⟨_,(d6 (jst 2 sc.nd (jc MN hr (a8 (a9 0) (a8 (a9 1) d4)))) (d6 (jst 3 sc.nd (jc MC hr (a8 (f6 N7 (f6 i8 (jx (a9 0) d5) (jx (a9 1) d5)) (f6 i8 (jx (a9 1) d5) (jx (a9 0) d5))) (a8 (a9 2) d4)))) (d6 (jst 4 sc.nd (jc MC hr (a8 (f6 N7 (f6 i8 (jx (a9 0) d5) (jx (a9 1) d5)) (f6 i8 (jx (a9 1) d5) (jx (a9 0) d5))) (a8 (a9 2) d4)))) (d7 (e6 (h8 (a8 (a9 3) (a8 (a9 4) d4)))))))),?_⟩
 walk_at "sim"
 refine⟨⟨ha,hb⟩,r9 _ _ ha.r hb.q (by decide),r9 _ _ hb.r ha.q (by decide),hv,r9 _ _ ha.p hb.r (by decide),r9 _ _ hb.p ha.r (by decide),hv,?_⟩
 rw[← yB]at k
 exact k
theorem qR(T:Txt K mg)(d:Df K mg "veer" fV ["one","other"]):Fn P w K mg base "veer" 1 ["one","other"] kI:=by
 have sc:=kc
 walk_at "fn"
 obtain⟨a,x,y,rfl,⟨ha,hw⟩,k⟩:=h
 unfold sdD
 refine⟨_,(d7 (e6 (f6 N7 (f6 i8 (jx (a9 0) d5) (jx (a9 1) d5)) (f6 i8 (jx (a9 0) d5) (jx (a9 1) d5))))),?_⟩
 walk_at "sim"
 exact⟨r9 _ _ ha.p hw.2 (by decide),r9 _ _ ha.q hw.1 (by decide),k⟩
theorem qQ(T:Txt K mg)(d:Df K mg "veer" fV ["one","other"]):Fn P w K mg base "veer" 1 ["one","other"] kH:=by
 have sc:=kc
 walk_at "fn"
 obtain⟨x,y,b,rfl,⟨hb,hw⟩,k⟩:=h
 unfold sdD
 refine⟨_,(d7 (e6 (f6 N7 (f6 i8 (jx (a9 0) d5) (jx (a9 1) d5)) (f6 i8 (jx (a9 0) d5) (jx (a9 1) d5))))),?_⟩
 walk_at "sim"
 exact⟨r9 _ _ hw.1 hb.q (by decide),r9 _ _ hw.2 hb.p (by decide),k⟩
theorem vL(T:Txt K mg)(d:Df K mg "facing" fZ ["side"]):Fn P w K mg base "facing" 1 ["side"] yA:=by
 have sc:=vx
 walk_at "fn"
 obtain⟨a,rfl,k⟩:=h
 unfold sdD
 refine⟨_,(d6 (t9 (a9 0) (o7 (n:=5) rfl (d9 (jn 1 sc.nd) (d9 (jn 2 sc.nd) (d9 (jn 3 sc.nd) (d9 (jn 4 sc.nd) (d9 (jn 5 sc.nd) i9))))))) (d7 (e6 (h8 (a8 (cC (a9 1)) (a8 (cC (a9 2)) (a8 (a9 3) (a8 (a9 4) (a8 (cC (a9 5)) d4))))))))),?_⟩
 walk_at "sim"
 exact k
theorem dD(T:Txt K mg)(d:Df K mg "sides_around" M0 ["half","wanted"])(Ng:Fn P w K mg base "veer" 1 ["one","other"] kH)(Nh:Fn P w K mg base "veer" 1 ["one","other"] kI)(MX:Fn P w K mg base "facing" 1 ["side"] yA):Fn P w K mg base "sides_around" 2 ["half","wanted"] GP:=by
 have sc:=dm
 walk_at "fn"
 obtain⟨half,x,y,rfl,⟨hl,hs,hw⟩,k⟩:=h
 refine⟨_,(d6 (jst 2 sc.nd (L0 (a9 0) (E5 [] ["side"] [] rfl (by decide +kernel) rfl (by decide +kernel) (by decide +kernel) rfl aM aM (p8 (a9 0)) (fun _ _ _ _ _ _=>(jn 0 (show(["side"]:List Str).Nodup by decide +kernel))) (fun _ _ _ _ _ _=>y9) (fun _ _ _ _ _ _=>(jc MX hr (a8 (a9 0) d4)))))) (d6 (jst 3 sc.nd A5) (d6 (t7 PassesOwn.never rfl (eO rfl T.b_zip (a8 (a9 2) (a8 (L0 (A0 (a9 2) (w6 d5) y4) (A0 (a9 2) y4 (w6 d5))) d4))) (o7 (n:=2) rfl (d9 (jn 4 sc.nd) (d9 (jn 5 sc.nd) i9))) (d7 (j5 (Q5 (gE (jtm Me (jc Nh hr (a8 (a9 4) (a8 (a9 1) d4))) d5) (bM (jtm oS (jc Ng hr (a8 (a9 1) (a8 (a9 5) d4))) d5)))) (d7 (jst 3 sc.nd (h8 (a8 (a9 4) (a8 (a9 5) d4))))) i6))) (d7 (e6 (a9 3)))))),?_⟩
 walk_at "sim"
 refine B1 (fun s=>sdD (g6 s)) (by omega) (by simp only[i5]) (fun s hm Q hQ=>?_) ?_
 ·walk_at "sim"
  exact hQ
 have em:half.map (fun s=>sdD (g6 s))=(half.map g6).map sdD:=by rw[Qw];rfl
 rw[em]
 walk_at "sim"
 have hrl:(du half).length≤60:=by unfold du;rw[PB,Pj];omega
 have hrs:∀ s∈du half,SzS s:=fun s hm=>by
  rcases PL.mp hm with hm|hm
  ·exact hs s hm
  ·obtain⟨t,ht,rfl⟩:=Pm.mp hm
   obtain⟨a,b,c⟩:=hs t ht
   exact⟨by show(-t.1).natAbs<_;rw[Qr];exact a,by show(-t.2.1).natAbs<_;rw[Qr];exact b,c⟩
 have l1:(RV sdD half).length+(RV sdD (RV g6 half)).length≤60:=by rw[Pj,Pj,Pj];omega
 have k:R (CY ((dG (du half)).foldl (bW (x,y)) none)) M:=k
 rw[C4 (by omega),Cv]
 generalize du half=rm at *
 have c1:DL.P2 (rm.map sdD) (some 1) none=(rm.drop 1).map sdD:=by rw[show(1:Int)=((1:Nat):Int)from rfl,bR,Si]
 have c2:DL.P2 (rm.map sdD) none (some 1)=(rm.take 1).map sdD:=by rw[show(1:Int)=((1:Nat):Int)from rfl,cG,RQ]
 rw[c1,c2,C4 (by rw[Pj,Pj,Qh,PX];omega),← PQ,qg]
 have ez:rm.zip (rm.drop 1++rm.take 1)=dG rm:=rfl
 rw[ez]
 refine P4.by (fun i e M'=>M'=M∧∃ z4 z5:Option D,e=[some (D.vl (RV sdD half)),some (D.vl [D.int x,D.int y]),some (D.vl (rm.map sdD)),some (CY (((dG rm).take i).foldl (bW (x,y)) none)),z4,z5]) ⟨rfl,_,_,rfl⟩ (fun i e M' _ _=>by simp only[i5,and_self]) ?_ ?_
 ·rintro i dd e M' hd ⟨rfl,z4,z5,rfl⟩
  rw[PJ]at hd
  cases hq:(dG rm)[i]? with
  | none=>rw[hq]at hd;cases hd
  | some ab =>
   rw[hq]at hd
   obtain rfl:=Option.some.inj hd
   have e1:((dG rm).take (i+1)).foldl (bW (x,y)) none=bW (x,y) (((dG rm).take i).foldl (bW (x,y)) none) ab:=by
    rw[Qy,hq,QC];rfl
   have hm:=Px hq
   obtain⟨ha,hb⟩:ab.1∈rm∧ab.2∈rm:=by
    have hz:=Rb (show(ab.1,ab.2)∈rm.zip (rm.drop 1++rm.take 1)from hm)
    refine⟨hz.1,?_⟩
    rcases PL.mp hz.2 with h|h
    ·exact Ra h
    ·exact Qm h
   rw[e1]
   generalize ((dG rm).take i).foldl (bW (x,y)) none=f at *
   walk_at "sim"
   unfold bW
   refine⟨⟨hrs _ ha,hw⟩,fun h1=>⟨⟨hrs _ hb,hw⟩,fun h2=>⟨some (sdD ab.1),some (sdD ab.2),?_⟩,fun h2=>⟨some (sdD ab.1),some (sdD ab.2),?_⟩⟩,fun h1=>⟨some (sdD ab.1),some (sdD ab.2),?_⟩⟩
   ·rw[if_pos ⟨h1,h2⟩];rfl
   ·rw[if_neg (fun z=>h2 z.2)]
   ·rw[if_neg (fun z=>h1 z.1)]
 ·rw[Pj,Qp]
  rintro e M' ⟨rfl,z4,z5,rfl⟩
  walk_at "sim"
  exact k
theorem dB(T:Txt K mg)(d:Df K mg "tops_over" J6 ["ratios","bottom"]):Fn P w K mg base "tops_over" 1 ["ratios","bottom"] qH:=by
 have sc:=R4
 walk_at "fn"
 obtain⟨p,q,c,rfl,⟨⟨h1,h2⟩,rfl⟩,k⟩:=h
 refine⟨_,(d7 (e6 (E5 [1] ["one"] ["bottom"] rfl (by decide +kernel) rfl (by decide +kernel) (by decide +kernel) rfl (dH ⟨rfl,rfl⟩) (dH (Or.inl rfl)) (p8 (a9 0)) (fun _ _ _ _ _ _=>(jn 0 (show(["one","bottom"]:List Str).Nodup by decide +kernel))) (fun _ _ _ _ _ _=>y9) (fun _ _ _ _ _ _=>(f6 i8 (jx (a9 0) d5) (f6 W2 (a9 1) (jx (a9 0) d5))))))),?_⟩
 walk_at "sim"
 refine B1 (xs:=[p,q]) (enc:=d8) (fun r=>.int (O1 r (cb2 p q))) (by show 2≤1000;decide) (by simp only[u8]) (fun r hr Q hQ=>?_) k
 have hrz:sz r≤1100:=by
  simp only[Pn,Qb,or_false]at hr
  rcases hr with rfl|rfl
  ·exact h1
  ·exact h2
 have d0:=r.den_pos
 have hd:r.den<2 ^ 1100:=o8 r hrz
 have ef:((cb2 p q:Nat):Int).fdiv (r.den:Int)=((cb2 p q / r.den:Nat):Int):=by rw[Y4 (by omega) (by omega)];rfl
 walk_at "sim"
 rw[ef]
 exact⟨⟨by omega,Pt (W3 (by rw[Pr];exact hd) (by decide)) (by decide)⟩,r9 1100 2200 (E6 r hrz) (by rw[Pr];exact PV (QL _ _) (AH h1 h2)) (by decide),hQ⟩
theorem Z1(T:Txt K mg)(d:Df K mg "common_bottom" B8 ["ratios"])(MI:Fn P w K mg base "divisor" 1 ["one","other"] L5):Fn P w K mg base "common_bottom" 2 ["ratios"] GO:=by
 have sc:=G9
 walk_at "fn"
 obtain⟨p,q,rfl,⟨h1,h2⟩,k⟩:=h
 refine⟨_,(d6 (jst 1 sc.nd d5) (d6 (t7 PassesOwn.never rfl (p8 (a9 0)) (jn 2 sc.nd) (d7 (jst 1 sc.nd (f6 i8 (f6 W2 (a9 1) (jc MI hr (a8 (a9 1) (a8 (jx (a9 2) d5) d4)))) (jx (a9 2) d5))))) (d7 (e6 (a9 1))))),?_⟩
 walk_at "sim"
 refine P4.by (fun i e M'=>M'=M∧∃ z:Option D,e=[some (D5 p q),some (.int ((([p,q].take i).foldl (fun c q=>u6 c q.den) 1:Nat):Int)),z]) ⟨rfl,_,rfl⟩ (fun i e M' _ h=>by rw[h.1];simp only[u8]) ?_ ?_
 ·rintro i dd e M' hd ⟨rfl,z,rfl⟩
  obtain⟨r,hr,hrz,hi,rfl⟩:∃ r:Rat,[p,q][i]? = some r∧sz r≤1100∧i<2∧dd=d8 r:=by
   have hi:i<2:=(Pw.mp hd).1
   rcases(show i=0∨i=1 by omega)with rfl|rfl
   ·cases hd;exact⟨p,rfl,h1,hi,rfl⟩
   ·cases hd;exact⟨q,rfl,h2,hi,rfl⟩
  have e1:([p,q].take (i+1)).foldl (fun c q=>u6 c q.den) 1=u6 (([p,q].take i).foldl (fun c q=>u6 c q.den) 1) r.den:=by
   rw[Qy,hr,QC];rfl
  have hc:0<([p,q].take i).foldl (fun c q=>u6 c q.den) 1∧([p,q].take i).foldl (fun c q=>u6 c q.den) 1<2 ^ 1101:=by
   rcases(show i=0∨i=1 by omega)with rfl|rfl
   ·exact⟨Nat.one_pos,Nat.one_lt_two_pow (by decide)⟩
   ·refine⟨by show 0<u6 1 p.den;rw[G1];exact Ss (by decide) p.den_pos,?_⟩
    show u6 1 p.den<_
    have:=J4 1 p.den
    exact PV (by omega) (E4 (o8 p h1) (by decide))
  have hd2:r.den<2 ^ 1100:=o8 r hrz
  rw[e1]
  obtain⟨hc0,hb⟩:=hc
  generalize ([p,q].take i).foldl (fun c q=>u6 c q.den) 1=c at *
  have g0:0<QD c r.den:=Rc _ r.den_pos
  have g1:QD c r.den<2 ^ 1100:=PV (TZ r.den_pos (SJ _ _)) hd2
  have ef:(c:Int).fdiv (QD c r.den:Nat)=((c / QD c r.den:Nat):Int):=by rw[Y4 (by omega) (by omega)];rfl
  walk_at "sim"
  rw[ef]
  refine⟨⟨by omega,Pt (W3 (by rw[Pr];exact g1) (by decide)) (by decide)⟩,?_,some (d8 r),?_⟩
  ·exact r9 1101 1100 (by rw[Pr];exact PV (QL _ _) hb) (by rw[Pr];exact hd2) (by decide)
  ·unfold u6
   rw[RP]
 ·rintro e M' ⟨rfl,z,rfl⟩
  walk_at "sim"
  exact k
theorem gn(T:Txt K mg)(d:Df K mg "most_around" O8 ["half","p","q"])(Nq:Fn P w K mg base "met_at" 41 ["one","other"] Cq)(MC:Fn P w K mg base "ratio" 40 ["top","bottom"] K6)(MN:Fn P w K mg base "veer" 1 ["one","other"] gc)(Nh:Fn P w K mg base "veer" 1 ["one","other"] kI)(Ng:Fn P w K mg base "veer" 1 ["one","other"] kH)(Ni:Fn P w K mg base "sides_around" 2 ["half","wanted"] GP)(Nj:Fn P w K mg base "tops_over" 1 ["ratios","bottom"] qH)(MT:Fn P w K mg base "common_bottom" 2 ["ratios"] GO):Fn P w K mg base "most_around" 42 ["half","p","q"] yw:=by
 have sc:=fO
 walk_at "fn"
 obtain⟨half,p,q,rfl,⟨⟨hl,hs⟩,⟨hp,hq⟩,a,b,ea,⟨sa,sb⟩,hv,hn,ca,cb⟩,k⟩:=h
 have wz:=LH hp hq
 refine⟨_,(d6 (jst 3 sc.nd (jc MT hr (a8 (h8 (a8 (a9 1) (a8 (a9 2) d4))) d4))) (d6 (jst 4 sc.nd (jc Nj hr (a8 (h8 (a8 (a9 1) (a8 (a9 2) d4))) (a8 (a9 3) d4)))) (d6 (t9 (jc Ni hr (a8 (a9 0) (a8 (a9 4) d4))) (o7 (n:=2) rfl (d9 (jn 5 sc.nd) (d9 (jn 6 sc.nd) i9)))) (d6 (jst 7 sc.nd (jc Ng hr (a8 (a9 4) (a8 (a9 6) d4)))) (d6 (jst 8 sc.nd (jc Nh hr (a8 (a9 5) (a8 (a9 4) d4)))) (d6 (jst 9 sc.nd (f6 i8 (a9 3) (jc MN hr (a8 (a9 5) (a8 (a9 6) d4))))) (d6 (jst 10 sc.nd (jc MC hr (a8 (f6 N8 (f6 i8 (a9 7) (jx (a9 5) d5)) (f6 i8 (a9 8) (jx (a9 6) d5))) (a8 (a9 9) d4)))) (d6 (jst 11 sc.nd (G4 (a8 (h8 (a8 (jx (a9 5) d5) (a8 (jc MC hr (a8 (f6 i8 (a9 7) (jx (a9 5) d5)) (a8 (a9 9) d4))) d4))) (a8 (h8 (a8 (jx (a9 6) d5) (a8 (jc MC hr (a8 (f6 i8 (a9 8) (jx (a9 6) d5)) (a8 (a9 9) d4))) d4))) d4)))) (d7 (e6 (h8 (a8 K5 (a8 (a9 10) (a8 (jc Nq hr (a8 (a9 5) (a8 (a9 6) d4))) (a8 (W5 (v8 AL rfl T.b_sorted cH (a8 (E5 [] ["pair"] [] rfl (by decide +kernel) rfl (by decide +kernel) (by decide +kernel) rfl aM aM (p8 (a9 11)) (fun _ _ _ _ _ _=>(jn 0 (show(["pair"]:List Str).Nodup by decide +kernel))) (fun _ _ _ _ _ _=>(jz (jtm (oR hu) (jx (a9 0) d5) (B0 rfl T.c_NOUGHT)))) (fun _ _ _ _ _ _=>(a9 0))) d4))) d4))))))))))))))),?_⟩
 walk_at "sim"
 refine⟨⟨hp,hq⟩,⟨hp,hq⟩,⟨hl,hs,wz⟩,?_⟩
 have ea':pX half ((wtF p q).1,(wtF p q).2)=some (a,b):=ea
 rw[ea']
 unfold CY
 walk_at "sim"
 have k:R (match pX half (wtF p q)with|none=>pZ.free (0,0)|some (a,b)=>.most (vlF a b (wtF p q) (cb2 p q)) (ry (tri a) (tri b)) (shF a b (wtF p q) (cb2 p q)):pZ).toD M:=k
 rw[ea]at k
 have c0:=mq p q
 have cl:=AH hp hq
 have vl:=sa.ve sb
 have w1:(wVe (wtF p q) b).natAbs<2 ^ 3401:=by
  have h1:=g7 wz.1 sb.q
  have h2:=g7 wz.2 sb.p
  unfold wVe
  have:=RT ((wtF p q).1*b.2.1) ((wtF p q).2*b.1)
  rw[show 3401=2200+1200+1 from rfl,RX]
  omega
 have w2:(veW a (wtF p q)).natAbs<2 ^ 3401:=by
  have h1:=g7 sa.p wz.2
  have h2:=g7 sa.q wz.1
  unfold veW
  have:=RT (a.1*(wtF p q).2) (a.2.1*(wtF p q).1)
  rw[show 3401=1200+2200+1 from rfl,RX]
  omega
 have wn:(((cb2 p q:Nat):Int)*veZ a b).natAbs<2 ^ 4601:=by
  have:=g7 (a:=((cb2 p q:Nat):Int)) (by rw[Pr];exact cl) vl
  exact this
 have w0:((cb2 p q:Nat):Int)*veZ a b≠0:=Qv (by omega) (by omega)
 have wl:(((cb2 p q:Nat):Int)*veZ a b).natAbs.log2<9000:=Pt (W3 wn (by decide)) (by decide)
 refine⟨⟨sb,wz⟩,⟨sa,wz⟩,⟨sa,sb⟩,r9 2200 2401 (by rw[Pr];exact cl) vl (by decide),r9 _ _ w1 sa.r (by decide),r9 _ _ w2 sb.r (by decide),w0,?_⟩
 refine⟨.int a.2.2.2.1,rfl,.int a.2.2.2.2,rfl,_,_,rfl,rfl,r9 _ _ w1 ca (by decide),?_⟩
 show K6 [.int (wVe (wtF p q) b*a.2.2.2.2),.int (((cb2 p q:Nat):Int)*veZ a b)] M _ Y0
 walk_at "sim"
 refine⟨w0,.int b.2.2.2.1,rfl,.int b.2.2.2.2,rfl,_,_,rfl,rfl,r9 _ _ w2 cb (by decide),?_⟩
 show K6 [.int (veW a (wtF p q)*b.2.2.2.2),.int (((cb2 p q:Nat):Int)*veZ a b)] M _ Y0
 walk_at "sim"
 refine⟨w0,⟨sa,sb,by omega⟩,?_⟩
 have eS:∀(n:Int) (r:Rat),D.tup [.int n,d8 r]=shD (n,r):=fun _ _=>rfl
 refine bU (xs:=[(a.2.2.2.1,Qu (wVe (wtF p q) b*a.2.2.2.2) (((cb2 p q:Nat):Int)*veZ a b)),(b.2.2.2.1,Qu (veW a (wtF p q)*b.2.2.2.2) (((cb2 p q:Nat):Int)*veZ a b))]) (enc:=shD) (fun s=>decide (s.2≠0)) shD (by show 2≤1000;decide) (by simp only[i5]) (fun s hs Q N h1 h2=>?_) ?_
 ·unfold shD at h1 ⊢
  walk_at "sim"
  exact⟨fun h=>h1 (decide_eq_true h),fun h=>h2 (decide_eq_false fun z=>z h)⟩
 ·have k:R (.tup [.str "most",d8 (vlF a b (wtF p q) (cb2 p q)),rD (ry (tri a) (tri b)),.vl ((shF a b (wtF p q) (cb2 p q)).map shD)]) M:=k
  unfold shF at k
  have two:∀ fs:List (Int × Rat),(fs.length<2 ∨ ∃ x y,fs=[x,y]∧x.1≠y.1)→R (.tup [.str "most",d8 (vlF a b (wtF p q) (cb2 p q)),rD (ry (tri a) (tri b)),.vl ((GC fs).map shD)]) M→KI [.vl (fs.map shD)] M fun x M1=>Ba x M1 fun x M1=>R (.tup [.str "most",d8 (vlF a b (wtF p q) (cb2 p q)),rD (ry (tri a) (tri b)),x]) M1:=fun fs hf kf=>by
   refine⟨_,fs.map shD,rfl,rfl,?_⟩
   rcases hf with hf|⟨x,y,rfl,hne⟩
   ·have es:GC fs=fs:=by
     match fs,hf with
     | [],_=>rfl
     | [_],_=>rfl
    rw[es]at kf
    exact .inl ⟨by rw[Pj];exact hf,fun ad had=>mF had kf⟩
   ·refine .inr ⟨x.1,y.1,[d8 x.2],[d8 y.2],rfl,hne,fun ad had=>mF had ?_⟩
    have kf:R (.tup [.str "most",d8 (vlF a b (wtF p q) (cb2 p q)),rD (ry (tri a) (tri b)),.vl ((if y.1<x.1 then[y,x]else[x,y]).map shD)]) M:=kf
    by_cases c:y.1<x.1
    ·rw[if_pos c]at kf ⊢;exact kf
    ·rw[if_neg c]at kf ⊢;exact kf
  refine two _ ?_ k
  generalize Qu (wVe (wtF p q) b*a.2.2.2.2) (((cb2 p q:Nat):Int)*veZ a b)=r1
  generalize Qu (veW a (wtF p q)*b.2.2.2.2) (((cb2 p q:Nat):Int)*veZ a b)=r2
  by_cases q1:r1=0
  ·left
   rw[Qo (by simp[q1])]
   exact PV (QX _ _) (by show 1<2;decide)
  ·by_cases q2:r2=0
   ·left
    rw[Qg (by simp[q1]),Qo (by simp[q2])]
    show 1<2;decide
   ·right
    refine⟨(a.2.2.2.1,r1),(b.2.2.2.1,r2),?_,hn⟩
    rw[Qg (by simp[q1]),Qg (by simp[q2])];rfl
theorem ze(T:Txt K mg)(d:Df K mg "times" kA ["one","other"])(MC:Fn P w K mg base "ratio" 40 ["top","bottom"] K6):Fn P w K mg base "times" 41 ["one","other"] C5:=by
 have sc:=yg
 walk_at "fn"
 obtain⟨q,r,rfl,hz,k⟩:=h
 refine⟨_,(d7 (e6 (jc MC hr (a8 (f6 i8 (jx (a9 0) d5) (jx (a9 1) d5)) (a8 (f6 i8 (jx (a9 0) d5) (jx (a9 1) d5)) d4))))),?_⟩
 walk_at "sim"
 rw[RM.qU]at k
 exact⟨bNN hz,bDD hz,Qv (RM.A6 q) (RM.A6 r),k⟩
theorem zj(T:Txt K mg)(d:Df K mg "grown" kD ["ray","share"])(MA:Fn P w K mg base "times" 41 ["one","other"] C5):Fn P w K mg base "grown" 42 ["ray","share"] qL:=by
 have sc:=yj
 walk_at "fn"
 obtain⟨y,u,g,rfl,⟨h1,h2⟩,k⟩:=h
 refine⟨_,(d7 (e6 (h8 (a8 (jc MA hr (a8 (jx (a9 0) d5) (a8 (a9 1) d4))) (a8 (jc MA hr (a8 (jx (a9 0) d5) (a8 (a9 1) d4))) d4))))),?_⟩
 walk_at "sim"
 exact⟨by omega,by omega,k⟩
theorem Dh(T:Txt K mg)(d:Df K mg "over" qA ["one","other"])(MC:Fn P w K mg base "ratio" 40 ["top","bottom"] K6):Fn P w K mg base "over" 41 ["one","other"] jX:=by
 have sc:=Cj
 walk_at "fn"
 obtain⟨q,r,rfl,h0,hz,k⟩:=h
 refine⟨_,(d7 (e6 (jc MC hr (a8 (f6 i8 (jx (a9 0) d5) (jx (a9 1) d5)) (a8 (f6 i8 (jx (a9 0) d5) (jx (a9 1) d5)) d4))))),?_⟩
 walk_at "sim"
 rw[RM.An]at k
 exact⟨mND hz,mDN hz,Qv (RM.A6 q) (HB h0),k⟩
theorem vI(T:Txt K mg)(d:Df K mg "sum_by" fW ["p","q","ray"]):Fn P w K mg base "sum_by" 1 ["p","q","ray"] kJ:=by
 have sc:=vq
 walk_at "fn"
 obtain⟨p,q,y,u,rfl,hz,k⟩:=h
 refine⟨_,(d6 (t9 (a9 2) (o7 (n:=2) rfl (d9 (jn 3 sc.nd) (d9 (jn 4 sc.nd) i9)))) (d6 (jst 5 sc.nd (f6 N8 (f6 i8 (f6 i8 (f6 i8 (jx (a9 0) d5) (jx (a9 3) d5)) (jx (a9 1) d5)) (jx (a9 4) d5)) (f6 i8 (f6 i8 (f6 i8 (jx (a9 1) d5) (jx (a9 4) d5)) (jx (a9 0) d5)) (jx (a9 3) d5)))) (d7 (e6 (h8 (a8 (a9 5) (a8 (f6 i8 (f6 i8 (f6 i8 (jx (a9 0) d5) (jx (a9 3) d5)) (jx (a9 1) d5)) (jx (a9 4) d5)) d4))))))),?_⟩
 walk_at "sim"
 exact⟨r9 _ _ (D2 p) (D2 y) (by omega),r9 _ _ (bG (D2 p) (D2 y)) (y8 q) (by omega),r9 _ _ (bG (bG (D2 p) (D2 y)) (y8 q)) (y8 u) (by omega),r9 _ _ (D2 q) (D2 u) (by omega),r9 _ _ (bG (D2 q) (D2 u)) (y8 p) (by omega),r9 _ _ (bG (bG (D2 q) (D2 u)) (y8 p)) (y8 y) (by omega),r9 _ _ (y8 p) (y8 y) (by omega),r9 _ _ (bG (y8 p) (y8 y)) (y8 q) (by omega),r9 _ _ (bG (bG (y8 p) (y8 y)) (y8 q)) (y8 u) (by omega),k⟩
theorem oF(T:Txt K mg)(d:Df K mg "value_of" af ["p","q","ray"])(MC:Fn P w K mg base "ratio" 40 ["top","bottom"] K6)(NR:Fn P w K mg base "sum_by" 1 ["p","q","ray"] kJ):Fn P w K mg base "value_of" 41 ["p","q","ray"] yq:=by
 have sc:=nP
 walk_at "fn"
 obtain⟨p,q,y,u,rfl,hz,k⟩:=h
 refine⟨_,(d6 (t9 (jc NR hr (a8 (a9 0) (a8 (a9 1) (a8 (a9 2) d4)))) (o7 (n:=2) rfl (d9 (jn 3 sc.nd) (d9 (jn 4 sc.nd) i9)))) (d7 (e6 (jc MC hr (a8 (a9 3) (a8 (a9 4) d4)))))),?_⟩
 walk_at "sim"
 refine⟨by omega,Ir p q y u,?_⟩
 rw[Cc]
 exact k
theorem oG(T:Txt K mg)(d:Df K mg "unsigned" ah ["one"]):Fn P w K mg base "unsigned" 1 ["one"] nK:=by
 have sc:=nQ
 walk_at "fn"
 obtain⟨q,rfl,k⟩:=h
 refine⟨_,(d7 (e6 (h8 (a8 (v8 jL rfl T.b_abs cI (a8 (jx (a9 0) d5) d4)) (a8 (jx (a9 0) d5) d4))))),?_⟩
 walk_at "sim"
 exact k
theorem oJ(T:Txt K mg)(d:Df K mg "opposite" ak ["one"]):Fn P w K mg base "opposite" 1 ["one"] cY:=by
 have sc:=nT
 refine i4 d sc (fun ds M R Y h=>?_) (fun f cdv A outer s H E ds M R Y hr h=>?_)
 ·obtain⟨q,rfl,_⟩:=h;rfl
 ·obtain⟨q,rfl,k⟩:=h
  refine⟨_,(d7 (e6 (h8 (a8 (cC (jx (a9 0) d5)) (a8 (jx (a9 0) d5) d4))))),?_⟩
  refine⟨_,rfl,_,rfl,_,rfl,_,rfl,_,rfl,sl 2,?_⟩
  have e:d8 (-q) = .tup [.int (-q.num),.int (q.den:Int)]:=by unfold d8;rw[SM,Tx]
  rw[e]at k
  exact k
theorem Dg(T:Txt K mg)(d:Df K mg "plus" qz ["one","other"])(MC:Fn P w K mg base "ratio" 40 ["top","bottom"] K6):Fn P w K mg base "plus" 41 ["one","other"] aa:=by
 have sc:=Ci
 walk_at "fn"
 obtain⟨q,r,rfl,hz,k⟩:=h
 refine⟨_,(d7 (e6 (jc MC hr (a8 (f6 N8 (f6 i8 (jx (a9 0) d5) (jx (a9 1) d5)) (f6 i8 (jx (a9 1) d5) (jx (a9 0) d5))) (a8 (f6 i8 (jx (a9 0) d5) (jx (a9 1) d5)) d4))))),?_⟩
 walk_at "sim"
 rw[RM.rL]at k
 exact⟨mND hz,mND (by omega),mDD hz,Qv (RM.A6 q) (RM.A6 r),k⟩
theorem zi(T:Txt K mg)(d:Df K mg "minus" kC ["one","other"])(MQ:Fn P w K mg base "plus" 41 ["one","other"] aa)(MD:Fn P w K mg base "opposite" 1 ["one"] cY):Fn P w K mg base "minus" 42 ["one","other"] aS:=by
 have sc:=yi
 walk_at "fn"
 obtain⟨q,r,rfl,hz,k⟩:=h
 refine⟨_,(d7 (e6 (jc MQ hr (a8 (a9 0) (a8 (jc MD hr (a8 (a9 1) d4)) d4))))),?_⟩
 walk_at "sim"
 exact⟨by rw[RM.F7];exact hz,by rw[← TL];exact k⟩
theorem zm(T:Txt K mg)(d:Df K mg "cross" kG ["one","other"])(Nf:Fn P w K mg base "minus" 42 ["one","other"] aS)(MA:Fn P w K mg base "times" 41 ["one","other"] C5):Fn P w K mg base "cross" 43 ["one","other"] eF:=by
 have sc:=ym
 walk_at "fn"
 obtain⟨y,u,z,w,rfl,⟨h1,h2,h3,h4⟩,k⟩:=h
 refine⟨_,(d6 (t9 (a9 0) (o7 (n:=2) rfl (d9 (jn 2 sc.nd) (d9 (jn 3 sc.nd) i9)))) (d6 (t9 (a9 1) (o7 (n:=2) rfl (d9 (jn 4 sc.nd) (d9 (jn 5 sc.nd) i9)))) (d7 (e6 (jc Nf hr (a8 (jc MA hr (a8 (a9 2) (a8 (a9 5) d4))) (a8 (jc MA hr (a8 (a9 4) (a8 (a9 3) d4))) d4))))))),?_⟩
 walk_at "sim"
 have c1:=RM.u9 y w
 have c2:=RM.u9 z u
 exact⟨by omega,by omega,by omega,k⟩
theorem ip(T:Txt K mg)(d:Df K mg "most_along" R5 ["lines","number","p","q"])(NY:Fn P w K mg base "grown" 42 ["ray","share"] qL)(Nu:Fn P w K mg base "over" 41 ["one","other"] jX)(NK:Fn P w K mg base "value_of" 41 ["p","q","ray"] yq)(MA:Fn P w K mg base "times" 41 ["one","other"] C5)(ML:Fn P w K mg base "unsigned" 1 ["one"] nK)(MD:Fn P w K mg base "opposite" 1 ["one"] cY)(NH:Fn P w K mg base "cross" 43 ["one","other"] eF):Fn P w K mg base "most_along" 44 ["lines","number","p","q"] tT:=by
 have sc:=hZ
 walk_at "fn"
 obtain⟨ls,n,p,q,rfl,l,j,rfl,hj,ok,hpq,⟨hp,hq⟩,k⟩:=h
 have z1:=ok.p6
 have z2:=ok.q6
 have z3:=ok.r6
 have r0:=ok.pos
 have ne:=ok.ne
 refine⟨_,(d6 (t9 (jx (a9 0) (a9 1)) (o7 (n:=3) rfl (d9 (jn 4 sc.nd) (d9 (jn 5 sc.nd) (d9 (jn 6 sc.nd) i9))))) (d6 (jst 7 sc.nd (jc NH hr (a8 (h8 (a8 (a9 4) (a8 (a9 5) d4))) (a8 (h8 (a8 (a9 2) (a8 (a9 3) d4))) d4)))) (d6 (j5 (jtm lI (jx (a9 7) d5) d5) (d7 (e6 (h8 (a8 K5 (a8 (h8 (a8 (a9 5) (a8 (jc MD hr (a8 (a9 4) d4)) d4))) d4))))) i6) (d6 (j5 (jtm oS (jx (a9 7) d5) d5) (d7 (e6 (h8 (a8 K5 (a8 (h8 (a8 (jc MD hr (a8 (a9 5) d4)) (a8 (a9 4) d4))) d4))))) i6) (d6 (jst 8 sc.nd (pf (jtm (js hu) (a9 4) (B0 rfl T.c_NOUGHT)) (jc Nu hr (a8 (a9 3) (a8 (a9 5) d4))) (jc Nu hr (a8 (a9 2) (a8 (a9 4) d4))))) (d6 (jst 9 sc.nd (jc MA hr (a8 (jc ML hr (a8 (a9 8) d4)) (a8 (a9 6) d4)))) (d6 (jst 10 sc.nd (jc NY hr (a8 (h8 (a8 (a9 2) (a8 (a9 3) d4))) (a8 (jc Nu hr (a8 (a9 9) (a8 (jc NK hr (a8 (a9 2) (a8 (a9 3) (a8 (h8 (a8 (a9 2) (a8 (a9 3) d4))) d4)))) d4))) d4)))) (d7 (e6 (h8 (a8 K5 (a8 (a9 9) (a8 (a9 10) (a8 (G4 (a8 (h8 (a8 (a9 1) (a8 (a9 8) d4))) d4)) d4)))))))))))))),?_⟩
 walk_at "sim"
 refine⟨h7 l,by show atI (ls.map h7) (j:Int)=_;rw[DX (by rw[PJ,hj];rfl)],?_⟩
 walk_at "sim"
 have sq:=qr hpq
 have a3:=RM.u9 p p
 have a4:=RM.u9 q q
 have a5:=RM.O4 (p*p) (q*q)
 rw[de,zr]
 unfold aL at k
 refine⟨by omega,fun c1=>?_,fun c1=>⟨fun c2=>?_,fun c2=>⟨fun c3=>?_,fun c3=>?_⟩⟩⟩
 ·rw[if_pos c1]at k;exact k
 ·rw[if_neg c1,if_pos c2]at k;exact k
 ·have n2:l.2.1≠0:=fun w=>ne ⟨c3,w⟩
  have a1:=RM.O2 q l.2.1 n2
  have a2:=R0 (q / l.2.1)
  have a6:=RM.u9 (j9 (q / l.2.1)) l.2.2
  have a7:=RM.O2 (j9 (q / l.2.1)*l.2.2) (p*p+q*q) (t6 sq)
  rw[if_neg c1,if_neg c2,if_pos c3]at k
  exact⟨n2,by omega,by omega,by omega,t6 sq,by omega,⟨by omega,by omega⟩,k⟩
 ·have a1:=RM.O2 p l.1 c3
  have a2:=R0 (p / l.1)
  have a6:=RM.u9 (j9 (p / l.1)) l.2.2
  have a7:=RM.O2 (j9 (p / l.1)*l.2.2) (p*p+q*q) (t6 sq)
  rw[if_neg c1,if_neg c2,if_neg c3]at k
  exact⟨c3,by omega,by omega,by omega,t6 sq,by omega,⟨by omega,by omega⟩,k⟩
theorem De(T:Txt K mg)(d:Df K mg "turn" qy ["one","other","third"])(MN:Fn P w K mg base "veer" 1 ["one","other"] gc):Fn P w K mg base "turn" 2 ["one","other","third"] yr:=by
 have sc:=Cg
 walk_at "fn"
 obtain⟨a,b,c,rfl,⟨ha,hb,hc⟩,k⟩:=h
 refine⟨_,(d7 (e6 (f6 N8 (f6 N7 (f6 i8 (jx (a9 0) d5) (jc MN hr (a8 (a9 1) (a8 (a9 2) d4)))) (f6 i8 (jx (a9 1) d5) (jc MN hr (a8 (a9 0) (a8 (a9 2) d4))))) (f6 i8 (jx (a9 2) d5) (jc MN hr (a8 (a9 0) (a8 (a9 1) d4))))))),?_⟩
 walk_at "sim"
 have v1:=ha.ve hb
 have v2:=ha.ve hc
 have v3:=hb.ve hc
 exact⟨⟨hb,hc⟩,r9 _ _ ha.r v3 (by decide),⟨ha,hc⟩,r9 _ _ hb.r v2 (by decide),⟨ha,hb⟩,r9 _ _ hc.r v1 (by decide),k⟩
theorem lB(T:Txt K mg)(d:Df K mg "next_side" U6 ["sides","here"])(MN:Fn P w K mg base "veer" 1 ["one","other"] gc)(Ov:Fn P w K mg base "turn" 2 ["one","other","third"] yr):Fn P w K mg base "next_side" 3 ["sides","here"] GI:=by
 have sc:=kl
 walk_at "fn"
 obtain⟨ss,g,rfl,⟨hg,hz⟩,k⟩:=h
 refine⟨_,(d6 (jst 2 sc.nd A5) (d6 (t7 PassesOwn.never rfl (p8 (a9 0)) (jn 3 sc.nd) (d7 (j5 (jtm oS (jc MN hr (a8 (a9 1) (a8 (a9 3) d4))) d5) (d6 (jst 4 sc.nd (pf (jtm gw (a9 2) A5) (cC d5) (jc Ov hr (a8 (a9 1) (a8 (a9 2) (a8 (a9 3) d4)))))) (d7 (j5 (Q5 (bL (jtm lI (a9 4) d5) (W4 (Q5 (gE (jtm gx (a9 4) d5) (bM (jtm oS (jc MN hr (a8 (a9 2) (a8 (a9 3) d4))) d5))))))) (d7 (jst 2 sc.nd (a9 3))) i6))) i6))) (d7 (e6 (a9 2))))),?_⟩
 walk_at "sim"
 refine P4.by (fun i e M'=>M'=M∧(∀ f,(ss.take i).foldl (S0 g) none=some f→SzS f)∧∃ z3 z4:Option D,e=[some (.vl (ss.map sdD)),some (sdD g),some (oA ((ss.take i).foldl (S0 g) none)),z3,z4]) ⟨rfl,fun f z=>(by cases z),_,_,rfl⟩ (fun i e M' _ h=>by rw[h.1];simp only[i5]) ?_ ?_
 ·rintro i dd e M' hd ⟨rfl,hf,z3,z4,rfl⟩
  rw[PJ]at hd
  cases hq:ss[i]? with
  | none=>rw[hq]at hd;cases hd
  | some t =>
   rw[hq]at hd
   obtain rfl:=Option.some.inj hd
   have ht:=hz t (Px hq)
   have e1:(ss.take (i+1)).foldl (S0 g) none=S0 g ((ss.take i).foldl (S0 g) none) t:=by
    rw[Qy,hq,QC];rfl
   rw[e1]
   generalize (ss.take i).foldl (S0 g) none=f at *
   walk_at "sim"
   refine⟨⟨hg,ht⟩,fun z=>?_,fun z=>?_⟩
   ·cases f with
    | none =>
     have en:S0 g none t=some t:=by unfold S0;rw[if_pos z];rfl
     rw[en,show oA none=D.non from rfl,T6 (b:=true) rfl]
     walk_at "sim"
     refine⟨fun f' hf'=>by cases hf';exact ht,_,_,rfl⟩
    | some f =>
     have hff:=hf f rfl
     rw[show oA (some f)=sdD f from rfl,T6 (b:=false) rfl]
     walk_at "sim"
     refine⟨⟨hg,hff,ht⟩,?_⟩
     have en:∀ b:Bool,DW g (some f) t=b→S0 g (some f) t=if b=true then some t else some f:=fun b hb=>by unfold S0;rw[if_pos z,hb]
     have done:∀ b:Bool,DW g (some f) t=b→(∀ f',S0 g (some f) t=some f'→SzS f')∧oA (S0 g (some f) t)=if b=true then sdD t else sdD f:=fun b hb=>by
      rw[en b hb]
      cases b with
      | true=>exact⟨fun f' h=>by cases h;exact ht,rfl⟩
      | false=>exact⟨fun f' h=>by cases h;exact hff,rfl⟩
     refine⟨fun z1=>?_,fun z1=>⟨fun z2=>⟨⟨hff,ht⟩,fun z3=>?_,fun z3=>?_⟩,fun z2=>?_⟩⟩
     ·obtain⟨q1,q2⟩:=done true (by show(decide _ || _)=true;rw[decide_eq_true z1];rfl)
      exact⟨q1,some (sdD t),some (.int (tnZ g f t)),by rw[q2];rfl⟩
     ·obtain⟨q1,q2⟩:=done true (by show(decide _ || (decide _ && decide _))=true;rw[decide_eq_true z2,decide_eq_true z3,Bool.or_eq_true];exact .inr rfl)
      exact⟨q1,some (sdD t),some (.int (tnZ g f t)),by rw[q2];rfl⟩
     ·obtain⟨q1,q2⟩:=done false (by show(decide _ || (decide _ && decide _))=false;rw[decide_eq_false z1,decide_eq_false z3,Bool.and_false];rfl)
      exact⟨q1,some (sdD t),some (.int (tnZ g f t)),by rw[q2];rfl⟩
     ·obtain⟨q1,q2⟩:=done false (by show(decide _ || (decide _ && decide _))=false;rw[decide_eq_false z1,decide_eq_false z2];rfl)
      exact⟨q1,some (sdD t),some (.int (tnZ g f t)),by rw[q2];rfl⟩
   ·have en:S0 g f t=f:=by unfold S0;rw[if_neg z]
    rw[en]
    exact⟨hf,_,_,rfl⟩
 ·rintro e M' ⟨rfl,hf,z3,z4,rfl⟩
  walk_at "sim"
  rw[Pj,Qp]
  exact k
theorem lC(T:Txt K mg)(d:Df K mg "juts_more" U7 ["one","other"]):Fn P w K mg base "juts_more" 1 ["one","other"] yy:=by
 have sc:=km
 walk_at "fn"
 obtain⟨a,b,rfl,⟨ha,hb⟩,k⟩:=h
 refine⟨_,(d6 (jst 2 sc.nd (f6 N7 (f6 i8 (jx (a9 0) d5) (jx (a9 1) d5)) (f6 i8 (jx (a9 1) d5) (jx (a9 0) d5)))) (d6 (j5 (jtm gx (a9 2) d5) (d7 (jst 2 sc.nd (f6 N7 (f6 i8 (jx (a9 0) d5) (jx (a9 1) d5)) (f6 i8 (jx (a9 1) d5) (jx (a9 0) d5))))) i6) (d7 (e6 (jm oS (a9 2) d5))))),?_⟩
 walk_at "sim"
 refine⟨r9 _ _ ha.p hb.r (by decide),r9 _ _ hb.p ha.r (by decide),fun z=>⟨r9 _ _ ha.q hb.r (by decide),r9 _ _ hb.q ha.r (by decide),?_⟩,fun z=>?_⟩
 ·unfold G2 at k
  rw[if_pos z]at k
  exact k
 ·unfold G2 at k
  rw[if_neg z]at k
  exact k
theorem lA(T:Txt K mg)(d:Df K mg "outermost" U5 ["sides"])(Ny:Fn P w K mg base "juts_more" 1 ["one","other"] yy):Fn P w K mg base "outermost" 2 ["sides"] yv:=by
 have sc:=kj
 walk_at "fn"
 obtain⟨ss,rfl,⟨s,r,e⟩,hz,k⟩:=h
 have e0:ss.headD (0,0,0,0,0)=s:=by rw[e];rfl
 rw[e0]at k
 refine⟨_,(d6 (jst 1 sc.nd (jx (a9 0) d5)) (d6 (t7 PassesOwn.never rfl (p8 (a9 0)) (jn 2 sc.nd) (d7 (j5 (G3 (jc Ny hr (a8 (a9 2) (a8 (a9 1) d4)))) (d7 (jst 1 sc.nd (a9 2))) i6))) (d7 (e6 (a9 1))))),?_⟩
 walk_at "sim"
 have ei:atI (ss.map sdD) 0=some (sdD s):=by rw[e];exact u0 (n:=0) rfl
 refine⟨_,ei,?_⟩
 have hs:SzS s:=hz s (by rw[e];exact Po)
 refine P4.by (fun i e M'=>M'=M∧∃ z:Option D,e=[some (.vl (ss.map sdD)),some (sdD (A9 (ss.take i) s)),z]) ⟨rfl,_,rfl⟩ (fun i e M' _ h=>by rw[h.1];simp only[i5]) ?_ ?_
 ·rintro i dd e M' hd ⟨rfl,z,rfl⟩
  rw[PJ]at hd
  cases hq:ss[i]? with
  | none=>rw[hq]at hd;cases hd
  | some t =>
   rw[hq]at hd
   obtain rfl:=Option.some.inj hd
   have ht:=hz t (Px hq)
   have ho:SzS (A9 (ss.take i) s):=by
    rcases bD (ss.take i) s with h|h
    ·rw[h];exact hs
    ·exact hz _ (Qm h)
   have e1:A9 (ss.take (i+1)) s=if G2 t (A9 (ss.take i) s)=true then t else A9 (ss.take i) s:=by
    unfold A9
    rw[Qy,hq,QC];rfl
   rw[e1]
   walk_at "sim"
   refine⟨⟨ht,ho⟩,fun z=>⟨some (sdD t),?_⟩,fun z=>⟨some (sdD t),?_⟩⟩
   ·rw[if_pos z]
   ·rw[if_neg (by rw[z];decide)]
 ·rintro e M' ⟨rfl,z,rfl⟩
  walk_at "sim"
  rw[Pj,Qp]
  exact k
theorem lh(T:Txt K mg)(d:Df K mg "tops_over" J6 ["ratios","bottom"]):Fn P w K mg base "tops_over" 1 ["ratios","bottom"] qG:=by
 have sc:=R4
 walk_at "fn"
 obtain⟨l,c,rfl,⟨hl,rfl⟩,k⟩:=h
 refine⟨_,(d7 (e6 (E5 [1] ["one"] ["bottom"] rfl (by decide +kernel) rfl (by decide +kernel) (by decide +kernel) rfl (dH ⟨rfl,rfl⟩) (dH (Or.inl rfl)) (p8 (a9 0)) (fun _ _ _ _ _ _=>(jn 0 (show(["one","bottom"]:List Str).Nodup by decide +kernel))) (fun _ _ _ _ _ _=>y9) (fun _ _ _ _ _ _=>(f6 i8 (jx (a9 0) d5) (f6 W2 (a9 1) (jx (a9 0) d5))))))),?_⟩
 walk_at "sim"
 refine mB (ds:=[l.1,l.2.1,l.2.2].map d8) (by show v6 M (.tup _) _;rw[u8];rfl) ?_
 refine B1 (xs:=[l.1,l.2.1,l.2.2]) (enc:=d8) (fun q=>.int (O1 q (cbL l))) (by show 3≤1000;decide) (by show v6 M (.tup _) _;rw[u8];rfl) (fun q hq Q hQ=>?_) k
 have hqs:sz q≤1300:=by
  simp only[Pn,Qb,or_false]at hq
  rcases hq with rfl|rfl|rfl
  ·exact hl.p
  ·exact hl.q
  ·exact hl.r
 have d0:=q.den_pos
 have hd:q.den<2 ^ 1300:=o8 q hqs
 have ef:((cbL l:Nat):Int).fdiv (q.den:Int)=((cbL l / q.den:Nat):Int):=by rw[Y4 (by omega) (by omega)];rfl
 walk_at "sim"
 rw[ef]
 refine⟨⟨by omega,Pt (W3 (by rw[Pr];exact hd) (by decide)) (by decide)⟩,r9 1300 3901 (E6 q hqs) (by rw[Pr];exact PV (QL _ _) hl.cb) (by decide),hQ⟩
theorem cz(T:Txt K mg)(d:Df K mg "common_bottom" B8 ["ratios"])(MI:Fn P w K mg base "divisor" 1 ["one","other"] L5):Fn P w K mg base "common_bottom" 2 ["ratios"] GN:=by
 have sc:=G9
 walk_at "fn"
 obtain⟨l,rfl,hl,k⟩:=h
 refine⟨_,(d6 (jst 1 sc.nd d5) (d6 (t7 PassesOwn.never rfl (p8 (a9 0)) (jn 2 sc.nd) (d7 (jst 1 sc.nd (f6 i8 (f6 W2 (a9 1) (jc MI hr (a8 (a9 1) (a8 (jx (a9 2) d5) d4)))) (jx (a9 2) d5))))) (d7 (e6 (a9 1))))),?_⟩
 walk_at "sim"
 refine mB (ds:=[l.1,l.2.1,l.2.2].map d8) (by show v6 M (.tup _) _;rw[u8];rfl) ?_
 refine P4.by (fun i e M'=>M'=M∧∃ z:Option D,e=[some (h7 l),some (.int ((([l.1,l.2.1,l.2.2].take i).foldl (fun c q=>u6 c q.den) 1:Nat):Int)),z]) ⟨rfl,_,rfl⟩ (fun i e M' _ h=>by rw[h.1];show v6 M (.tup _) _;rw[u8];rfl) ?_ ?_
 ·rintro i dd e M' hd ⟨rfl,z,rfl⟩
  rw[PJ]at hd
  cases hq:[l.1,l.2.1,l.2.2][i]? with
  | none=>rw[hq]at hd;cases hd
  | some q =>
   rw[hq]at hd
   obtain rfl:=Option.some.inj hd
   have e1:([l.1,l.2.1,l.2.2].take (i+1)).foldl (fun c q=>u6 c q.den) 1=u6 (([l.1,l.2.1,l.2.2].take i).foldl (fun c q=>u6 c q.den) 1) q.den:=by
    rw[Qy,hq,QC];rfl
   have hi:=(Pw.mp hq).1
   have hqs:sz q≤1300:=by
    have:=Px hq
    simp only[Pn,Qb,or_false]at this
    rcases this with rfl|rfl|rfl
    ·exact hl.p
    ·exact hl.q
    ·exact hl.r
   have hc:0<([l.1,l.2.1,l.2.2].take i).foldl (fun c q=>u6 c q.den) 1:=by
    have:∀(xs:List Rat) (c:Nat),0<c→0<xs.foldl (fun c q=>u6 c q.den) c:=fun xs=>by
     induction xs with
     | nil=>exact fun c h=>h
     | cons x xs ih=>exact fun c h=>ih _ (by show 0<u6 c x.den;rw[G1];exact Ss h x.den_pos)
    exact this _ _ (by decide)
   have hd:q.den<2 ^ 1300:=o8 q hqs
   rw[e1]
   have hb:([l.1,l.2.1,l.2.2].take i).foldl (fun c q=>u6 c q.den) 1<2 ^ 4000:=by
    have:=ml ([l.1,l.2.1,l.2.2].take i) 1 1 (fun x hx=>hl.all x (Qm hx)) (by decide)
    refine Pt this (Qj (by decide) ?_)
    have:([l.1,l.2.1,l.2.2].take i).length≤3:=by rw[PX];exact Sb _ _
    omega
   generalize ([l.1,l.2.1,l.2.2].take i).foldl (fun c q=>u6 c q.den) 1=c at *
   have g0:0<QD c q.den:=Rc _ q.den_pos
   have g1:QD c q.den<2 ^ 1300:=PV (TZ q.den_pos (SJ _ _)) hd
   have ef:(c:Int).fdiv (QD c q.den:Nat)=((c / QD c q.den:Nat):Int):=by rw[Y4 (by omega) (by omega)];rfl
   walk_at "sim"
   rw[ef]
   refine⟨⟨by omega,Pt (W3 (by rw[Pr];exact g1) (by decide)) (by decide)⟩,?_,some (d8 q),?_⟩
   ·exact r9 4000 1300 (by rw[Pr];exact PV (QL _ _) hb) (by rw[Pr];exact hd) (by decide)
   ·unfold u6
    rw[RP]
 ·rintro e M' ⟨rfl,z,rfl⟩
  walk_at "sim"
  exact k
theorem oI(T:Txt K mg)(d:Df K mg "sides_of" aj ["lines"])(MX:Fn P w K mg base "facing" 1 ["side"] yA)(Nz:Fn P w K mg base "tops_over" 1 ["ratios","bottom"] qG)(Nc:Fn P w K mg base "common_bottom" 2 ["ratios"] GN):Fn P w K mg base "sides_of" 3 ["lines"] kK:=by
 have sc:=nS
 walk_at "fn"
 obtain⟨x0,ls,rfl,hx0,hok,k⟩:=h
 rcases hx0 with rfl|rfl
 all_goals
  refine⟨_,(d6 (jst 1 sc.nd (aE d4)) (d6 (t7 PassesOwn.never rfl (pd rfl T.b_enumerate (a8 (a9 0) d4)) (o7 (n:=2) rfl (d9 (jn 2 sc.nd) (d9 (jn 3 sc.nd) i9))) (d6 (jst 4 sc.nd (jc Nc hr (a8 (a9 3) d4))) (d6 (t9 (jc Nz hr (a8 (a9 3) (a8 (a9 4) d4))) (zO (n:=3) rfl (d9 (jn 5 sc.nd) (d9 (jn 6 sc.nd) (d9 (jn 7 sc.nd) i9))))) (d6 (jst 8 sc.nd (h8 (a8 (a9 5) (a8 (a9 6) (a8 (a9 7) (a8 (a9 2) (a8 (a9 4) d4))))))) (d6 (Q4 (jA PySem.F.slot_list_append PySem.F.type_list_append L8 (a9 1) (a8 (a9 8) d4))) (d7 (Q4 (jA PySem.F.slot_list_append PySem.F.type_list_append L8 (a9 1) (a8 (jc MX hr (a8 (a9 8) d4)) d4))))))))) (d7 (e6 (W6 (W5 (a9 1))))))),?_⟩
  walk_at "sim"
  intro p hp
  refine P4.by (fun i e M'=>M'=A8 M p (.lst ((O5 0 (ls.take i)).map sdD))∧∃ z0 z2 z3 z4 z5 z6 z7 z8:Option D,e=[z0,some (.ref p),z2,z3,z4,z5,z6,z7,z8]) ⟨rfl,_,_,_,_,_,_,_,_,rfl⟩ (fun i e M' _ _=>by simp only[i5,u8]) ?_ ?_
  ·rintro i dd e M' hd ⟨rfl,z0,z2,z3,z4,z5,z6,z7,z8,rfl⟩
   obtain⟨d,hd2,rfl⟩:=pB hd
   obtain⟨l,hl,rfl⟩:=cA hd2
   have hm:=hok.2 l (Px hl)
   have h12:=hok.1
   have hi:=(Pw.mp hl).1
   walk_at "sim"
   refine⟨hm,hm,?_⟩
   have es:D.tup [.int (f7 l 0).1,.int (f7 l 0).2.1,.int (f7 l 0).2.2.1,.int (i:Int),.int ((cbL l:Nat):Int)]=sdD (f7 l i):=rfl
   have hln:((O5 0 (ls.take i)).map sdD).length≤24:=by
    rw[Pj,dM,PX];omega
   rw[es]
   refine cL f8 (cM f8 (by omega) ?_)
   rw[L9]
   refine cL f8 ?_
   walk_at "sim"
   refine cM f8 (by rw[PB];show _+1<1000;omega) ⟨?_,_,_,_,_,_,_,_,_,rfl⟩
   rw[L9,nO ls 0 i l hl,RF,PQ,SH]
   rfl
  ·rintro e M' ⟨rfl,z0,z2,z3,z4,z5,z6,z7,z8,rfl⟩
   walk_at "sim"
   rw[fE f8,N3 hp]
   walk_at "sim"
   rw[L3,Pj,Qp]
   exact⟨_,fun _ _ h=>h,k⟩
theorem oO(T:Txt K mg)(d:Df K mg "half_rim" aw ["lines"])(MN:Fn P w K mg base "veer" 1 ["one","other"] gc)(Nl:Fn P w K mg base "next_side" 3 ["sides","here"] GI)(NA:Fn P w K mg base "outermost" 2 ["sides"] yv)(NL:Fn P w K mg base "sides_of" 3 ["lines"] kK):Fn P w K mg base "half_rim" 4 ["lines"] oh:=by
 have sc:=nX
 walk_at "fn"
 obtain⟨x0,ls,rfl,hx0,hok,k⟩:=h
 have hlo:∀ l∈ls,LineOk l:=fun l hl=>(hok.2 l hl).toLineOk
 rcases hx0 with rfl|rfl
 all_goals
  refine⟨_,(d6 (j5 (jtm gx (v8 dg rfl T.b_len X0 (a8 (a9 0) d4)) d5) (d7 (e6 (W6 (G4 d4)))) i6) (d6 (jst 1 sc.nd (jc NL hr (a8 (a9 0) d4))) (d6 (jst 2 sc.nd (aE (a8 (jc NA hr (a8 (a9 1) d4)) d4))) (d6 (jst 3 sc.nd (jc Nl hr (a8 (a9 1) (a8 (jx (a9 2) d5) d4)))) (d6 (cB PassesOwn.never (Q5 (gE (jtm uj (a9 3) A5) (bM (jtm oS (jc MN hr (a8 (jx (a9 2) d5) (a8 (a9 3) d4))) d5)))) (d6 (Q4 (jA PySem.F.slot_list_append PySem.F.type_list_append L8 (a9 2) (a8 (a9 3) d4))) (d7 (jst 3 sc.nd (jc Nl hr (a8 (a9 1) (a8 (a9 3) d4))))))) (d7 (e6 (W6 (W5 (a9 2)))))))))),?_⟩
  walk_at "sim"
  refine⟨fun h0=>?_,fun h0=>?_⟩
  ·have e:ls=[]:=by
    cases ls with
    | nil=>rfl
    | cons a b=>rw[Pj,Pp]at h0;omega
   subst e
   exact mH (fun _ _ h=>h) k
  ·have hp:∀ s∈e8 ls,0<s.2.2.1:=aU hlo (i:=0)
   have hz:∀ s∈e8 ls,SzS s:=cc hok
   have hln:=dM ls 0
   have h12:=hok.1
   obtain⟨s1,r,es⟩:∃ s r,e8 ls=s :: r:=by
    cases ls with
    | nil=>exact absurd rfl h0
    | cons a b=>exact⟨_,_,rfl⟩
   have hln:(e8 ls).length≤24:=by show(O5 0 ls).length≤24;omega
   refine⟨hok,⟨s1,r,es⟩,hz,fun p hpn=>?_⟩
   have eh:(e8 ls).headD (0,0,0,0,0)=s1:=by rw[es];rfl
   rw[eh]
   have ek:v9 (e8 ls)=A9 (e8 ls) s1 :: G7 (A9 (e8 ls) s1) (e8 ls) (e8 ls).length (C9 (A9 (e8 ls) s1) (e8 ls)):=by rw[es];rfl
   have m0:A9 (e8 ls) s1∈e8 ls:=by
    rcases bD (e8 ls) s1 with h|h
    ·rw[h,es];exact Po
    ·exact h
   rw[ek]at k
   generalize A9 (e8 ls) s1=h0 at *
   generalize e8 ls=ss at *
   refine⟨_,G5 f8 rfl,?_⟩
   walk_at "sim"
   refine⟨⟨hz _ m0,hz⟩,?_⟩
   refine uY (fun m e M'=>∃(pre:List Sd) (o:Option Sd) (z0:Option D),e=[z0,some (.vl (ss.map sdD)),some (.ref p),some (oA o)]∧M'=A8 M p (.lst ((h0 :: pre).map sdD))∧pre++G7 h0 ss m o=G7 h0 ss ss.length (C9 h0 ss)∧pre.length+m≤24∧(∀ f,o=some f→f∈ss)∧∀ f,o=some f→0<veZ h0 f→wd h0 ss f<m) ss.length ⟨[],C9 h0 ss,_,rfl,rfl,rfl,by simpa using hln,fun f hf=>(L7 hp hf).1,fun f hf hv=>Pt (bV hp hf (.inl rfl) hv) (AE h0 ss h0)⟩ ?_
   rintro m e M' ⟨pre,o,z0,rfl,rfl,hr,hlm,ho,hc⟩
   have fin:G7 h0 ss m o=[]→Ba (D.ref p) (A8 M p (.lst ((h0 :: pre).map sdD))) (fun x M1=>II x M1 R):=fun hn=>by
    rw[hn,Rp]at hr
    rw[fE f8,N3 hpn,hr]
    exact mH (fun _ _ h=>h) k
   cases o with
   | none =>
    rw[show oA none=D.non from rfl]
    walk_at "sim"
    rw[T6 (b:=true) rfl]
    walk_at "sim"
    exact fin (by cases m<;>rfl)
   | some f =>
    have hf:=ho f rfl
    rw[show oA (some f)=sdD f from rfl]
    walk_at "sim"
    rw[T6 (b:=false) rfl]
    walk_at "sim"
    refine⟨_,G5 f8 (u0 (n:=0) rfl),?_⟩
    walk_at "sim"
    refine⟨⟨hz _ m0,hz _ hf⟩,fun hv=>?_,fun hv=>?_⟩
    ·have hcm:=hc f rfl hv
     obtain⟨m,rfl⟩:∃ m',m=m'+1:=⟨m - 1,by omega⟩
     have er:G7 h0 ss (m+1) (some f)=f :: G7 h0 ss m (C9 f ss):=if_pos hv
     rw[er]at hr
     refine cL f8 (cM f8 (by rw[Pp,Pj];omega) ⟨⟨hz _ hf,hz⟩,m,Nat.lt_succ_self _,pre++[f],C9 f ss,_,rfl,?_,by rw[SH];exact hr,by rw[PB];show pre.length+1+m≤24;omega,fun g hg=>(L7 hp hg).1,fun g hg hg2=>?_⟩)
     ·rw[L9]
      congr 2
      rw[PQ];rfl
     ·have:=bV hp hg (.inr hv) hg2
      omega
    ·refine fin ?_
     cases m with
     | zero=>rfl
     | succ m=>exact if_neg hv
theorem Di(T:Txt K mg)(d:Df K mg "most" qB ["lines","p","q"])(Nm:Fn P w K mg base "most_around" 42 ["half","p","q"] yw)(Nv:Fn P w K mg base "most_along" 44 ["lines","number","p","q"] tT)(MY:Fn P w K mg base "half_rim" 4 ["lines"] oh):Fn P w K mg base "most" 45 ["lines","p","q"] yx:=by
 have sc:=Ck
 walk_at "fn"
 obtain⟨ls,p,q,rfl,⟨hls,hp,hq⟩,k⟩:=h
 have hlo:=hls.lo
 have hsz:=hls.szs
 have hsc:=hls.scale
 have hlen:=gH hlo
 have h12:=hls.1
 refine⟨_,(d6 (j5 (Q5 (gE (jtm (js hu) (a9 1) (B0 rfl T.c_NOUGHT)) (bM (jtm (js hu) (a9 2) (B0 rfl T.c_NOUGHT))))) (d7 (e6 (h8 (a8 K5 (a8 (B0 rfl T.c_NOUGHT) (a8 (h8 (a8 (B0 rfl T.c_NOUGHT) (a8 (B0 rfl T.c_NOUGHT) d4))) (a8 (G4 d4) d4))))))) i6) (d6 (jst 3 sc.nd (jc MY hr (a8 (a9 0) d4))) (d6 (j5 (jtm gx (v8 dg rfl T.b_len X0 (a8 (a9 3) d4)) d5) (d7 (e6 (h8 (a8 K5 (a8 (h8 (a8 (a9 1) (a8 (a9 2) d4))) d4))))) i6) (d6 (j5 (jtm gx (v8 dg rfl T.b_len X0 (a8 (a9 3) d4)) d5) (d7 (e6 (jc Nv hr (a8 (a9 0) (a8 (jx (jx (a9 3) d5) d5) (a8 (a9 1) (a8 (a9 2) d4))))))) i6) (d7 (e6 (jc Nm hr (a8 (a9 3) (a8 (a9 1) (a8 (a9 2) d4)))))))))),?_⟩
 walk_at "sim"
 have kz:p=0∧q=0→R (D.tup [D.str "most",d8 0,D.tup [d8 0,d8 0],D.vl []]) M:=fun c=>by
  have k:=k
  unfold bH at k
  rw[if_pos c]at k
  exact k
 have fin:¬ (p=0∧q=0)→qb ls∧(((v9 (e8 ls)).map sdD).length=(0:Int)→R (D.tup [D.str "free",D.tup [d8 p,d8 q]]) M)∧(¬ ((((v9 (e8 ls)).map sdD).length:Nat):Int)=0→(((((v9 (e8 ls)).map sdD).length:Nat):Int)=1→gIx (D.vl (RV sdD (v9 (e8 ls)))) (D.int 0) M fun x M1=>gIx x (D.int 3) M1 fun x M1=>tT [D.vl (RV h7 ls),x,d8 p,d8 q] M1 R Y0)∧(¬ ((((v9 (e8 ls)).map sdD).length:Nat):Int)=1→(((v9 (e8 ls)).length≤30∧∀(s:Sd),s∈v9 (e8 ls)→SzS s)∧(sz p≤1100∧sz q≤1100)∧∃ a b,pX (v9 (e8 ls)) (wtF p q)=some (a,b)∧(SzS a∧SzS b)∧0<veZ a b∧a.2.2.2.1≠b.2.2.2.1∧a.2.2.2.2.natAbs<2 ^ 1400∧b.2.2.2.2.natAbs<2 ^ 1400)∧R (AU (v9 (e8 ls)) p q).toD M)):=fun c=>by
  have k:=k
  unfold bH at k
  rw[if_neg c]at k
  refine⟨hls.ok,fun h0=>?_,fun h0=>⟨fun h1=>?_,fun h1=>?_⟩⟩
  ·have e:v9 (e8 ls)=[]:=by
    rw[Pj]at h0
    exact Se (by omega)
   rw[e]at k
   exact k
  ·obtain⟨h0',e⟩:∃ h,v9 (e8 ls)=[h]:=by
    rw[Pj]at h1
    exact List.length_eq_one_iff.mp (by omega)
   have hne:ls≠[]:=fun z=>by rw[z]at e;cases e
   obtain⟨g0,m,e',m0,_⟩:=D7 hlo hne
   rw[e]at e'
   cases e'
   obtain⟨l,j,el,en,_⟩:=nN m0
   rw[e]at k ⊢
   have k:R (aL (ls.getD h0'.2.2.2.1.toNat (0,0,0)) h0'.2.2.2.1 p q).toD M:=k
   rw[en,Rq,PC,el]at k
   refine⟨sdD h0',rfl,.int h0'.2.2.2.1,rfl,ls,h0'.2.2.2.1,p,q,rfl,l,j,en,el,hls.2 l (Px el),c,⟨hp,hq⟩,?_⟩
   rw[en];exact k
  ·obtain⟨h0',x,l,e⟩:∃ h0 x l,v9 (e8 ls)=h0 :: x :: l:=by
    cases e:v9 (e8 ls)with
    | nil=>rw[e]at h0;exact absurd rfl h0
    | cons a r =>
     cases r with
     | nil=>rw[e]at h1;exact absurd rfl h1
     | cons b r=>exact⟨a,b,r,rfl⟩
   obtain⟨a,b,ea,A⟩:=pV hlo e (Fg c)
   have hne:ls≠[]:=fun z=>by rw[z]at e;cases e
   have hin:∀ s∈v9 (e8 ls),s∈e8 ls:=DG hlo
   rw[e]at k hlen hin ⊢
   refine⟨⟨⟨by omega,fun s hs=>hsz s (hin s hs)⟩,⟨hp,hq⟩,a,b,ea,⟨hsz a A.ma,hsz b A.mb⟩,A.ve,Dp A.ma A.mb (by have:=A.ve;omega),hsc a A.ma,hsc b A.mb⟩,k⟩
 exact⟨fun c1=>⟨fun c2=>kz ⟨c1,c2⟩,fun c2=>fin fun z=>c2 z.2⟩,fun c1=>fin fun z=>c1 z.1⟩
theorem oQ(T:Txt K mg)(d:Df K mg "_law_low" ay ["top","bottom"])(hsee:AY P base):Fn P w K mg base "_law_low" 40 ["top","bottom"] K6:=by
 have sc:=nZ
 walk_at "fn"
 obtain⟨a,b,rfl,hb,k⟩:=h
 refine⟨_,(d6 (eP (i:=2) (j:=3) rfl sc.nd rfl rfl (by decide) rfl rfl (a8 (v8 jL rfl T.b_abs cI (a8 (a9 0) d4)) (a8 (v8 jL rfl T.b_abs cI (a8 (a9 1) d4)) d4))) (d6 (cB PassesOwn.never (jtm oS (a9 3) d5) (d7 (eP (i:=2) (j:=3) rfl sc.nd rfl rfl (by decide) rfl rfl (a8 (a9 3) (a8 (f6 Z3 (a9 2) (a9 3)) d4))))) (d6 (j5 (jtm lI (a9 1) d5) (d7 (jst 2 sc.nd (f6 N7 d5 (a9 2)))) i6) (d7 (e6 (h8 (a8 (f6 (eK (ldv hsee hr sc)) (a9 0) (a9 2)) (a8 (f6 (eK (ldv hsee hr sc)) (a9 1) (a9 2)) d4)))))))),?_⟩
 walk_at "sim"
 refine uY (fun m e M2=>M2=M∧∃ v:Nat,e=[some (.int a),some (.int b),some (.int (v:Int)),some (.int (m:Int))]∧QD v m=QD a.natAbs b.natAbs) b.natAbs ⟨rfl,a.natAbs,rfl,rfl⟩ ?_
 rintro m e M2 ⟨rfl,v,rfl,hg⟩
 walk_at "sim"
 refine⟨fun h0=>⟨by omega,v % m,Rg _ (by omega),m,by rw[Int.natCast_emod],by rw[← hg];exact(RM.pz v m (by omega)).symm⟩,fun h0=>?_⟩
 have hm:m=0:=by omega
 subst hm
 rw[TY]at hg
 subst hg
 have hn:=zY (a:=a) hb
 refine⟨fun h1=>⟨by show(0 - ((QD a.natAbs b.natAbs:Nat):Int))≠0;omega,by show(0 - ((QD a.natAbs b.natAbs:Nat):Int))≠0;omega,eM hb (by rw[if_pos h1,Int.zero_sub]) k⟩,fun h1=>⟨hn,hn,eM hb (by rw[if_neg h1]) k⟩⟩
theorem oP(T:Txt K mg)(d:Df K mg "_law_sum" ax ["one","other"])(ME:Fn P w K mg base "_law_low" 40 ["top","bottom"] K6):Fn P w K mg base "_law_sum" 41 ["one","other"] kM:=by
 have sc:=nY
 walk_at "fn"
 obtain⟨q,r,rfl,hz,k⟩:=h
 refine⟨_,(d7 (e6 (jc ME hr (a8 (f6 N8 (f6 i8 (jx (a9 0) d5) (jx (a9 1) d5)) (f6 i8 (jx (a9 1) d5) (jx (a9 0) d5))) (a8 (f6 i8 (jx (a9 0) d5) (jx (a9 1) d5)) d4))))),?_⟩
 walk_at "sim"
 rw[← RM.rL]
 exact⟨bND hz,bND (by omega),bDD hz,Qv (RM.A6 q) (RM.A6 r),k⟩
theorem lH(T:Txt K mg)(d:Df K mg "_law_back" V4 ["one"]):Fn P w K mg base "_law_back" 1 ["one"] cY:=by
 have sc:=kv
 walk_at "fn"
 obtain⟨q,rfl,k⟩:=h
 refine⟨_,(d7 (e6 (h8 (a8 (f6 N7 d5 (jx (a9 0) d5)) (a8 (jx (a9 0) d5) d4))))),?_⟩
 walk_at "sim"
 rw[Int.zero_sub,Fl]
 exact k
theorem lG(T:Txt K mg)(d:Df K mg "_law_less" V3 ["one","other"])(MU:Fn P w K mg base "_law_sum" 41 ["one","other"] kM)(NB:Fn P w K mg base "_law_back" 1 ["one"] cY):Fn P w K mg base "_law_less" 42 ["one","other"] eB:=by
 have sc:=ku
 walk_at "fn"
 obtain⟨q,r,rfl,hz,k⟩:=h
 refine⟨_,(d7 (e6 (jc MU hr (a8 (a9 0) (a8 (jc NB hr (a8 (a9 1) d4)) d4))))),?_⟩
 walk_at "sim"
 have:=RM.F7 r
 rw[show q + -r=q - r by grind]
 exact⟨by omega,k⟩
theorem iu(T:Txt K mg)(d:Df K mg "_law_taken" R7 ["one","other"])(ME:Fn P w K mg base "_law_low" 40 ["top","bottom"] K6):Fn P w K mg base "_law_taken" 41 ["one","other"] C5:=by
 have sc:=ij
 walk_at "fn"
 obtain⟨q,r,rfl,hz,k⟩:=h
 refine⟨_,(d7 (e6 (jc ME hr (a8 (f6 i8 (jx (a9 0) d5) (jx (a9 1) d5)) (a8 (f6 i8 (jx (a9 0) d5) (jx (a9 1) d5)) d4))))),?_⟩
 walk_at "sim"
 rw[← RM.qU]
 exact⟨bNN hz,bDD hz,Qv (RM.A6 q) (RM.A6 r),k⟩
theorem Z2(T:Txt K mg)(d:Df K mg "_law_seen_behind" E7 ["table","lines"])(MJ:Fn P w K mg base "_law_less" 42 ["one","other"] eB)(MF:Fn P w K mg base "_law_taken" 41 ["one","other"] C5):Fn P w K mg base "_law_seen_behind" 43 ["table","lines"] qI:=by
 have sc:=Y9
 walk_at "fn"
 obtain⟨a,b,c,d,ls,rfl,⟨hl,ht,hz⟩,k⟩:=h
 refine⟨_,(d6 (t9 (a9 0) (o7 (n:=4) rfl (d9 (jn 2 sc.nd) (d9 (jn 3 sc.nd) (d9 (jn 4 sc.nd) (d9 (jn 5 sc.nd) i9)))))) (d6 (jst 6 sc.nd (aE d4)) (d6 (t7 PassesOwn.never rfl (p8 (a9 1)) (o7 (n:=3) rfl (d9 (jn 7 sc.nd) (d9 (jn 8 sc.nd) (d9 (jn 9 sc.nd) i9)))) (d6 (eP (i:=7) (j:=8) rfl sc.nd rfl rfl (by decide) rfl rfl (a8 (jc MJ hr (a8 (jc MF hr (a8 (a9 7) (a8 (a9 5) d4))) (a8 (jc MF hr (a8 (a9 8) (a8 (a9 4) d4))) d4))) (a8 (jc MJ hr (a8 (jc MF hr (a8 (a9 8) (a8 (a9 2) d4))) (a8 (jc MF hr (a8 (a9 7) (a8 (a9 3) d4))) d4))) d4))) (d7 (Q4 (jA PySem.F.slot_list_append PySem.F.type_list_append L8 (a9 6) (a8 (h8 (a8 (a9 7) (a8 (a9 8) (a8 (a9 9) d4)))) d4)))))) (d7 (e6 (W6 (W5 (a9 6)))))))),?_⟩
 walk_at "sim"
 intro p hp
 refine P4.by (fun i e M'=>(∃ z7 z8 z9:Option D,e=[some (gY a b c d),some (D.vl (RV h7 ls)),some (d8 a),some (d8 b),some (d8 c),some (d8 d),some (D.ref p),z7,z8,z9])∧M'=A8 M p (.lst (((ls.take i).map (sbL a b c d)).map h7))) ⟨⟨_,_,_,rfl⟩,rfl⟩ (fun i e M' _ _=>by simp only[i5]) ?_ ?_
 ·rintro i dd e M' hd ⟨⟨z7,z8,z9,rfl⟩,rfl⟩
  obtain⟨l,hli,rfl⟩:=cA hd
  have hm:=Px hli
  have hle:=hz l hm
  obtain⟨q1,q2,q3,q4,q5⟩:=yn ht hle
  obtain⟨h1,h2,h3⟩:=hle
  obtain⟨t1,t2,t3,t4⟩:=ht
  have hi:=(Pw.mp hli).1
  walk_at "sim"
  refine⟨by omega,by omega,by omega,by omega,by omega,by omega,cL f8 (cM f8 (by rw[Pj,Pj,PX];omega) ⟨⟨_,_,_,rfl⟩,?_⟩)⟩
  rw[L9,Qy,hli,PQ,PQ];rfl
 ·rw[Pj]
  rintro e M' ⟨⟨z7,z8,z9,rfl⟩,rfl⟩
  rw[Qp]
  walk_at "sim"
  rw[fE f8,N3 hp]
  exact⟨_,fun _ _ h=>h,k⟩
theorem dA(T:Txt K mg)(d:Df K mg "tops_over" J6 ["ratios","bottom"]):Fn P w K mg base "tops_over" 1 ["ratios","bottom"] yt:=by
 have sc:=R4
 walk_at "fn"
 obtain⟨qs,c,rfl,⟨⟨hl,hz⟩,rfl⟩,k⟩:=h
 refine⟨_,(d7 (e6 (E5 [1] ["one"] ["bottom"] rfl (by decide +kernel) rfl (by decide +kernel) (by decide +kernel) rfl (dH ⟨rfl,rfl⟩) (dH (Or.inl rfl)) (p8 (a9 0)) (fun _ _ _ _ _ _=>(jn 0 (show(["one","bottom"]:List Str).Nodup by decide +kernel))) (fun _ _ _ _ _ _=>y9) (fun _ _ _ _ _ _=>(f6 i8 (jx (a9 0) d5) (f6 W2 (a9 1) (jx (a9 0) d5))))))),?_⟩
 walk_at "sim"
 rw[Qw]at k
 refine B1 (xs:=qs) (enc:=d8) (fun q=>.int (q.num*((lcL qs / q.den:Nat):Int))) (by omega) (by show v6 M (.vl _) _;rw[i5]) (fun q hq Q hQ=>?_) k
 have hqs:=hz q hq
 have d0:=q.den_pos
 have hd:q.den<2 ^ 5000:=o8 q hqs
 have hb:lcL qs<2 ^ 400000:=by
  have:=zJ qs 1 1 hz (by decide)
  exact Pt this (Qj (by decide) (by omega))
 have ef:((lcL qs:Nat):Int).fdiv (q.den:Int)=((lcL qs / q.den:Nat):Int):=by rw[Y4 (by omega) (by omega)];rfl
 walk_at "sim"
 rw[ef]
 exact⟨⟨by omega,Pt (W3 (by rw[Pr];exact hd) (by decide)) (by decide)⟩,zw 5000 400000 (E6 q hqs) (by rw[Pr];exact PV (QL _ _) hb) (by decide),hQ⟩
theorem Z0(T:Txt K mg)(d:Df K mg "common_bottom" B8 ["ratios"])(MI:Fn P w K mg base "divisor" 1 ["one","other"] L5):Fn P w K mg base "common_bottom" 2 ["ratios"] GL:=by
 have sc:=G9
 walk_at "fn"
 obtain⟨qs,rfl,⟨hl,hz⟩,k⟩:=h
 refine⟨_,(d6 (jst 1 sc.nd d5) (d6 (t7 PassesOwn.never rfl (p8 (a9 0)) (jn 2 sc.nd) (d7 (jst 1 sc.nd (f6 i8 (f6 W2 (a9 1) (jc MI hr (a8 (a9 1) (a8 (jx (a9 2) d5) d4)))) (jx (a9 2) d5))))) (d7 (e6 (a9 1))))),?_⟩
 walk_at "sim"
 refine P4.by (fun i e M'=>M'=M∧∃ z:Option D,e=[some (.vl (qs.map d8)),some (.int ((lcL (qs.take i):Nat):Int)),z]) ⟨rfl,_,rfl⟩ (fun i e M' _ h=>by rw[h.1,i5]) ?_ ?_
 ·rintro i dd e M' hd ⟨rfl,z,rfl⟩
  rw[PJ]at hd
  cases hq:qs[i]? with
  | none=>rw[hq]at hd;cases hd
  | some q =>
   rw[hq]at hd
   obtain rfl:=Option.some.inj hd
   have e1:lcL (qs.take (i+1))=u6 (lcL (qs.take i)) q.den:=by
    unfold lcL
    rw[Qy,hq,QC];rfl
   have hqs:=hz q (Px hq)
   have hc:=uw (qs.take i)
   have hd:q.den<2 ^ 5000:=o8 q hqs
   have hb:lcL (qs.take i)<2 ^ 400000:=by
    have:=zJ (qs.take i) 1 1 (fun x hx=>hz x (Qm hx)) (by decide)
    refine Pt this (Qj (by decide) ?_)
    have:(qs.take i).length≤60:=by rw[PX];omega
    omega
   rw[e1]
   generalize lcL (qs.take i)=c at *
   have g0:0<QD c q.den:=Rc _ q.den_pos
   have g1:QD c q.den<2 ^ 5000:=PV (TZ q.den_pos (SJ _ _)) hd
   have ef:(c:Int).fdiv (QD c q.den:Nat)=((c / QD c q.den:Nat):Int):=by rw[Y4 (by omega) (by omega)];rfl
   walk_at "sim"
   rw[ef]
   refine⟨⟨by omega,Pt (W3 (by rw[Pr];exact g1) (by decide)) (by decide)⟩,?_,some (d8 q),?_⟩
   ·exact zw 400000 5000 (by rw[Pr];exact PV (QL _ _) hb) (by rw[Pr];exact hd) (by decide)
   ·unfold u6
    rw[RP]
 ·rintro e M' ⟨rfl,z,rfl⟩
  walk_at "sim"
  rw[Pj,Qp]
  exact k
theorem yZ(T:Txt K mg)(d:Df K mg "total" ky ["ratios"])(MC:Fn P w K mg base "ratio" 40 ["top","bottom"] K6)(Nk:Fn P w K mg base "tops_over" 1 ["ratios","bottom"] yt)(MV:Fn P w K mg base "common_bottom" 2 ["ratios"] GL):Fn P w K mg base "total" 41 ["ratios"] qF:=by
 have sc:=yf
 walk_at "fn"
 obtain⟨qs,rfl,⟨hl,hz⟩,k⟩:=h
 refine⟨_,(d6 (jst 1 sc.nd (jc MV hr (a8 (a9 0) d4))) (d7 (e6 (jc MC hr (a8 (v8 (Ls rfl) rfl T.b_sum Im (a8 (jc Nk hr (a8 (a9 0) (a8 (a9 1) d4))) d4)) (a8 (a9 1) d4)))))),?_⟩
 walk_at "sim"
 have hp:=uw qs
 exact⟨⟨hl,hz⟩,⟨hl,hz⟩,by omega,by rw[xW qs (lcL qs) hp fun q hq=>Dt hq];exact k⟩
theorem Dm(T:Txt K mg)(d:Df K mg "area" qE ["rays"])(MA:Fn P w K mg base "times" 41 ["one","other"] C5)(NZ:Fn P w K mg base "total" 41 ["ratios"] qF)(NH:Fn P w K mg base "cross" 43 ["one","other"] eF):Fn P w K mg base "area" 44 ["rays"] tV:=by
 have sc:=Co
 walk_at "fn"
 obtain⟨cs,rfl,⟨hl,h2,hz⟩,k⟩:=h
 refine⟨_,(d6 (K9 (i:=1) [] ["one","other"] [] sc.nd rfl (Or.inl rfl) rfl (by decide +kernel) rfl (by decide +kernel) (by decide +kernel) rfl aM aM (eO rfl T.b_zip (a8 (a9 0) (a8 (L0 (A0 (a9 0) (w6 d5) y4) (A0 (a9 0) y4 (w6 d5))) d4))) (fun _ _ _ _ _ _=>(o7 (n:=2) rfl (d9 (jn 0 (show(["one","other"]:List Str).Nodup by decide +kernel)) (d9 (jn 1 (show(["one","other"]:List Str).Nodup by decide +kernel)) i9)))) (fun _ _ _ _ _ _=>y9) (fun _ _ _ _ _ _=>(jc NH hr (a8 (a9 0) (a8 (a9 1) d4))))) (d7 (e6 (jc MA hr (a8 (jc NZ hr (a8 (a9 1) d4)) (a8 (B0 rfl T.c_HALF) d4)))))),?_⟩
 walk_at "sim"
 rw[uS,mI]
 refine⟨?_,?_⟩
 ·have e:=congrArg SK (uS (cs:=cs))
  rw[PB,Pj,gf (by omega)]at e
  rw[e]
  exact Pu (show cs.length≤1000 by omega) (by decide)
 refine B1 (xs:=cs.zip (cs.drop 1++cs.take 1)) (enc:=fun p=>D.tup [rD p.1,rD p.2]) (fun p=>d8 (p.1.1*p.2.2 - p.2.1*p.1.2)) ?_ (by simp only[i5,u8,and_self]) (fun p hp Q hQ=>?_) ?_
 ·rw[Qx];omega
 ·have m1:=Rb hp
  have m2:p.2∈cs:=by
   rcases PL.mp m1.2 with h|h
   ·exact Ra h
   ·exact Qm h
  have a:=hz _ m1.1
  have b:=hz _ m2
  walk_at "sim"
  exact⟨_,_,_,_,rfl,⟨a.1,a.2,b.1,b.2⟩,hQ⟩
 ·have er:(cs.zip (cs.drop 1++cs.take 1)).map (fun p=>d8 (p.1.1*p.2.2 - p.2.1*p.1.2))=(lZ cs).map d8:=by unfold lZ;rw[Qw];rfl
  rw[er,zV]
  walk_at "sim"
  have hc:=lY (cs:=cs) (by omega)
  have hs:=Ie hz
  have ss:=GB _ hs
  have h3:=lQ
  refine⟨⟨by omega,hs⟩,?_⟩
  walk_at "sim"
  rw[Ih (by omega)]at ss ⊢
  exact⟨by omega,k⟩
theorem Hz(T:Txt K mg)(d:Df K mg "led" yo ["table","ray"])(MQ:Fn P w K mg base "plus" 41 ["one","other"] aa)(MA:Fn P w K mg base "times" 41 ["one","other"] C5):Fn P w K mg base "led" 42 ["table","ray"] GJ:=by
 have sc:=GF
 walk_at "fn"
 obtain⟨a,b,c,d,y,u,rfl,h1,h2,k⟩:=h
 refine⟨_,(d6 (t9 (a9 0) (o7 (n:=4) rfl (d9 (jn 2 sc.nd) (d9 (jn 3 sc.nd) (d9 (jn 4 sc.nd) (d9 (jn 5 sc.nd) i9)))))) (d6 (t9 (a9 1) (o7 (n:=2) rfl (d9 (jn 6 sc.nd) (d9 (jn 7 sc.nd) i9)))) (d7 (e6 (h8 (a8 (jc MQ hr (a8 (jc MA hr (a8 (a9 2) (a8 (a9 6) d4))) (a8 (jc MA hr (a8 (a9 3) (a8 (a9 7) d4))) d4))) (a8 (jc MQ hr (a8 (jc MA hr (a8 (a9 4) (a8 (a9 6) d4))) (a8 (jc MA hr (a8 (a9 5) (a8 (a9 7) d4))) d4))) d4))))))),?_⟩
 walk_at "sim"
 exact⟨by walk_at "size",by walk_at "size",by walk_at "size",by walk_at "size",by walk_at "size",by walk_at "size",k⟩
theorem Dj(T:Txt K mg)(d:Df K mg "less" qC ["one","other"]):Fn P w K mg base "less" 1 ["one","other"] fK:=by
 have sc:=Cm
 refine i4 d sc (fun ds M R Y h=>?_) (fun f cdv A outer s H E ds M R Y hr h=>?_)
 ·obtain⟨q,r,rfl,_⟩:=h;rfl
 ·obtain⟨q,r,rfl,hz,k⟩:=h
  refine⟨_,(d7 (e6 (jm lI (f6 i8 (jx (a9 0) d5) (jx (a9 1) d5)) (f6 i8 (jx (a9 1) d5) (jx (a9 0) d5))))),?_⟩
  refine⟨_,rfl,_,rfl,_,rfl,_,rfl,_,_,rfl,rfl,mND hz,_,rfl,_,rfl,_,rfl,_,rfl,_,_,rfl,rfl,mND (by omega),_,rfl,?_⟩
  rw[← RM.Kr]at k
  exact k
theorem oN(T:Txt K mg)(d:Df K mg "is_lower" av ["one","other"])(MZ:Fn P w K mg base "less" 1 ["one","other"] fK):Fn P w K mg base "is_lower" 2 ["one","other"] qJ:=by
 have sc:=nW
 walk_at "fn"
 obtain⟨a,b,rfl,⟨ha,hb⟩,k⟩:=h
 refine⟨_,(d6 (j5 (jtm (oR hu) (jx (a9 0) d5) (jx (a9 1) d5)) (d7 (e6 (jc MZ hr (a8 (jx (a9 0) d5) (a8 (jx (a9 1) d5) d4))))) i6) (d7 (e6 (jc MZ hr (a8 (jx (a9 0) d5) (a8 (jx (a9 1) d5) d4)))))),?_⟩
 walk_at "sim"
 unfold K4 at k
 obtain⟨a1,a2⟩:=ha
 obtain⟨b1,b2⟩:=hb
 refine⟨fun z=>⟨by omega,?_⟩,fun z=>⟨by omega,?_⟩⟩
 ·rw[if_neg z]at k;exact k
 ·rw[if_pos z]at k;exact k
theorem gq(T:Txt K mg)(d:Df K mg "from_lowest" P0 ["rays"])(NM:Fn P w K mg base "is_lower" 2 ["one","other"] qJ):Fn P w K mg base "from_lowest" 3 ["rays"] qM:=by
 have sc:=fQ
 walk_at "fn"
 obtain⟨rs,rfl,⟨hne,hl,hz⟩,k⟩:=h
 refine⟨_,(d6 (jst 1 sc.nd d5) (d6 (t7 PassesOwn.never rfl (pd rfl T.b_enumerate (a8 (a9 0) d4)) (o7 (n:=2) rfl (d9 (jn 2 sc.nd) (d9 (jn 3 sc.nd) i9))) (d7 (j5 (G3 (jc NM hr (a8 (a9 3) (a8 (jx (a9 0) (a9 1)) d4)))) (d7 (jst 1 sc.nd (a9 2))) i6))) (d7 (e6 (L0 (A0 (a9 0) (w6 (a9 1)) y4) (A0 (a9 0) y4 (w6 (a9 1)))))))),?_⟩
 walk_at "sim"
 refine P4.by (fun i e M'=>M'=M∧∃ z2 z3:Option D,e=[some (.vl (rs.map rD)),some (.int ((J7 rs i:Nat):Int)),z2,z3]) ⟨rfl,_,_,rfl⟩ (fun i e M' _ _=>by simp only[i5]) ?_ ?_
 ·rintro i dd e M' hd ⟨rfl,z2,z3,rfl⟩
  obtain⟨d,hd2,rfl⟩:=pB hd
  rw[PJ]at hd2
  cases hq:rs[i]? with
  | none=>rw[hq]at hd2;cases hd2
  | some c =>
   rw[hq]at hd2
   obtain rfl:=Option.some.inj hd2
   have hi:=(Pw.mp hq).1
   have hp:=gi hne i (by omega)
   have e1:rs[J7 rs i]? = some (rs.getD (J7 rs i) (0,0)):=by rw[PH hp];simp[hp]
   have e2:rs.getD i (0,0)=c:=by simp[hq]
   have ex:atI (rs.map rD) ((J7 rs i:Nat):Int)=some (rD (rs.getD (J7 rs i) (0,0))):=u0 (by rw[PJ,e1];rfl)
   walk_at "sim"
   refine⟨_,ex,?_⟩
   walk_at "sim"
   have es:J7 rs (i+1)=if K4 c (rs.getD (J7 rs i) (0,0))=true then i else J7 rs i:=by
    show(if K4 (rs.getD i (0,0)) _=true then _ else _)=_
    rw[e2]
   rw[es]
   refine⟨⟨hz c (Px hq),hz _ (Px e1)⟩,fun z=>⟨some (.int (i:Int)),some (rD c),?_⟩,fun z=>⟨some (.int (i:Int)),some (rD c),?_⟩⟩
   ·rw[if_pos z]
   ·rw[if_neg (by rw[z];decide)]
 ·rintro e M' ⟨rfl,z2,z3,rfl⟩
  rw[L3,Pj]
  walk_at "sim"
  rw[bR,cG]
  refine⟨?_,?_⟩
  ·have h1:((rs.map rD).drop (J7 rs rs.length)).length≤rs.length:=by rw[Qh,Pj];omega
   have h2:((rs.map rD).take (J7 rs rs.length)).length≤rs.length:=by rw[PX,Pj];omega
   exact Pu (Nat.add_le_add h1 h2) (Pu (by omega:rs.length+rs.length≤1000) (by decide))
  ·rw[← Si,← RQ,← PQ]
   exact k
theorem qT(T:Txt K mg)(d:Df K mg "corners" cu ["lines"])(Nn:Fn P w K mg base "from_lowest" 3 ["rays"] qM)(MD:Fn P w K mg base "opposite" 1 ["one"] cY)(MX:Fn P w K mg base "facing" 1 ["side"] yA)(Nq:Fn P w K mg base "met_at" 41 ["one","other"] Cq)(MY:Fn P w K mg base "half_rim" 4 ["lines"] oh):Fn P w K mg base "corners" 42 ["lines"] ji:=by
 have sc:=qx
 walk_at "fn"
 obtain⟨x0,ls,rfl,hx0,hok,k⟩:=h
 have hlo:∀ l∈ls,LineOk l:=fun l hl=>(hok.2 l hl).toLineOk
 have hlen:=gH hlo
 rcases hx0 with rfl|rfl
 all_goals
  refine⟨_,(d6 (jst 1 sc.nd (jc MY hr (a8 (a9 0) d4))) (d6 (j5 (jtm lI (v8 dg rfl T.b_len X0 (a8 (a9 1) d4)) d5) (d7 (e6 A5)) i6) (d6 (K9 (i:=2) [] ["one","other"] [] sc.nd rfl (Or.inl rfl) rfl (by decide +kernel) rfl (by decide +kernel) (by decide +kernel) rfl aM aM (eO rfl T.b_zip (a8 (a9 1) (a8 (L0 (A0 (a9 1) (w6 d5) y4) (G4 (a8 (jc MX hr (a8 (jx (a9 1) d5) d4)) d4))) d4))) (fun _ _ _ _ _ _=>(o7 (n:=2) rfl (d9 (jn 0 (show(["one","other"]:List Str).Nodup by decide +kernel)) (d9 (jn 1 (show(["one","other"]:List Str).Nodup by decide +kernel)) i9)))) (fun _ _ _ _ _ _=>y9) (fun _ _ _ _ _ _=>(jc Nq hr (a8 (a9 0) (a8 (a9 1) d4))))) (d7 (e6 (jc Nn hr (a8 (L0 (a9 2) (E5 [] ["y","u"] [] rfl (by decide +kernel) rfl (by decide +kernel) (by decide +kernel) rfl aM aM (p8 (a9 2)) (fun _ _ _ _ _ _=>(o7 (n:=2) rfl (d9 (jn 0 (show(["y","u"]:List Str).Nodup by decide +kernel)) (d9 (jn 1 (show(["y","u"]:List Str).Nodup by decide +kernel)) i9)))) (fun _ _ _ _ _ _=>y9) (fun _ _ _ _ _ _=>(h8 (a8 (jc MD hr (a8 (a9 0) d4)) (a8 (jc MD hr (a8 (a9 1) d4)) d4)))))) d4))))))),?_⟩
  walk_at "sim"
  refine⟨hok,fun hlt=>?_,fun hge=>?_⟩
  ·have e:C3 ls=none:=by
    unfold C3
    cases e:v9 (e8 ls)with
    | nil=>rfl
    | cons a r =>
     cases r with
     | nil=>rfl
     | cons b r=>rw[e,Pj,Pp,Pp]at hlt;omega
   rw[e]at k
   exact k
  ·obtain⟨h0,x,l,e⟩:∃ h0 x l,v9 (e8 ls)=h0 :: x :: l:=by
    cases e:v9 (e8 ls)with
    | nil=>rw[e]at hge;exact absurd (by decide) hge
    | cons a r =>
     cases r with
     | nil=>rw[e]at hge;exact absurd (by show(1:Int)<2;decide) hge
     | cons b r=>exact⟨a,b,r,rfl⟩
   have hne:ls≠[]:=fun z=>by rw[z]at e;cases e
   obtain⟨g0,g,eg,m0,hg⟩:=D7 hlo hne
   rw[e]at eg
   injection eg with q1 q2
   subst q1;subst q2
   have hall:∀ ab∈(h0 :: x :: l).zip (x :: l++[g6 h0]),SzS ab.1∧SzS ab.2∧veZ ab.1 ab.2≠0:=fun ab hab=>by
    rcases hg with⟨z,_⟩|⟨_,_,hg⟩
    ·cases z
    ·obtain⟨a1,a2,a3⟩:=hg ab hab
     exact⟨cc hok _ a1,cc hok _ a2,by omega⟩
   have ec:C3 ls=some (cy (C6 h0 (x :: l)++(C6 h0 (x :: l)).map ngZ)):=by unfold C3;rw[e]
   rw[ec]at k
   have rl:=oq h0 (x :: l)
   have h12:=hok.1
   have hrs:∀ z∈C6 h0 (x :: l),Eg z:=fun z hz=>by
    obtain⟨ab,hab,rfl⟩:=Pm.mp hz
    obtain⟨a1,a2,a3⟩:=hall ab hab
    have:=Fi ⟨a1.p,a1.q,a1.r⟩ ⟨a2.p,a2.q,a2.r⟩ a3
    exact⟨by have:=this.1;omega,by have:=this.2;omega⟩
   rw[e]at hlen ⊢
   rw[Pp,Pp]at hlen
   rw[Qc]
   walk_at "sim"
   rw[Az,← Qc,show[sdD (g6 h0)]=[g6 h0].map sdD from rfl,← PQ,show sdD h0 :: (x :: l).map sdD=(h0 :: x :: l).map sdD from rfl,qg]
   refine⟨by rw[Pj];exact Pu (by rw[Pp];omega:(x :: l).length+1≤1000) (by decide),?_⟩
   refine B1 (xs:=(h0 :: x :: l).zip (x :: l++[g6 h0])) (enc:=fun ab=>D.tup [sdD ab.1,sdD ab.2]) (fun ab=>rD (ry (tri ab.1) (tri ab.2))) ?_ (by simp only[i5,and_self]) (fun ab hab Q hQ=>?_) ?_
   ·rw[Qx,Pp,Pp];omega
   ·walk_at "sim"
    exact⟨hall ab hab,hQ⟩
   ·have er:((h0 :: x :: l).zip (x :: l++[g6 h0])).map (fun ab=>rD (ry (tri ab.1) (tri ab.2)))=(C6 h0 (x :: l)).map rD:=by unfold C6;rw[Qw];rfl
    rw[er]
    walk_at "sim"
    refine B1 (xs:=C6 h0 (x :: l)) (enc:=rD) (fun z=>rD (ngZ z)) ?_ (by simp only[i5]) (fun z hz Q hQ=>?_) ?_
    ·rw[rl,Pp];omega
    ·rw[show rD z=D.tup [d8 z.1,d8 z.2]from rfl]
     walk_at "sim"
     exact hQ
    ·have er2:(C6 h0 (x :: l)).map (fun z=>rD (ngZ z))=((C6 h0 (x :: l)).map ngZ).map rD:=by rw[Qw];rfl
     rw[er2]
     walk_at "sim"
     rw[← PQ]
     refine⟨?_,?_⟩
     ·rw[Pj,Pj,Pj,rl]
      exact Pu (by rw[Pp];omega:(x :: l).length+1+((x :: l).length+1)≤1000) (by decide)
     ·walk_at "sim"
      refine⟨⟨?_,?_,fun z hz=>?_⟩,k⟩
      ·intro z
       have:=congrArg SK z
       rw[PB,rl]at this
       simp at this
      ·rw[PB,Pj,rl,Pp];omega
      ·rcases PL.mp hz with hz|hz
       ·exact hrs z hz
       ·obtain⟨y,hy,rfl⟩:=Pm.mp hz
        obtain⟨y1,y2⟩:=hrs y hy
        exact⟨by show sz (-y.1)≤_;rw[RM.F7];exact y1,by show sz (-y.2)≤_;rw[RM.F7];exact y2⟩
theorem bE(T:Txt K mg)(d:Df K mg "_law_led_right" I0 ["lines","rays","table","p","q"])(Oa:Fn P w K mg base "most" 45 ["lines","p","q"] yx)(MM:Fn P w K mg base "_law_seen_behind" 43 ["table","lines"] qI)(NN:Fn P w K mg base "area" 44 ["rays"] tV)(OL:Fn P w K mg base "led" 42 ["table","ray"] GJ)(MP:Fn P w K mg base "corners" 42 ["lines"] ji):Fn P w K mg base "_law_led_right" 46 ["lines","rays","table","p","q"] qK:=by
 have sc:=aV
 walk_at "fn"
 obtain⟨ls,r,a,b,c,d,p,q,rfl,⟨bs,hb,rfl,rfl,dt,ht,hp,hq⟩,k⟩:=h
 refine⟨_,(d6 (jst 5 sc.nd (jc MM hr (a8 (a9 2) (a8 (a9 0) d4)))) (d6 (jst 6 sc.nd (jc MP hr (a8 (a9 5) d4))) (d6 (j5 (Q5 (bL (jtm gw (a9 1) A5) (W4 (jtm gw (a9 6) A5)))) (d7 (e6 (uy (jm gw (a9 1) A5) (ux (jm gw (a9 6) A5))))) i6) (d6 (j5 (Q5 (bL (jtm (oR hu) (W5 (v8 (jK hu) rfl T.b_sorted cH (a8 (a9 6) d4))) (W5 (v8 (jK hu) rfl T.b_sorted cH (a8 (E5 [2] ["ray"] ["table"] rfl (by decide +kernel) rfl (by decide +kernel) (by decide +kernel) rfl (dH ⟨rfl,rfl⟩) (dH (Or.inl rfl)) (p8 (a9 1)) (fun _ _ _ _ _ _=>(jn 0 (show(["ray","table"]:List Str).Nodup by decide +kernel))) (fun _ _ _ _ _ _=>y9) (fun _ _ _ _ _ _=>(jc OL hr (a8 (a9 1) (a8 (a9 0) d4))))) d4)))) (W4 (jtm (oR hu) (jc NN hr (a8 (a9 6) d4)) (jc NN hr (a8 (a9 1) d4)))))) (d7 (e6 pj)) i6) (d6 (jst 7 sc.nd (jx (jc MM hr (a8 (a9 2) (a8 (G4 (a8 (h8 (a8 (a9 3) (a8 (a9 4) (a8 (h8 (a8 d5 (a8 d5 d4))) d4)))) d4)) d4))) d5)) (d7 (e6 (jm (js hu) (jx (jc Oa hr (a8 (a9 5) (a8 (jx (a9 7) d5) (a8 (jx (a9 7) d5) d4)))) d5) (jx (jc Oa hr (a8 (a9 0) (a8 (a9 3) (a8 (a9 4) d4)))) d5))))))))),?_⟩
 walk_at "sim"
 have L:=zH hb
 have LB:=LW hb dt ht
 have l64:=ur hb
 refine⟨⟨L.1,ht,l64⟩,LB.ok,?_⟩
 rcases GH dt L.lo with⟨e1,e2⟩|⟨cs,ds,e1,e2,n1,n2,na,hm,ar⟩
 ·rw[e1,e2]
  show gIs false .non .non _ _
  rw[T6 (b:=true) rfl]
  walk_at "sim"
  show gIs false .non .non _ _
  rw[T6 (b:=true) rfl]
  walk_at "sim"
  show gIs false .non .non _ _
  rw[T6 (b:=true) rfl]
  exact k
 ·rw[e1,e2]
  obtain⟨q1,q2,q3⟩:=Lo hb e1
  have dl:ds.length=cs.length:=by
   have:ds.Perm (cs.map (lmZ a b c d)):=(List.perm_ext_iff_of_nodup n2 (QJ.mpr (n1.imp fun h e=>h (qX (by grind) e)))).mpr fun w=>(hm w).symm
   rw[this.length_eq,Pj]
  have dz:∀ z∈ds,sz z.1≤1200∧sz z.2≤1200:=fun z hz=>by
   obtain⟨y,hy,rfl⟩:=Pm.mp ((hm z).mpr hz)
   exact Ks ht (q3 y hy)
  show gIs false (.vl (cs.map rD)) .non _ _
  rw[T6 (b:=false) rfl]
  walk_at "sim"
  show gIs false (.vl (ds.map rD)) .non _ _
  rw[T6 (b:=false) rfl]
  have oc:qP (some cs) = .vl (cs.map rD):=rfl
  have od:qP (some ds) = .vl (ds.map rD):=rfl
  rw[oc,od]
  walk_at "sim"
  refine⟨_,ds,rfl,rfl,by omega,by omega,n2,fun ws pw rw' p1 hp1=>mF hp1 ?_⟩
  refine B1 (xs:=cs) (enc:=rD) (fun z=>rD (lmZ a b c d z)) (by omega) (by simp only[i5]) (fun z hz Q hQ=>?_) ?_
  ·walk_at "sim"
   have:=q3 z hz
   obtain⟨t1,t2,t3,t4⟩:=ht
   exact⟨a,b,c,d,z.1,z.2,rfl,by omega,by omega,hQ⟩
  have e3:cs.map (fun z=>rD (lmZ a b c d z))=(cs.map (lmZ a b c d)).map rD:=by rw[Qw];rfl
  rw[e3]
  have nt:(cs.map (lmZ a b c d)).Nodup:=QJ.mpr (n1.imp fun h e=>h (qX (by grind) e))
  refine⟨_,cs.map (lmZ a b c d),rfl,rfl,by rw[Pj];omega,by rw[Pj];omega,nt,fun vs pv rv p2 hp2=>mF hp2 ?_⟩
  obtain rfl:ws=vs:=yD rw' rv fun z=>by rw[pw.mem_iff,pv.mem_iff];exact(hm z).symm
  have clz:cl 60 (.vl (ws.map rD))=true:=AG (k:=59) fun d hd=>by
   obtain⟨y,_,rfl⟩:=Pm.mp hd
   rfl
  refine⟨clz,clz,fun z=>absurd rfl z,fun _=>?_⟩
  walk_at "sim"
  refine⟨⟨by omega,by omega,dz⟩,⟨by omega,q2,fun z hz=>by have:=q3 z hz;omega⟩,?_⟩
  rw[ar]
  walk_at "sim"
  have z1:sz 1≤1:=by rw[RM.xV];decide
  have h1:LSz 64 (p,q,(1:Rat)):=⟨by show sz p≤64;omega,by show sz q≤64;omega,by show sz 1≤64;omega⟩
  refine⟨a,b,c,d,[(p,q,1)],rfl,⟨by show 1≤12;decide,ht,fun l hl=>by rw[PY.mp hl];exact h1⟩,?_⟩
  obtain⟨s1,s2,s3⟩:=(yn ht h1).2.2.2.2
  obtain⟨v,z,sh,z',sh',m1,m2⟩:=Cp (p:=p) (q:=q) dt L.lo na
  show gIx (.vl [h7 (p*d - q*c,q*a - p*b,1)]) (.int 0) M _
  walk_at "sim"
  refine⟨⟨LB,Pu s1 (by decide),Pu s2 (by decide)⟩,?_⟩
  rw[m2]
  show gIx (.tup [.str "most",d8 v,rD z',.vl (sh'.map shD)]) (.int 1) M _
  walk_at "sim"
  refine⟨⟨L,by omega,by omega⟩,?_⟩
  rw[m1]
  show gIx (.tup [.str "most",d8 v,rD z,.vl (sh.map shD)]) (.int 1) M _
  walk_at "sim"
  exact k
theorem lF(T:Txt K mg)(d:Df K mg "_law_next" V0 ["pool","base"]):Fn P w K mg base "_law_next" 1 ["pool","base"] fJ:=by
 have sc:=kr
 refine i4 d sc (fun ds M R Y h=>?_) (fun f cdv A outer s H E ds M R Y hr h=>?_)
 ·obtain⟨p,b,rfl,_⟩:=h;rfl
 ·obtain⟨p,b,rfl,⟨x,y,z,hM⟩,hb,hl,k⟩:=h
  refine⟨_,(d6 (j5 (jtm oS (jx (a9 0) d5) d5) (d6 (jst 2 sc.nd (f6 Z3 (jx (a9 0) d5) (a9 1))) (d6 (t9 (f6 W2 (jx (a9 0) d5) (a9 1)) (eQ (a9 0) d5)) (d7 (e6 (a9 2))))) i6) (d6 (t9 (f6 N8 (jx (a9 0) d5) d5) (eQ (a9 0) d5)) (d6 (jst 3 sc.nd (f6 Z3 (f6 N8 (jx (a9 0) d5) (f6 i8 d5 (jx (a9 0) d5))) d5)) (d6 (jst 4 sc.nd (f6 Z3 (f6 i8 (f6 N8 (a9 3) d5) (f6 N8 (a9 3) d5)) d5)) (d7 (e6 (f6 Z3 (f6 W2 (f6 Z3 (f6 i8 (a9 4) (a9 4)) d5) d5) (a9 1)))))))),?_⟩
  refine⟨_,rfl,_,G5 hM rfl,_,rfl,_,rfl,?_⟩
  refine Mk (fun h0=>?_) (fun h0=>?_)
  ·refine⟨_,rfl,_,G5 hM rfl,_,rfl,_,_,rfl,rfl,hb,?_⟩
   refine⟨_,rfl,_,G5 hM rfl,_,rfl,_,_,rfl,rfl,⟨by omega,hl⟩,_,rfl,_,_,_,_,rfl,rfl,hM,rfl,?_⟩
   exact⟨_,rfl,k _ _ (Sq _ (by omega)) (RJ _ hb) (K7.upd _ _ _)⟩
  ·refine⟨_,rfl,_,G5 hM rfl,_,rfl,_,rfl,_,_,_,_,rfl,rfl,hM,rfl,?_⟩
   refine⟨_,rfl,_,G5 f8 rfl,_,rfl,_,G5 f8 rfl,_,_,rfl,rfl,HD (by decide) (by decide),_,rfl,_,_,rfl,rfl,(by show(0:Int)<1000000007;decide),?_⟩
   refine⟨_,rfl,_,rfl,_,rfl,_,rfl,_,_,rfl,rfl,Mg (by decide) (by decide) (by decide) (by decide),_,_,rfl,rfl,(by show(0:Int)<998244353;decide),?_⟩
   refine⟨_,rfl,_,rfl,_,_,rfl,rfl,Kp (by decide) (by decide),_,_,rfl,rfl,(by show(0:Int)<2147483647;decide),_,_,rfl,rfl,Mt,_,rfl,_,_,rfl,rfl,hb,?_⟩
   exact k _ _ (Sq _ (by omega)) (RJ _ hb) (K7.upd _ _ _)
theorem gr(T:Txt K mg)(d:Df K mg "_law_number" P1 ["pool"])(ME:Fn P w K mg base "_law_low" 40 ["top","bottom"] K6)(MB:Fn P w K mg base "_law_next" 1 ["pool","base"] fJ):Fn P w K mg base "_law_number" 41 ["pool"] tS:=by
 have sc:=fR
 walk_at "fn"
 obtain⟨p,rfl,hp,k⟩:=h
 refine⟨_,(d6 (j5 (jtm lI (jc MB hr (a8 (a9 0) (a8 d5 d4))) d5) (d7 (e6 (jc ME hr (a8 (f6 N7 (jc MB hr (a8 (a9 0) (a8 d5 d4))) d5) (a8 (jx (G4 (a8 d5 (a8 d5 (a8 d5 (a8 d5 (a8 d5 (a8 d5 d4))))))) (jc MB hr (a8 (a9 0) (a8 d5 d4)))) d4))))) i6) (d7 (e6 (jc ME hr (a8 (f6 N7 (jc MB hr (a8 (a9 0) (a8 d5 d4))) d5) (a8 (f6 N8 d5 (jc MB hr (a8 (a9 0) (a8 d5 d4)))) d4)))))),?_⟩
 walk_at "sim"
 refine⟨hp,by decide,fun r M1 r0 r1 s1=>⟨fun _=>⟨s1.pool,by decide,fun a M2 a0 a1 s2=>⟨s2.pool,by decide,fun i M3 i0 i1 s3=>DH i0 (by show i<6;exact i1) fun d hd=>?_⟩⟩,fun _=>⟨s1.pool,by decide,fun a M2 a0 a1 s2=>⟨s2.pool,by decide,fun b M3 b0 b1 s3=>⟨by omega,k _ M3 (aC (by decide) (by omega) (by omega) (by omega)) (s1.trans (s2.trans s3))⟩⟩⟩⟩⟩
 obtain⟨m,rfl,hm⟩:∃ m:Int,d = .int m∧1≤m∧m≤4:=by
  simp only[Pn,Qb,or_false]at hd
  rcases hd with rfl|rfl|rfl|rfl|rfl|rfl
  all_goals exact⟨_,rfl,by decide,by decide⟩
 walk_at "sim"
 exact⟨by omega,k _ M3 (aC (by decide) (by omega) (by omega) (by omega)) (s1.trans (s2.trans s3))⟩
theorem ir(T:Txt K mg)(d:Df K mg "by_columns" R6 ["first","second"]):Fn P w K mg base "by_columns" 1 ["first","second"] cf:=by
 have sc:=ig
 walk_at "fn"
 obtain⟨a,b,c,d,rfl,k⟩:=h
 refine⟨_,(d7 (e6 (h8 (a8 (jx (a9 0) d5) (a8 (jx (a9 1) d5) (a8 (jx (a9 0) d5) (a8 (jx (a9 1) d5) d4))))))),?_⟩
 walk_at "sim"
 exact k
theorem gp(T:Txt K mg)(d:Df K mg "led_by_part" O9 ["part","ray"])(Nf:Fn P w K mg base "minus" 42 ["one","other"] aS)(MA:Fn P w K mg base "times" 41 ["one","other"] C5)(MQ:Fn P w K mg base "plus" 41 ["one","other"] aa):Fn P w K mg base "led_by_part" 43 ["part","ray"] tU:=by
 have sc:=fP
 walk_at "fn"
 obtain⟨x,y,u,rfl,hz,k⟩:=h
 refine⟨_,(d6 (t9 (a9 0) (o7 (n:=2) rfl (d9 (jn 2 sc.nd) (d9 (jn 3 sc.nd) i9)))) (d6 (t9 (a9 1) (o7 (n:=2) rfl (d9 (jn 4 sc.nd) (d9 (jn 5 sc.nd) i9)))) (d6 (j5 (jtm zp (a9 2) K5) (d7 (e6 (h8 (a8 (jc MQ hr (a8 (a9 4) (a8 (jc MA hr (a8 (a9 3) (a8 (a9 5) d4))) d4))) (a8 (a9 5) d4))))) i6) (d6 (j5 (jtm zp (a9 2) K5) (d7 (e6 (h8 (a8 (a9 4) (a8 (jc Nf hr (a8 (a9 5) (a8 (jc MA hr (a8 (a9 3) (a8 (a9 4) d4))) d4))) d4))))) i6) (d7 (e6 (a9 1))))))),?_⟩
 walk_at "sim"
 unfold Q3 at k
 refine⟨fun h1=>?_,fun h1=>⟨fun h2=>?_,fun h2=>?_⟩⟩
 ·rw[if_pos h1]at k;exact⟨by omega,by walk_at "size",k⟩
 ·rw[if_neg h1,if_pos h2]at k;exact⟨by omega,by walk_at "size",k⟩
 ·rw[if_neg h1,if_neg h2]at k;exact k
theorem oH(T:Txt K mg)(d:Df K mg "table_of" ai ["bench"])(Nw:Fn P w K mg base "by_columns" 1 ["first","second"] cf)(MG:Fn P w K mg base "led_by_part" 43 ["part","ray"] tU):Fn P w K mg base "table_of" 44 ["bench"] dW:=by
 have sc:=nR
 walk_at "fn"
 obtain⟨x0,bs,rfl,hx0,⟨hl,hok⟩,k⟩:=h
 rcases hx0 with rfl|rfl
 all_goals
  refine⟨_,(d6 (jst 1 sc.nd (B0 rfl T.c_LEVEL_RAY)) (d6 (jst 2 sc.nd (B0 rfl T.c_AXIS_RAY)) (d6 (t7 PassesOwn.never rfl (p8 (a9 0)) (jn 3 sc.nd) (d6 (jst 1 sc.nd (jc MG hr (a8 (a9 3) (a8 (a9 1) d4)))) (d7 (jst 2 sc.nd (jc MG hr (a8 (a9 3) (a8 (a9 2) d4))))))) (d7 (e6 (jc Nw hr (a8 (a9 1) (a8 (a9 2) d4)))))))),?_⟩
  walk_at "sim"
  refine P4.by (fun i e M'=>M'=M∧∃ z:Option D,e=[some _,some (D5 (j7 (bs.take i) (1,0)).1 (j7 (bs.take i) (1,0)).2),some (D5 (j7 (bs.take i) (0,1)).1 (j7 (bs.take i) (0,1)).2),z]) ⟨rfl,_,rfl⟩ (fun i e M' _ _=>by simp only[i5,u8]) ?_ ?_
  ·rintro i dd e M' hd ⟨rfl,z,rfl⟩
   obtain⟨pt,hpt,rfl⟩:=jo hd
   have hm:=Px hpt
   have t1:=(P5 Ik hok i).t2
   have t2:=(P5 Il hok i).t2
   have a1:=t1.y
   have a2:=t1.u
   have b1:=t2.y
   have b2:=t2.u
   have q2:=(hok pt hm).sz
   have o1:=bC hpt (1,0)
   have o2:=bC hpt (0,1)
   walk_at "sim"
   rw[← o1,← o2]
   exact⟨by omega,by omega,_,rfl⟩
  ·rw[Pj]
   rintro e M' ⟨rfl,z,rfl⟩
   rw[Qp]
   walk_at "sim"
   exact k
theorem lj(T:Txt K mg)(d:Df K mg "slopes_by" U0 ["line","h"])(MQ:Fn P w K mg base "plus" 41 ["one","other"] aa)(Nf:Fn P w K mg base "minus" 42 ["one","other"] aS)(ML:Fn P w K mg base "unsigned" 1 ["one"] nK)(Nu:Fn P w K mg base "over" 41 ["one","other"] jX)(MD:Fn P w K mg base "opposite" 1 ["one"] cY)(MA:Fn P w K mg base "times" 41 ["one","other"] C5):Fn P w K mg base "slopes_by" 43 ["line","h"] az:=by
 have sc:=ke
 walk_at "fn"
 obtain⟨l,g,rfl,⟨⟨h1,h2,h3⟩,hn,hh⟩,k⟩:=h
 refine⟨_,(d6 (t9 (a9 0) (o7 (n:=3) rfl (d9 (jn 2 sc.nd) (d9 (jn 3 sc.nd) (d9 (jn 4 sc.nd) i9))))) (d6 (jst 5 sc.nd (jc MD hr (a8 (jc Nu hr (a8 (jc MA hr (a8 (a9 2) (a8 (a9 1) d4))) (a8 (a9 3) d4))) d4))) (d6 (jst 6 sc.nd (jc ML hr (a8 (jc Nu hr (a8 (a9 4) (a8 (a9 3) d4))) d4))) (d7 (e6 (h8 (a8 (jc Nf hr (a8 (a9 5) (a8 (a9 6) d4))) (a8 (jc MQ hr (a8 (a9 5) (a8 (a9 6) d4))) d4)))))))),?_⟩
 walk_at "sim"
 have m1:=RM.u9 l.1 g
 have m2:=RM.O2 (l.1*g) l.2.1 hn
 have m3:=RM.F7 (l.1*g / l.2.1)
 have m4:=RM.O2 l.2.2 l.2.1 hn
 have m5:=R0 (l.2.2 / l.2.1)
 exact⟨by omega,hn,by omega,hn,by omega,by omega,by omega,k⟩
theorem vJ(T:Txt K mg)(d:Df K mg "slopes" fX ["lines","h"])(MZ:Fn P w K mg base "less" 1 ["one","other"] fK)(ML:Fn P w K mg base "unsigned" 1 ["one"] nK)(MA:Fn P w K mg base "times" 41 ["one","other"] C5)(NC:Fn P w K mg base "slopes_by" 43 ["line","h"] az):Fn P w K mg base "slopes" 44 ["lines","h"] bb:=by
 have sc:=vt
 walk_at "fn"
 obtain⟨ls,g,rfl,⟨hl,hz,hg⟩,k⟩:=h
 refine⟨_,(d6 (jst 2 sc.nd A5) (d6 (jst 3 sc.nd A5) (d6 (t7 PassesOwn.never rfl (p8 (a9 0)) (jn 4 sc.nd) (d6 (t9 (a9 4) (o7 (n:=3) rfl (d9 (jn 5 sc.nd) (d9 (jn 6 sc.nd) (d9 (jn 7 sc.nd) i9))))) (d7 (j5 (jtm (js hu) (a9 6) (B0 rfl T.c_NOUGHT)) (d7 (j5 (G3 (jc MZ hr (a8 (a9 7) (a8 (jc ML hr (a8 (jc MA hr (a8 (a9 5) (a8 (a9 1) d4))) d4)) d4)))) (d7 (e6 A5)) i6)) (d6 (t9 (jc NC hr (a8 (a9 4) (a8 (a9 1) d4))) (o7 (n:=2) rfl (d9 (jn 8 sc.nd) (d9 (jn 9 sc.nd) i9)))) (d6 (j5 (Q5 (bL (jtm gw (a9 2) A5) (W4 (G3 (jc MZ hr (a8 (a9 2) (a8 (a9 8) d4))))))) (d7 (jst 2 sc.nd (a9 8))) i6) (d7 (j5 (Q5 (bL (jtm gw (a9 3) A5) (W4 (G3 (jc MZ hr (a8 (a9 9) (a8 (a9 3) d4))))))) (d7 (jst 3 sc.nd (a9 9))) i6)))))))) (d6 (j5 (Q5 (gE (jtm uj (a9 2) A5) (bM (G3 (jc MZ hr (a8 (a9 3) (a8 (a9 2) d4))))))) (d7 (e6 A5)) i6) (d7 (e6 (h8 (a8 (a9 2) (a8 (a9 3) d4))))))))),?_⟩
 walk_at "sim"
 refine P4.by (fun i e M'=>M'=M∧∃(st:Option (Rat × Rat)) (z4 z5 z6 z7 z8 z9:Option D),e=[some (D.vl (RV h7 ls)),some (d8 g),some (vH (st.map (·.1))),some (vH (st.map (·.2))),z4,z5,z6,z7,z8,z9]∧B9 g (ls.drop i) st=B9 g ls none∧∀ a b,st=some (a,b)→sz a≤4100∧sz b≤4100) ⟨rfl,none,_,_,_,_,_,_,rfl,rfl,fun a b h=>nomatch h⟩ (fun i e M' _ _=>by simp only[i5]) ?_ ?_
 ·rintro i dd e M' hd ⟨rfl,st,z4,z5,z6,z7,z8,z9,rfl,hc,hs⟩
  obtain⟨l,hli,rfl⟩:=cA hd
  have hm:=Px hli
  have hle:=hz l hm
  obtain⟨q1,q2,q3⟩:=hz l hm
  have hi:=(Pw.mp hli).1
  have hdrop:ls.drop i=l :: ls.drop (i+1):=by
   rw[SD hi,(Pw.mp hli).2]
  rw[hdrop]at hc
  rw[S5]at hc
  have m0:=RM.u9 l.1 g
  have m1:=R0 (l.1*g)
  walk_at "sim"
  refine⟨fun hq0=>?_,fun hq0=>?_⟩
  ·rw[if_pos hq0]at hc
   refine⟨by omega,by omega,fun h=>?_,fun h=>?_⟩
   ·rw[if_pos h]at hc
    rw[← hc]at k
    exact k
   ·rw[if_neg h]at hc
    exact⟨st,_,_,_,_,_,_,rfl,hc,hs⟩
  ·rw[if_neg hq0]at hc
   refine⟨⟨hle,hq0,hg⟩,?_⟩
   have m2:=RM.O2 (l.1*g) l.2.1 hq0
   have m3:=RM.F7 (l.1*g / l.2.1)
   have m4:=RM.O2 l.2.2 l.2.1 hq0
   have m5:=R0 (l.2.2 / l.2.1)
   have m6:sz (K3 l g - D3 l)≤4100:=by
    have:=RM.Q9 (K3 l g) (D3 l)
    unfold K3 D3 at *
    omega
   have m7:sz (K3 l g+D3 l)≤4100:=by
    have:=RM.O4 (K3 l g) (D3 l)
    unfold K3 D3 at *
    omega
   generalize K3 l g - D3 l=lo at *
   generalize K3 l g+D3 l=up at *
   rcases st with _|⟨a,b⟩
   ·simp only[UD,vH,Kz]
    walk_at "sim"
    exact⟨some (lo,up),_,_,_,_,_,_,rfl,hc,fun a b e=>by cases e;exact⟨m6,m7⟩⟩
   ·obtain⟨ha,hb⟩:=hs a b rfl
    replace hc:B9 g (ls.drop (i+1)) (some (if a<lo then lo else a,if up<b then up else b))=B9 g ls none:=hc
    simp only[Td,vH,Kx]
    walk_at "sim"
    refine⟨by omega,fun h1=>?_,fun h1=>?_⟩
    ·rw[if_pos h1]at hc
     refine⟨by omega,fun h2=>?_,fun h2=>?_⟩
     ·rw[if_pos h2]at hc
      exact⟨some (lo,up),_,_,_,_,_,_,rfl,hc,fun a b e=>by cases e;exact⟨m6,m7⟩⟩
     ·rw[if_neg h2]at hc
      exact⟨some (lo,b),_,_,_,_,_,_,rfl,hc,fun a b e=>by cases e;exact⟨m6,hb⟩⟩
    ·rw[if_neg h1]at hc
     refine⟨by omega,fun h2=>?_,fun h2=>?_⟩
     ·rw[if_pos h2]at hc
      exact⟨some (a,up),_,_,_,_,_,_,rfl,hc,fun a b e=>by cases e;exact⟨ha,m7⟩⟩
     ·rw[if_neg h2]at hc
      exact⟨some (a,b),_,_,_,_,_,_,rfl,hc,fun a b e=>by cases e;exact⟨ha,hb⟩⟩
 ·rw[Pj]
  rintro e M' ⟨rfl,st,z4,z5,z6,z7,z8,z9,rfl,hc,hs⟩
  rw[List.drop_length,wc]at hc
  rw[← hc]at k
  rcases st with _|⟨a,b⟩
  ·simp only[UD,vH]
   walk_at "sim"
   simp only[Kz]
   walk_at "sim"
   exact k
  ·obtain⟨ha,hb⟩:=hs a b rfl
   simp only[Td,vH]
   walk_at "sim"
   simp only[Kx]
   walk_at "sim"
   replace k:R (if b<a then D.non else D.tup [d8 a,d8 b]) M':=k
   refine⟨by omega,fun h=>?_,fun h=>?_⟩
   ·rw[if_pos h]at k;exact k
   ·rw[if_neg h]at k;exact k
theorem oK(T:Txt K mg)(d:Df K mg "lines_of" ao ["bench"])(MG:Fn P w K mg base "led_by_part" 43 ["part","ray"] tU):Fn P w K mg base "lines_of" 44 ["bench"] V6:=by
 have sc:=nU
 walk_at "fn"
 obtain⟨x0,bs,rfl,hx0,⟨hl,hok⟩,k⟩:=h
 rcases hx0 with rfl|rfl
 all_goals
  refine⟨_,(d6 (jst 1 sc.nd (aE d4)) (d6 (jst 2 sc.nd (B0 rfl T.c_LEVEL_RAY)) (d6 (jst 3 sc.nd (B0 rfl T.c_AXIS_RAY)) (d6 (t7 PassesOwn.never rfl (p8 (a9 0)) (jn 4 sc.nd) (vT (j5 (jtm zp (jx (a9 4) d5) K5) (d7 (Q4 (jA PySem.F.slot_list_append PySem.F.type_list_append L8 (a9 1) (a8 (h8 (a8 (jx (a9 2) d5) (a8 (jx (a9 3) d5) (a8 (jx (a9 4) d5) d4)))) d4)))) i6) (d6 (jst 2 sc.nd (jc MG hr (a8 (a9 4) (a8 (a9 2) d4)))) (d7 (jst 3 sc.nd (jc MG hr (a8 (a9 4) (a8 (a9 3) d4)))))))) (d7 (e6 (W6 (W5 (a9 1))))))))),?_⟩
  walk_at "sim"
  intro p hp
  refine P4.by (fun i e M'=>(∃ y0 z:Option D,e=[y0,some (.ref p),some (D5 (j7 (bs.take i) (1,0)).1 (j7 (bs.take i) (1,0)).2),some (D5 (j7 (bs.take i) (0,1)).1 (j7 (bs.take i) (0,1)).2),z])∧M'=A8 M p (.lst ((C8 bs i).map h7))) ⟨⟨_,_,rfl⟩,rfl⟩ (fun i e M' _ _=>by simp only[i5,u8]) ?_ ?_
  ·rintro i dd e M' hd ⟨⟨y0,z,rfl⟩,rfl⟩
   obtain⟨pt,hpt,rfl⟩:=jo hd
   have hm:=Px hpt
   have t1:=(P5 Ik hok i).t2
   have t2:=(P5 Il hok i).t2
   have a1:=t1.y
   have a2:=t1.u
   have b1:=t2.y
   have b2:=t2.u
   have q2:=(hok pt hm).sz
   have o1:=bC hpt (1,0)
   have o2:=bC hpt (0,1)
   have hll:=Q0 bs i
   have hi:=(Pw.mp hpt).1
   walk_at "sim"
   refine IG (fun e' M'=>e'=[y0,some (.ref p),some (D5 (j7 (bs.take i) (1,0)).1 (j7 (bs.take i) (1,0)).2),some (D5 (j7 (bs.take i) (0,1)).1 (j7 (bs.take i) (0,1)).2),some (m8 pt)]∧M'=A8 M p (.lst ((C8 bs (i+1)).map h7))) ?_ ?_
   ·walk_at "sim"
    refine⟨fun h1=>cL f8 (cM f8 (by rw[Pj];omega) ?_),fun h1=>?_⟩
    ·rw[L9,vO hpt h1,PQ];rfl
    ·rw[zG hpt h1]
   ·rintro e' M' ⟨rfl,rfl⟩
    walk_at "sim"
    refine⟨by omega,by omega,⟨y0,some (m8 pt),?_⟩⟩
    rw[o1,o2]
  ·rintro e M' ⟨⟨y0,z,rfl⟩,rfl⟩
   walk_at "sim"
   rw[fE f8,N3 hp]
   walk_at "sim"
   rw[Pj]
   exact⟨_,fun _ _ h=>h,k⟩
theorem lr(T:Txt K mg)(d:Df K mg "seen_from" U4 ["bench","x"])(Na:Fn P w K mg base "lines_of" 44 ["bench"] V6)(MQ:Fn P w K mg base "plus" 41 ["one","other"] aa)(MA:Fn P w K mg base "times" 41 ["one","other"] C5):Fn P w K mg base "seen_from" 45 ["bench","x"] og:=by
 have sc:=ki
 walk_at "fn"
 obtain⟨x0,bs,x,rfl,hx0,⟨hl,hok,hx⟩,k⟩:=h
 have hll:=Q0 bs bs.length
 have hz:=uq hl hok bs.length
 rcases hx0 with rfl|rfl
 all_goals
  refine⟨_,(d7 (e6 (E5 [1] ["p","q","r"] ["x"] rfl (by decide +kernel) rfl (by decide +kernel) (by decide +kernel) rfl (dH ⟨rfl,rfl⟩) (dH (Or.inl rfl)) (p8 (jc Na hr (a8 (a9 0) d4))) (fun _ _ _ _ _ _=>(o7 (n:=3) rfl (d9 (jn 0 (show(["p","q","r","x"]:List Str).Nodup by decide +kernel)) (d9 (jn 1 (show(["p","q","r","x"]:List Str).Nodup by decide +kernel)) (d9 (jn 2 (show(["p","q","r","x"]:List Str).Nodup by decide +kernel)) i9))))) (fun _ _ _ _ _ _=>y9) (fun _ _ _ _ _ _=>(h8 (a8 (a9 0) (a8 (jc MQ hr (a8 (jc MA hr (a8 (a9 0) (a8 (a9 3) d4))) (a8 (a9 1) d4))) (a8 (a9 2) d4)))))))),?_⟩
  walk_at "sim"
  refine⟨⟨hl,hok⟩,B1 (fun l=>h7 (l.1,l.1*x+l.2.1,l.2.2)) (by omega) (by simp only[i5]) (fun l hl Q hQ=>?_) k⟩
  obtain⟨z1,z2,z3⟩:=hz l hl
  have m:=RM.u9 l.1 x
  walk_at "sim"
  exact⟨by omega,by omega,hQ⟩
theorem Dk(T:Txt K mg)(d:Df K mg "cone" qD ["bench","x","h"])(Nr:Fn P w K mg base "slopes" 44 ["lines","h"] bb)(MW:Fn P w K mg base "seen_from" 45 ["bench","x"] og):Fn P w K mg base "cone" 46 ["bench","x","h"] kT:=by
 have sc:=Cn
 walk_at "fn"
 obtain⟨x0,bs,x,g,rfl,hx0,⟨hl,hok,hx,hg⟩,k⟩:=h
 rcases hx0 with rfl|rfl
 all_goals
  refine⟨_,(d7 (e6 (jc Nr hr (a8 (jc MW hr (a8 (a9 0) (a8 (a9 1) d4))) (a8 (a9 2) d4))))),?_⟩
  walk_at "sim"
  refine⟨⟨hl,hok,hx⟩,?_⟩
  have hll:=cj bs x
  exact⟨B2 bs x,g,by unfold B2;rw[Qw];rfl,⟨by omega,fun l h=>(P7 hl hok hx l h).2.1,hg⟩,k⟩
theorem W0(T:Txt K mg)(d:Df K mg "_law_put_together" D9 ["rows"])(MF:Fn P w K mg base "_law_taken" 41 ["one","other"] C5)(MU:Fn P w K mg base "_law_sum" 41 ["one","other"] kM)(MJ:Fn P w K mg base "_law_less" 42 ["one","other"] eB):Fn P w K mg base "_law_put_together" 43 ["rows"] yu:=by
 have sc:=T8
 walk_at "fn"
 obtain⟨rs,rfl,⟨hl,hz⟩,k⟩:=h
 refine⟨_,(d6 (jst 1 sc.nd (h8 (a8 d5 (a8 d5 d4)))) (d6 (t7 PassesOwn.never rfl (eO rfl T.b_zip (a8 (a9 0) (a8 (A0 (a9 0) (w6 d5) y4) d4))) (o7 (n:=2) rfl (d9 (jn 2 sc.nd) (d9 (jn 3 sc.nd) i9))) (d6 (jst 4 sc.nd (jc MU hr (a8 (jc MJ hr (a8 (jx (a9 2) d5) (a8 (jx (a9 2) d5) d4))) (a8 (jc MJ hr (a8 (jx (a9 3) d5) (a8 (jx (a9 3) d5) d4))) d4)))) (d7 (jst 1 sc.nd (jc MU hr (a8 (a9 1) (a8 (jc MF hr (a8 (jc MJ hr (a8 (jx (a9 3) d5) (a8 (jx (a9 2) d5) d4))) (a8 (a9 4) d4))) d4))))))) (d7 (e6 (jc MF hr (a8 (a9 1) (a8 (h8 (a8 d5 (a8 d5 d4))) d4))))))),?_⟩
 walk_at "sim"
 rw[Ay,rR]
 refine P4.by (fun i e M'=>M'=M∧∃ z2 z3 z4:Option D,e=[some (.vl (rs.map h7)),some (d8 (evS ((rs.zip (rs.drop 1)).take i))),z2,z3,z4]∧sz (evS ((rs.zip (rs.drop 1)).take i))≤14010*i+1) ⟨rfl,_,_,_,rfl,by show sz 0≤_;rw[RM.X3];omega⟩ (fun i e M' _ h=>by rw[h.1];exact⟨by rw[i5],by rw[i5]⟩) ?_ ?_
 ·rintro i dd e M' hd ⟨rfl,z2,z3,z4,rfl,hs⟩
  rw[PJ]at hd
  cases hq:(rs.zip (rs.drop 1))[i]? with
  | none=>rw[hq]at hd;cases hd
  | some p =>
   rw[hq]at hd
   obtain rfl:=Option.some.inj hd
   have hi:=(Pw.mp hq).1
   rw[Qx]at hi
   have m1:=Rb (Px hq)
   obtain⟨a1,a2,a3,_,a5,_⟩:=HX (hz _ m1.1) (hz _ (Ra m1.2))
   have b1:=hz _ m1.1
   have b2:=hz _ (Ra m1.2)
   have e1:evS ((rs.zip (rs.drop 1)).take (i+1))=evS ((rs.zip (rs.drop 1)).take i)+(p.2.1 - p.1.1)*((p.1.2.2 - p.1.2.1)+(p.2.2.2 - p.2.2.1)):=by
    rw[Qy,hq]
    show(_++[p]).foldl _ 0=_
    rw[QC];rfl
   rw[e1]
   generalize evS ((rs.zip (rs.drop 1)).take i)=c at *
   have hm:=RM.u9 (p.2.1 - p.1.1) ((p.1.2.2 - p.1.2.1)+(p.2.2.2 - p.2.2.1))
   have hc:=RM.O4 c ((p.2.1 - p.1.1)*((p.1.2.2 - p.1.2.1)+(p.2.2.2 - p.2.2.1)))
   obtain⟨⟨x1,x2,x3⟩,⟨y1,y2,y3⟩⟩:=p
   walk_at "sim"
   dsimp only at a1 a2 a3 a5 b1 b2 hm hc
   exact⟨by omega,by omega,by omega,by omega,by omega,by omega,_,_,_,rfl,by omega⟩
 ·rintro e M' ⟨rfl,z2,z3,z4,rfl,hs⟩
  walk_at "sim"
  rw[Pj]at hs ⊢
  rw[Qp]at hs ⊢
  rw[zV]
  walk_at "sim"
  have h3:=lQ
  rw[KU]
  refine⟨?_,k⟩
  rw[Qx]at hs
  omega
theorem gm(T:Txt K mg)(d:Df K mg "rising_once" O7 ["ratios"])(MZ:Fn P w K mg base "less" 1 ["one","other"] fK):Fn P w K mg base "rising_once" 2 ["ratios"] kL:=by
 have sc:=fN
 walk_at "fn"
 obtain⟨qs,rfl,⟨hl,hz⟩,k⟩:=h
 refine⟨_,(d6 (jst 1 sc.nd (G4 d4)) (d6 (t7 PassesOwn.never rfl (p8 (a9 0)) (jn 2 sc.nd) (d6 (K9 (i:=3) [2] ["other"] ["one"] sc.nd rfl (Or.inl rfl) rfl (by decide +kernel) rfl (by decide +kernel) (by decide +kernel) rfl (dH ⟨rfl,rfl⟩) (dH (Or.inl rfl)) (p8 (a9 1)) (fun _ _ _ _ _ _=>(jn 0 (show(["other","one"]:List Str).Nodup by decide +kernel))) (fun _ _ _ _ _ _=>(jz (G3 (jc MZ hr (a8 (a9 0) (a8 (a9 1) d4)))))) (fun _ _ _ _ _ _=>(a9 0))) (d7 (j5 (jtm (zo hu) (a9 2) (a9 1)) (d7 (jst 1 sc.nd (L0 (L0 (a9 3) (G4 (a8 (a9 2) d4))) (A0 (a9 1) (w6 (v8 dg rfl T.b_len X0 (a8 (a9 3) d4))) y4)))) i6)))) (d7 (e6 (a9 1))))),?_⟩
 walk_at "sim"
 refine P4.by (fun i e M'=>M'=M∧∃ z2 z3:Option D,e=[some (.vl (qs.map d8)),some (.vl ((G6 (qs.take i)).map d8)),z2,z3]) ⟨rfl,_,_,rfl⟩ (fun i e M' _ _=>by simp only[i5]) ?_ ?_
 ·rintro i dd e M' hd ⟨rfl,z2,z3,rfl⟩
  rw[PJ]at hd
  cases hq:qs[i]? with
  | none=>rw[hq]at hd;cases hd
  | some q =>
   rw[hq]at hd
   obtain rfl:=Option.some.inj hd
   have e1:G6 (qs.take (i+1))=cD (G6 (qs.take i)) q:=by
    unfold G6
    rw[Qy,hq,QC];rfl
   have hi:=(Pw.mp hq).1
   obtain⟨rs,rm⟩:=lb (qs.take i)
   have hzr:∀ y∈G6 (qs.take i),sz y≤2402:=fun y hy=>hz y (Qm ((rm y).mp hy))
   have hlr:(G6 (qs.take i)).length≤i:=by
    have:=gg (qs.take i)
    rw[PX]at this
    omega
   have hqz:=hz q (Px hq)
   rw[e1]
   unfold cD
   generalize G6 (qs.take i)=xs at *
   walk_at "sim"
   refine bU (xs:=xs) (enc:=d8) (fun y=>decide (y<q)) d8 (by omega) (by simp only[i5]) (fun y hy Q N h1 h2=>?_) ?_
   ·have:=hzr y hy
    walk_at "sim"
    exact⟨by omega,fun z=>h1 (decide_eq_true z),fun z=>h2 (decide_eq_false z)⟩
   ·walk_at "sim"
    have fl:=QX (fun y=>decide (y<q)) xs
    have s1:((xs.filter fun y=>decide (y<q)).map d8).length+1≤sizeLine:=by
     rw[Pj];exact Pu (by omega:_+1≤1000) (by decide)
    refine⟨pQ xs,fun hn=>⟨s1,?_,some (d8 q),some (.vl ((xs.filter fun y=>decide (y<q)).map d8)),?_⟩,fun hin=>⟨some (d8 q),some (.vl ((xs.filter fun y=>decide (y<q)).map d8)),?_⟩⟩
    ·rw[bR,PB,Qh,Pj,Pj]
     exact Pu (by show _+1+_≤1000;omega) (by decide)
    ·rw[if_neg (fun z=>hn (yJ.mpr z)),bR,Pj,← Si,PQ,PQ]
     rfl
    ·rw[if_pos (yJ.mp hin)]
 ·rintro e M' ⟨rfl,z2,z3,rfl⟩
  walk_at "sim"
  rw[Pj,Qp]
  exact k
theorem zl(T:Txt K mg)(d:Df K mg "field" kF ["bench","x"])(Np:Fn P w K mg base "rising_once" 2 ["ratios"] kL)(Nr:Fn P w K mg base "slopes" 44 ["lines","h"] bb)(MP:Fn P w K mg base "corners" 42 ["lines"] ji)(MW:Fn P w K mg base "seen_from" 45 ["bench","x"] og):Fn P w K mg base "field" 46 ["bench","x"] kR:=by
 have sc:=yk
 walk_at "fn"
 obtain⟨x0,bs,x,rfl,hx0,⟨hl,hok,hx⟩,k⟩:=h
 have hso:=P7 hl hok hx
 have hls:=tR hl hok hx
 have es:(C8 bs bs.length).map (fun l=>h7 (l.1,l.1*x+l.2.1,l.2.2))=(B2 bs x).map h7:=by unfold B2;rw[Qw];rfl
 rcases hx0 with rfl|rfl
 all_goals
  refine⟨_,(d6 (jst 2 sc.nd (jc MW hr (a8 (a9 0) (a8 (a9 1) d4)))) (d6 (jst 3 sc.nd (jc MP hr (a8 (a9 2) d4))) (d6 (j5 (jtm gw (a9 3) A5) (d7 (e6 (W6 A5))) i6) (d6 (jst 4 sc.nd (aE d4)) (d6 (t7 PassesOwn.never rfl (p8 (jc Np hr (a8 (E5 [] ["ray"] [] rfl (by decide +kernel) rfl (by decide +kernel) (by decide +kernel) rfl aM aM (p8 (a9 3)) (fun _ _ _ _ _ _=>(jn 0 (show(["ray"]:List Str).Nodup by decide +kernel))) (fun _ _ _ _ _ _=>y9) (fun _ _ _ _ _ _=>(jx (a9 0) d5))) d4))) (jn 5 sc.nd) (d6 (t9 (jc Nr hr (a8 (a9 2) (a8 (a9 5) d4))) (o7 (n:=2) rfl (d9 (jn 6 sc.nd) (d9 (jn 7 sc.nd) i9)))) (d7 (Q4 (jA PySem.F.slot_list_append PySem.F.type_list_append L8 (a9 4) (a8 (h8 (a8 (a9 5) (a8 (a9 6) (a8 (a9 7) d4)))) d4)))))) (d7 (e6 (W6 (a9 4))))))))),?_⟩
  walk_at "sim"
  rw[es]
  refine⟨⟨hl,hok,hx⟩,?_⟩
  walk_at "sim"
  refine⟨hls,?_⟩
  generalize B2 bs x=ls at *
  have hlo:∀ l∈ls,LineOk l:=fun l h=>(hso l h).1.toLineOk
  unfold lS at k
  cases ec:C3 ls with
  | none =>
   rw[ec]at k
   show gIs false .non .non _ _
   rw[T6 (b:=true) rfl]
   walk_at "sim"
   exact mH (fun _ _ h=>h) k
  | some cs =>
   rw[ec]at k
   show gIs false (.vl (cs.map rD)) .non _ _
   rw[T6 (b:=false) rfl]
   walk_at "sim"
   obtain⟨hcl,hcz⟩:=rC hlo (fun l h=>(hso l h).2.2) ec
   have fo:=gJ hlo ec
   have h12:=hls.1
   intro p hp
   refine mB (ds:=cs.map rD) (by show v6 _ (.vl _) _;rw[i5]) ?_
   refine B1 (xs:=cs) (enc:=rD) (fun z=>d8 z.1) (by omega) (by show v6 _ (.vl _) _;rw[i5]) (fun z hz Q hQ=>?_) ?_
   ·walk_at "sim"
    exact hQ
   ·have em:cs.map (fun z=>d8 z.1)=(cs.map (·.1)).map d8:=by rw[Qw];rfl
    rw[em]
    walk_at "sim"
    refine⟨⟨by rw[Pj];omega,fun q hq=>?_⟩,?_⟩
    ·obtain⟨z,hz,rfl⟩:=Pm.mp hq
     have:=(hcz z hz).1
     show sz z.1≤2402
     omega
    ·walk_at "sim"
     unfold cZ at k
     have hhz:∀ h∈G6 (cs.map (·.1)),sz h≤1177:=fun h hh=>by
      obtain⟨z,hz,rfl⟩:=(fo.mem h).mp hh
      exact(hcz z hz).1
     have hhl:(G6 (cs.map (·.1))).length≤100:=by
      have:=gg (cs.map (·.1))
      rw[Pj]at this
      omega
     have hcone:=fo.cone
     obtain⟨hs,ehs⟩:∃ hs,hs=G6 (cs.map (·.1)):=⟨_,rfl⟩
     have k:∀ p,M p=none→R (.ref p) (A8 M p (.lst ((hs.map fun h=>(h,W8 ls h)).map h7))):=by rw[ehs];exact k
     rw[← ehs]at hhz hhl hcone ⊢
     refine P4.by (fun i e M'=>M'=A8 M p (.lst (((hs.take i).map fun h=>(h,W8 ls h)).map h7))∧∃ z0 z3 z5 z6 z7:Option D,e=[z0,some (d8 x),some (.vl (ls.map h7)),z3,some (.ref p),z5,z6,z7]) ⟨rfl,_,_,_,_,_,rfl⟩ (fun i e M' _ _=>by simp only[i5]) ?_ ?_
     ·rintro i dd e M' hd ⟨rfl,z0,z3,z5,z6,z7,rfl⟩
      rw[PJ]at hd
      cases hq:hs[i]? with
      | none=>rw[hq]at hd;cases hd
      | some g =>
       rw[hq]at hd
       obtain rfl:=Option.some.inj hd
       have hgm:=Px hq
       obtain⟨lo,hi,ca⟩:=hcone g hgm
       have hgz:=hhz g hgm
       have hi1:=(Pw.mp hq).1
       walk_at "sim"
       refine⟨⟨h12,fun l hl=>(hso l hl).2.1,by omega⟩,?_⟩
       rw[ca.d]
       walk_at "sim"
       refine cL f8 (cM f8 (by rw[Pj,Pj,PX];omega) ⟨?_,_,_,_,_,_,rfl⟩)
       rw[L9,Qy,hq,PQ,PQ]
       have ep:W8 ls g=(lo,hi):=Q8 ca
       show A8 M p (.lst (_++[h7 (g,lo,hi)]))=A8 M p (.lst (_++[h7 (g,W8 ls g)]))
       rw[ep]
     ·rintro e M' ⟨rfl,z0,z3,z5,z6,z7,rfl⟩
      walk_at "sim"
      rw[Pj,Qp]
      exact mH (fun _ _ h=>h) (k p hp)
theorem W1(T:Txt K mg)(d:Df K mg "_law_fields_right" E1 ["bench","lines","rays","x"])(Ow:Fn P w K mg base "cone" 46 ["bench","x","h"] kT)(MR:Fn P w K mg base "_law_put_together" 43 ["rows"] yu)(NN:Fn P w K mg base "area" 44 ["rays"] tV)(Ob:Fn P w K mg base "field" 46 ["bench","x"] kR):Fn P w K mg base "_law_fields_right" 47 ["bench","lines","rays","x"] qN:=by
 have sc:=T9
 walk_at "fn"
 obtain⟨bs,ls,r,x,rfl,⟨hb,rfl,hx⟩,k⟩:=h
 refine⟨_,(d6 (jst 4 sc.nd (DC (jc Ob hr (a8 (a9 0) (a8 (a9 3) d4))))) (d6 (j5 (jtm gw (a9 2) A5) (d7 (e6 (jm gw (a9 4) A5))) i6) (d6 (j5 (Q5 (bL (jtm gw (a9 4) A5) (W4 (jtm (oR hu) (jc MR hr (a8 (a9 4) d4)) (jc NN hr (a8 (a9 2) d4)))))) (d7 (e6 pj)) i6) (d7 (e6 (v8 (Lv rfl) rfl T.b_all Iq (a8 (E5 [0,3] ["row"] ["bench","x"] rfl (by decide +kernel) rfl (by decide +kernel) (by decide +kernel) rfl (Ea ⟨rfl,rfl⟩ ⟨rfl,rfl⟩) (Ea (Or.inl rfl) (Or.inl rfl)) (p8 (a9 4)) (fun _ _ _ _ _ _=>(jn 0 (show(["row","bench","x"]:List Str).Nodup by decide +kernel))) (fun _ _ _ _ _ _=>y9) (fun _ _ _ _ _ _=>(jm (js hu) (jc Ow hr (a8 (a9 1) (a8 (a9 2) (a8 (jx (a9 0) d5) d4)))) (A0 (a9 0) (w6 d5) y4)))) d4))))))),?_⟩
 walk_at "sim"
 have hl12:bs.length≤12:=Pu hb.len (by decide)
 have hok:=hb.pk
 have B:=qW hl12 hok
 have s1:=ye B.ok x
 have e1:(C8 bs bs.length).map (fun l=>(l.1,l.1*x+l.2.1,l.2.2))=B2 bs x:=rfl
 rw[e1]at s1
 refine⟨⟨hl12,hok,by omega⟩,?_⟩
 rcases s1 with⟨g1,g2⟩|⟨cs,ds,g1,g2,g3⟩
 ·unfold lS
  rw[g1,g2]
  refine .inr ?_
  show gIs false .non .non _ _
  rw[T6 (b:=true) rfl]
  walk_at "sim"
  rw[T6 (b:=true) rfl]
  exact k
 ·have ev:=vz hl12 hok (show sz x≤41 by omega) g2 g3
  have SB:=jZ hl12 hok (show sz x≤41 by omega)
  have fo:=gJ SB.ok g2
  obtain⟨q1,q2,q3⟩:=SB.bd ds g2
  obtain⟨w1,w2,w3⟩:=Lo hb g1
  unfold lS
  rw[g1,g2]
  refine fun p hp=>.inl ⟨p,_,rfl,f8,?_⟩
  rw[N3 hp]
  show gIs false (.vl (cs.map rD)) .non _ _
  rw[T6 (b:=false) rfl]
  walk_at "sim"
  rw[T6 (b:=false) rfl]
  walk_at "sim"
  refine⟨⟨ev.1,ev.2.1⟩,?_⟩
  have oc:qP (some cs) = .vl (cs.map rD):=rfl
  rw[oc,ev.2.2]
  walk_at "sim"
  refine⟨⟨by omega,w2,fun z hz=>by have:=w3 z hz;omega⟩,?_⟩
  walk_at "sim"
  have rm:∀ row∈cZ (B2 bs x) ds,∃ z∈ds,∃ lo hi,u7 (B2 bs x) z.1 lo hi∧row=(z.1,lo,hi):=fun row hr=>by
   obtain⟨h,hh,rfl⟩:=Pm.mp hr
   obtain⟨lo,hi,ca⟩:=fo.cone h hh
   obtain⟨z,hz,rfl⟩:=(fo.mem h).mp hh
   exact⟨z,hz,lo,hi,ca,by rw[Q8 ca]⟩
  have rl:=ev.1
  generalize cZ (B2 bs x) ds=rws at rm rl ⊢
  refine B1 (xs:=rws) (enc:=h7) (fun _=>D.bl true) (by omega) (by simp only[i5]) (fun row hr Q hQ=>?_) ?_
  ·obtain⟨z,hz,lo,hi,ca,rfl⟩:=rm row hr
   have z1:=(q3 z hz).1
   walk_at "sim"
   refine⟨⟨hl12,hok,by omega,by omega⟩,?_⟩
   rw[ca.d]
   refine vm ?_
   walk_at "sim"
   exact hQ
  ·rw[show rws.map (fun _=>D.bl true)=(rws.map fun _=>true).map D.bl by rw[Qw];rfl]
   walk_at "sim"
   rw[show(rws.map fun _=>true).all id=true by rw[List.all_map];exact Qq.mpr fun _ _=>rfl]
   exact k
theorem lE(T:Txt K mg)(d:Df K mg "_law_part" U9 ["pool","stops"])(ME:Fn P w K mg base "_law_low" 40 ["top","bottom"] K6)(MB:Fn P w K mg base "_law_next" 1 ["pool","base"] fJ)(MH:Fn P w K mg base "_law_number" 41 ["pool"] tS):Fn P w K mg base "_law_part" 42 ["pool","stops"] kN:=by
 have sc:=ko
 walk_at "fn"
 obtain⟨p,q,rfl,⟨hpq,hp,hs⟩,k⟩:=h
 refine⟨_,(d6 (jst 2 sc.nd (jc MH hr (a8 (a9 0) d4))) (d6 (jst 3 sc.nd (jc MB hr (a8 (a9 0) (a8 d5 d4)))) (d6 (j5 (jtm lI (a9 3) d5) (d7 (e6 (h8 (a8 K5 (a8 (h8 (a8 (v8 jL rfl T.b_abs cI (a8 (jx (a9 2) d5) d4)) (a8 (jx (a9 2) d5) d4))) d4))))) i6) (d6 (j5 (Q5 (bL (jtm lI (a9 3) d5) (W4 (jtm gx (jx (a9 1) d5) d5)))) (d7 (e6 (h8 (a8 K5 (a8 (a9 2) d4))))) i6) (d6 (t9 (f6 N7 (jx (a9 1) d5) d5) (eQ (a9 1) d5)) (d7 (e6 (h8 (a8 K5 (a8 (jc ME hr (a8 (f6 N8 d5 (jc MB hr (a8 (a9 0) (a8 d5 d4)))) (a8 (f6 N8 d5 (jc MB hr (a8 (a9 0) (a8 d5 d4)))) d4))) d4)))))))))),?_⟩
 walk_at "sim"
 refine⟨hp,fun x M1 hx s1=>⟨s1.pool,by decide,fun r M2 r0 r1 s2=>?_⟩⟩
 have st:=s1.trans s2
 obtain⟨n,hn⟩:=hs
 have hq2:M2 q=some (.lst [.int n]):=st.keep q _ (Ne.symm hpq) hn
 refine⟨fun _=>k ("gap",j9 x) M2 ⟨⟨.inl ⟨rfl,Ec x⟩,by show sz (j9 x)≤41;rw[R0];omega⟩,by show sz (j9 x)≤6;rw[R0];exact hx⟩ st.pool ⟨n,hq2⟩,fun _=>?_⟩
 have kg:=k ("glass",x) M2 ⟨⟨.inr (.inl rfl),by show sz x≤41;omega⟩,hx⟩ st.pool ⟨n,hq2⟩
 refine⟨fun _=>kg,fun _=>⟨_,G5 hq2 (by rfl),?_⟩⟩
 walk_at "sim"
 refine⟨fun _=>kg,fun _=>⟨_,G5 hq2 (by rfl),?_⟩⟩
 walk_at "sim"
 refine uZ (j:=0) hq2 (by show 0<1;decide) ?_
 have hp3:E2 (A8 M2 q (.lst ([D.int n].set 0 (.int (n - 1))))) p:=by
  obtain⟨x1,y1,z1,e⟩:=st.pool.ex
  exact⟨⟨x1,y1,z1,by rw[J3 hpq];exact e⟩⟩
 refine⟨hp3,by decide,fun a M4 a0 a1 s4=>⟨s4.pool,by decide,fun b M5 b0 b1 s5=>⟨by omega,?_⟩⟩⟩
 have st5:=s4.trans s5
 exact k ("stop",Qu (1+a) (1+b)) M5 ⟨⟨.inr (.inr ⟨rfl,Am (by omega) (by omega)⟩),aC (by decide) (by omega) (by omega) (by omega)⟩,aC (by decide) (by omega) (by omega) (by omega)⟩ st5.pool ⟨n - 1,st5.keep q _ (Ne.symm hpq) f8⟩
theorem lD(T:Txt K mg)(d:Df K mg "_law_pool" U8 ["cell"]):Fn P w K mg base "_law_pool" 1 ["cell"] qt:=by
 have sc:=kn
 refine i4 d sc (fun ds M R Y h=>?_) (fun f cdv A outer s H E ds M R Y hr h=>?_)
 ·obtain⟨c,rfl,_⟩:=h;rfl
 ·obtain⟨c,rfl,k⟩:=h
  refine⟨_,(d7 (e6 (aE (a8 (v8 (FW rfl) rfl T.b_max AN (a8 d5 (a8 (f6 N7 (a9 0) (f6 Fp d5 d5)) d4))) (a8 (f6 Z3 (a9 0) (f6 Fp d5 d5)) (a8 d5 d4)))))),?_⟩
  refine⟨_,rfl,_,_,rfl,rfl,Ln,_,rfl,_,_,rfl,_,rfl,_,_,rfl,rfl,Ln,_,_,rfl,rfl,(by show(0:Int)<10 ^ 18;decide),sl 3,fun p hp=>?_⟩
  exact k p _ hp (MK.new hp) ⟨_,_,_,f8⟩
theorem HA{f:Addr}{fd:FuncData}(T:Txt K mg)(d:Ei K "law" yp f fd)(Nx:Fn P w K mg base "_law_cells" 1 ["script","bound"] kU)(Nb:Fn P w K mg base "_law_led_right" 46 ["lines","rays","table","p","q"] qK)(MH:Fn P w K mg base "_law_number" 41 ["pool"] tS)(NO:Fn P w K mg base "table_of" 44 ["bench"] dW)(MB:Fn P w K mg base "_law_next" 1 ["pool","base"] fJ)(MS:Fn P w K mg base "_law_fields_right" 47 ["bench","lines","rays","x"] qN)(MP:Fn P w K mg base "corners" 42 ["lines"] ji)(Na:Fn P w K mg base "lines_of" 44 ["bench"] V6)(ND:Fn P w K mg base "_law_part" 42 ["pool","stops"] kN)(NF:Fn P w K mg base "_law_pool" 1 ["cell"] qt):S8 P w K mg base CX0 48 f fd ["script"] (nF K tP):=by
 have sc:=GG
 refine Fu d sc (fun ds M R Y h=>by obtain⟨n,rfl,_⟩:=h;rfl) (fun cdv A outer s H E ds M R Y hr h=>?_)
 obtain⟨ns,rfl,hlen,k⟩:=h
 have hu:=hr.units
 refine⟨_,(d6 (t7 PassesOwn.never rfl (p8 (jc Nx hr (a8 (a9 0) (a8 d5 d4)))) (jn 1 sc.nd) (d6 (jst 2 sc.nd (jc NF hr (a8 (a9 1) d4))) (d6 (jst 3 sc.nd (aE (a8 d5 d4))) (d6 (K9 (i:=4) [2,3] ["k"] ["pool","stops"] sc.nd rfl (Or.inl rfl) rfl (by decide +kernel) rfl (by decide +kernel) (by decide +kernel) rfl (Ea ⟨rfl,rfl⟩ ⟨rfl,rfl⟩) (Ea (Or.inl rfl) (Or.inl rfl)) (Dy rfl T.b_range (a8 (jc MB hr (a8 (a9 2) (a8 d5 d4))) d4)) (fun _ _ _ _ _ _=>(jn 0 (show(["k","pool","stops"]:List Str).Nodup by decide +kernel))) (fun _ _ _ _ _ _=>y9) (fun _ _ _ _ _ _=>(jc ND hr (a8 (a9 1) (a8 (a9 2) d4))))) (d6 (jst 5 sc.nd (jc Na hr (a8 (a9 4) d4))) (d6 (jst 6 sc.nd (jc MP hr (a8 (a9 5) d4))) (d6 (t7 PassesOwn.never rfl (p8 (G4 (a8 (h8 (a8 d5 (a8 d5 d4))) (a8 (jc MH hr (a8 (a9 2) d4)) d4)))) (jn 7 sc.nd) (d7 (j5 (lO (G3 (jc MS hr (a8 (a9 4) (a8 (a9 5) (a8 (a9 6) (a8 (a9 7) d4))))))) (d7 (e6 pj)) i6))) (d6 (jst 8 sc.nd (jc NO hr (a8 (A0 (a9 4) y4 (w6 (jc MB hr (a8 (a9 2) (a8 (f6 N8 (v8 dg rfl T.b_len X0 (a8 (a9 4) d4)) d5) d4))))) d4))) (d7 (j5 (lO (G3 (jc Nb hr (a8 (a9 5) (a8 (a9 6) (a8 (a9 8) (a8 (jc MH hr (a8 (a9 2) d4)) (a8 (jc MH hr (a8 (a9 2) d4)) d4)))))))) (d7 (e6 pj)) i6)))))))))) (d7 (e6 pj))),?_⟩
 walk_at "sim"
 refine⟨ns,rfl,hlen,fun ms hml=>?_⟩
 refine P4.by (fun i e M'=>∃ x1 x2 x3 x4 x5 x6 x7 x8:Option D,e=[some (.vl (ns.map D.int)),x1,x2,x3,x4,x5,x6,x7,x8]) ⟨_,_,_,_,_,_,_,_,rfl⟩ (fun i e M' _ _=>by simp only[i5]) ?_ ?_
 ·rintro i dd e M' hd ⟨x1,x2,x3,x4,x5,x6,x7,x8,rfl⟩
  obtain⟨n,rfl⟩:∃ n:Int,dd = .int n:=by
   obtain⟨n,_,e⟩:=Pm.mp (Px hd)
   exact⟨n,e.symm⟩
  walk_at "sim"
  refine fun p M1 hp mk hP sq hsq=>?_
  have hne:p≠sq:=fun z=>by
   obtain⟨x,y,z',e⟩:=hP.ex
   rw[z,hsq]at e;cases e
  have hP2:E2 (A8 M1 sq (.lst [.int 4])) p:=by
   obtain⟨x,y,z',e⟩:=hP.ex
   exact⟨⟨x,y,z',by rw[J3 hne];exact e⟩⟩
  refine⟨hP2,by decide,fun r M2 r0 r1 s2=>⟨by omega,?_⟩⟩
  have hs2:Ee M2 sq:=⟨4,s2.keep sq _ (Ne.symm hne) f8⟩
  refine rE m8 vc (fun _ M=>E2 M p∧Ee M sq) r.toNat (E3 _ _) (by omega) (fun _ _=>trivial) ⟨s2.pool,hs2⟩ (fun d hd M3 s3 Q hQ=>?_) (fun bs M3 hbl hok s3=>?_)
  ·walk_at "sim"
   exact⟨⟨hne,s3.1,s3.2⟩,fun x M' hx a b=>hQ x M' hx ⟨a,b⟩⟩
  have hb:Bn6 bs:=⟨by omega,hok⟩
  have hl12:bs.length≤12:=by omega
  have B:=qW hl12 hb.pk
  walk_at "sim"
  refine⟨⟨hl12,hb.pk⟩,B.lsk,s3.1,fun x M4 hx s4=>?_⟩
  refine P4.by (fun i e M'=>M'=M4∧∃ z7:Option D,e=[some (D.vl (RV D.int ns)),some (D.int n),some (D.ref p),some (D.ref sq),some (D.vl (RV m8 bs)),some (D.vl (RV h7 (C8 bs bs.length))),some (qP (C3 (C8 bs bs.length))),z7,x8]) ⟨rfl,_,rfl⟩ (fun i e M' _ h=>by simp only[i5]) ?_ ?_
  ·rintro i dd e M' hdd ⟨rfl,z7,rfl⟩
   obtain⟨y,rfl,hy⟩:∃ y:Rat,dd=d8 y∧sz y≤6:=by
    rcases Pn.mp (Px hdd)with rfl|hm
    ·exact⟨0,rfl,by rw[RM.X3];decide⟩
    ·rw[PY.mp hm];exact⟨x,rfl,hx⟩
   walk_at "sim"
   exact⟨⟨hb,hy⟩,_,rfl⟩
  ·rintro e M' ⟨rfl,z7,rfl⟩
   walk_at "sim"
   refine⟨s4.pool,by omega,Pt (W3 (show _<2 ^ 10 by rw[Pj];omega) (by decide)) (by decide),fun r M5 q0 q1 s5=>?_⟩
   obtain⟨at',rfl⟩:∃ a:Nat,r=(a:Int):=⟨r.toNat,by omega⟩
   have c1:DL.P2 (bs.map m8) none (some (at':Int))=(bs.take at').map m8:=by rw[cG,RQ]
   rw[c1]
   walk_at "sim"
   have hbt:=hb.take at'
   refine⟨⟨Pu hbt.len (by decide),hbt.pk⟩,s5.pool,fun u M6 hu s6=>⟨s6.pool,fun v M7 hv s7=>?_⟩⟩
   refine⟨C8 bs bs.length,_,_,_,_,_,u,v,rfl,⟨bs,hb,rfl,rfl,oz (bs.take at'),ug hbt,hu,hv⟩,?_⟩
   walk_at "sim"
   exact⟨_,_,_,_,_,_,_,_,rfl⟩
 ·rintro e M' ⟨x1,x2,x3,x4,x5,x6,x7,x8,rfl⟩
  walk_at "sim"
  exact k _
end
end K68
namespace K68
open PySem PySem.Spec L2 DL GM
theorem Iy{P:Program}{w:World}{K:Pg}{mg:Str→Option Value}{fa:Addr}(T:Txt K mg)(hfa:mg "law" = some (.ref fa))(htr:P.given.tree=none)(Oc:Df K mg "_law_cells" R8 ["script","bound"])(OJ:Df K mg "divisor" cq ["one","other"])(Ox:Df K mg "is_whole" au ["thing"])(OQ:Df K mg "ratio" kB ["top","bottom"])(Oy:Df K mg "veer" fV ["one","other"])(OM:Df K mg "met_at" fY ["one","other"])(ON:Df K mg "facing" fZ ["side"])(NS:Df K mg "sides_around" M0 ["half","wanted"])(NG:Df K mg "tops_over" J6 ["ratios","bottom"])(Nd:Df K mg "common_bottom" B8 ["ratios"])(NT:Df K mg "most_around" O8 ["half","p","q"])(OR:Df K mg "times" kA ["one","other"])(OS:Df K mg "grown" kD ["ray","share"])(OX:Df K mg "over" qA ["one","other"])(OO:Df K mg "sum_by" fW ["p","q","ray"])(Oz:Df K mg "value_of" af ["p","q","ray"])(OA:Df K mg "unsigned" ah ["one"])(OB:Df K mg "opposite" ak ["one"])(OY:Df K mg "plus" qz ["one","other"])(OT:Df K mg "minus" kC ["one","other"])(OU:Df K mg "cross" kG ["one","other"])(Od:Df K mg "most_along" R5 ["lines","number","p","q"])(OZ:Df K mg "turn" qy ["one","other","third"])(Og:Df K mg "next_side" U6 ["sides","here"])(Oh:Df K mg "juts_more" U7 ["one","other"])(Oi:Df K mg "outermost" U5 ["sides"])(OC:Df K mg "sides_of" aj ["lines"])(OD:Df K mg "half_rim" aw ["lines"])(Pa:Df K mg "most" qB ["lines","p","q"])(OE:Df K mg "_law_low" ay ["top","bottom"])(OF:Df K mg "_law_sum" ax ["one","other"])(Oj:Df K mg "_law_back" V4 ["one"])(Ol:Df K mg "_law_less" V3 ["one","other"])(Oe:Df K mg "_law_taken" R7 ["one","other"])(NP:Df K mg "_law_seen_behind" E7 ["table","lines"])(OV:Df K mg "total" ky ["ratios"])(Pb:Df K mg "area" qE ["rays"])(Pe:Df K mg "led" yo ["table","ray"])(Pc:Df K mg "less" qC ["one","other"])(OG:Df K mg "is_lower" av ["one","other"])(NU:Df K mg "from_lowest" P0 ["rays"])(OK:Df K mg "corners" cu ["lines"])(NQ:Df K mg "_law_led_right" I0 ["lines","rays","table","p","q"])(Om:Df K mg "_law_next" V0 ["pool","base"])(NV:Df K mg "_law_number" P1 ["pool"])(Of:Df K mg "by_columns" R6 ["first","second"])(NW:Df K mg "led_by_part" O9 ["part","ray"])(OH:Df K mg "table_of" ai ["bench"])(Oo:Df K mg "slopes_by" U0 ["line","h"])(OP:Df K mg "slopes" fX ["lines","h"])(OI:Df K mg "lines_of" ao ["bench"])(Oq:Df K mg "seen_from" U4 ["bench","x"])(Pd:Df K mg "cone" qD ["bench","x","h"])(NI:Df K mg "_law_put_together" D9 ["rows"])(NX:Df K mg "rising_once" O7 ["ratios"])(OW:Df K mg "field" kF ["bench","x"])(NJ:Df K mg "_law_fields_right" E1 ["bench","lines","rays","x"])(Ot:Df K mg "_law_part" U9 ["pool","stops"])(Ou:Df K mg "_law_pool" U8 ["cell"])(Pf:DfL K mg "law" yp ["script"]) :
  ∃ fd:FuncData,(∀(s:Shared) (u:Value),BindsTo s fd ⟨[u],[]⟩ [("script",u)])∧∀ base:Heap,base.NoSeer→S8 P w K mg base CX0 48 fa fd ["script"] (nF K tP):=by
 obtain⟨f,fd,F,hm,hb⟩:=Pf.ex
 have e:f=fa:=by rw[hm]at hfa;injection hfa with z;injection z
 subst e
 refine⟨fd,fun s u=>.of_eq (hb [u] rfl),fun base hns=>?_⟩
 have hsee:AY P base:=⟨hns,htr⟩
 have Nx:=iw (P:=P) (w:=w) (base:=base) T Oc
 have MI:=qS (P:=P) (w:=w) (base:=base) T OJ
 have Nt:=oM (P:=P) (w:=w) (base:=base) T Ox
 have MC:=zh (P:=P) (w:=w) (base:=base) T OQ hsee MI Nt
 have MN:=Dd (P:=P) (w:=w) (base:=base) T Oy
 have Nq:=vK (P:=P) (w:=w) (base:=base) T OM MC MN
 have Nh:=qR (P:=P) (w:=w) (base:=base) T Oy
 have Ng:=qQ (P:=P) (w:=w) (base:=base) T Oy
 have MX:=vL (P:=P) (w:=w) (base:=base) T ON
 have Ni:=dD (P:=P) (w:=w) (base:=base) T NS Ng Nh MX
 have Nj:=dB (P:=P) (w:=w) (base:=base) T NG
 have MT:=Z1 (P:=P) (w:=w) (base:=base) T Nd MI
 have Nm:=gn (P:=P) (w:=w) (base:=base) T NT Nq MC MN Nh Ng Ni Nj MT
 have MA:=ze (P:=P) (w:=w) (base:=base) T OR MC
 have NY:=zj (P:=P) (w:=w) (base:=base) T OS MA
 have Nu:=Dh (P:=P) (w:=w) (base:=base) T OX MC
 have NR:=vI (P:=P) (w:=w) (base:=base) T OO
 have NK:=oF (P:=P) (w:=w) (base:=base) T Oz MC NR
 have ML:=oG (P:=P) (w:=w) (base:=base) T OA
 have MD:=oJ (P:=P) (w:=w) (base:=base) T OB
 have MQ:=Dg (P:=P) (w:=w) (base:=base) T OY MC
 have Nf:=zi (P:=P) (w:=w) (base:=base) T OT MQ MD
 have NH:=zm (P:=P) (w:=w) (base:=base) T OU Nf MA
 have Nv:=ip (P:=P) (w:=w) (base:=base) T Od NY Nu NK MA ML MD NH
 have Ov:=De (P:=P) (w:=w) (base:=base) T OZ MN
 have Nl:=lB (P:=P) (w:=w) (base:=base) T Og MN Ov
 have Ny:=lC (P:=P) (w:=w) (base:=base) T Oh
 have NA:=lA (P:=P) (w:=w) (base:=base) T Oi Ny
 have Nz:=lh (P:=P) (w:=w) (base:=base) T NG
 have Nc:=cz (P:=P) (w:=w) (base:=base) T Nd MI
 have NL:=oI (P:=P) (w:=w) (base:=base) T OC MX Nz Nc
 have MY:=oO (P:=P) (w:=w) (base:=base) T OD MN Nl NA NL
 have Oa:=Di (P:=P) (w:=w) (base:=base) T Pa Nm Nv MY
 have ME:=oQ (P:=P) (w:=w) (base:=base) T OE hsee
 have MU:=oP (P:=P) (w:=w) (base:=base) T OF ME
 have NB:=lH (P:=P) (w:=w) (base:=base) T Oj
 have MJ:=lG (P:=P) (w:=w) (base:=base) T Ol MU NB
 have MF:=iu (P:=P) (w:=w) (base:=base) T Oe ME
 have MM:=Z2 (P:=P) (w:=w) (base:=base) T NP MJ MF
 have Nk:=dA (P:=P) (w:=w) (base:=base) T NG
 have MV:=Z0 (P:=P) (w:=w) (base:=base) T Nd MI
 have NZ:=yZ (P:=P) (w:=w) (base:=base) T OV MC Nk MV
 have NN:=Dm (P:=P) (w:=w) (base:=base) T Pb MA NZ NH
 have OL:=Hz (P:=P) (w:=w) (base:=base) T Pe MQ MA
 have MZ:=Dj (P:=P) (w:=w) (base:=base) T Pc
 have NM:=oN (P:=P) (w:=w) (base:=base) T OG MZ
 have Nn:=gq (P:=P) (w:=w) (base:=base) T NU NM
 have MP:=qT (P:=P) (w:=w) (base:=base) T OK Nn MD MX Nq MY
 have Nb:=bE (P:=P) (w:=w) (base:=base) T NQ Oa MM NN OL MP
 have MB:=lF (P:=P) (w:=w) (base:=base) T Om
 have MH:=gr (P:=P) (w:=w) (base:=base) T NV ME MB
 have Nw:=ir (P:=P) (w:=w) (base:=base) T Of
 have MG:=gp (P:=P) (w:=w) (base:=base) T NW Nf MA MQ
 have NO:=oH (P:=P) (w:=w) (base:=base) T OH Nw MG
 have NC:=lj (P:=P) (w:=w) (base:=base) T Oo MQ Nf ML Nu MD MA
 have Nr:=vJ (P:=P) (w:=w) (base:=base) T OP MZ ML MA NC
 have Na:=oK (P:=P) (w:=w) (base:=base) T OI MG
 have MW:=lr (P:=P) (w:=w) (base:=base) T Oq Na MQ MA
 have Ow:=Dk (P:=P) (w:=w) (base:=base) T Pd Nr MW
 have MR:=W0 (P:=P) (w:=w) (base:=base) T NI MF MU MJ
 have Np:=gm (P:=P) (w:=w) (base:=base) T NX MZ
 have Ob:=zl (P:=P) (w:=w) (base:=base) T OW Np Nr MP MW
 have MS:=W1 (P:=P) (w:=w) (base:=base) T NJ Ow MR NN Ob
 have ND:=lE (P:=P) (w:=w) (base:=base) T Ot ME MB MH
 have NF:=lD (P:=P) (w:=w) (base:=base) T Ou
 exact HA T F Nx Nb MH NO MB MS MP Na ND NF
theorem qh{l:PySem.W.OpenLaw}{q:Program}{loose:List Str}{XP:(Str→Option Value)→Heap→Prop}{YP:World→Heap→Prop}{d:DefRec}{K:Params→Pg}(hq:PyProof.Rows.importsNone q=true)(hn:l.most=some 63)(hdf:d.params.defaults=[])
  (hY:∀(w:World) (h:Heap),YP w h→(K w.params).In h)
  (F:∀(w:World) (mg:Str→Option Value) (fa:Addr) (h:Heap),(K w.params).In h→h.Ns mainGlobals mg→mg d.name=some (.ref fa) →
   ∃ fd:FuncData,(∀(s:Shared) (u:Value),BindsTo s fd ⟨[u],[]⟩ [("script",u)])∧∀ base:Heap,base.NoSeer→S8 l.prog w (K w.params) mg base CX0 48 fa fd ["script"] (nF (K w.params) tP)) :
  PySem.W.WalkO q loose XP YP l.row.toRowW d [] (fun f vs=>PySem.call f vs) :=
 L2.xM (n:=63) (k:=48) (x := "script") (CX:=CX0) (sp:=fun K=>nF K tP) hq hn (by decide) hdf ⟨rfl,by decide,by decide⟩ hY (fun w mg fa h a b c=>let ⟨fd,h1,h2⟩:=F w mg fa h a b c;⟨fd,h1,fun base _ _ hd=>h2 base hd⟩)
  (fun K H a ns hl hO hS=>HK hO hS ⟨ns,rfl,hl,fun _=>rfl⟩) fun _ _ _ _ z=>z
end K68
namespace PySem.W.Fast
theorem te9039414648908892097:True:=trivial
theorem tw17206066614814531322:True:=⟨⟩
theorem tw11111295554466944352:True:=⟨⟩
theorem tw12190911672660316242:True:=⟨⟩
theorem tw15197314786116948274:True:=⟨⟩
theorem tw10698344444668047676:True:=⟨⟩
theorem tw5137685011961215204:True:=⟨⟩
theorem tw4343587397380576519:True:=⟨⟩
theorem tw10064163150565694987:True:=⟨⟩
theorem tw11733791191518576795:True:=⟨⟩
theorem tw4298092570978360245:True:=⟨⟩
theorem tw10167083052069795464:True:=⟨⟩
theorem tw18231213410509344065:True:=⟨⟩
theorem tw17001207349197238223:True:=⟨⟩
theorem tw16216054890372761358:True:=⟨⟩
theorem tw7262114515378884214:True:=⟨⟩
theorem tw7357530815922573162:True:=⟨⟩
theorem tw4610035238683082016:True:=⟨⟩
theorem tw7529100399333255737:True:=⟨⟩
theorem tw4227762762780491456:True:=⟨⟩
theorem tw1167492924262672507:True:=⟨⟩
theorem tw13898945700450782419:True:=⟨⟩
theorem tw10691827914503281121:True:=⟨⟩
theorem tw15791926400326214848:True:=⟨⟩
theorem tw4813895238323876924:True:=⟨⟩
theorem tw2111177112848517813:True:=⟨⟩
theorem tw8351154214331483390:True:=⟨⟩
theorem tw10374421660785055534:True:=⟨⟩
theorem tw13559047876073531857:True:=⟨⟩
theorem tw13531310513225967169:True:=⟨⟩
theorem tw3908101870615422016:True:=⟨⟩
theorem tw7489700757768271884:True:=⟨⟩
theorem tw15745209356438715783:True:=⟨⟩
theorem tw15442885321054360081:True:=⟨⟩
theorem tw8665798388858393404:True:=⟨⟩
theorem tw9568719670996628120:True:=⟨⟩
theorem tw13406695559524954320:True:=⟨⟩
theorem tw4707403949645088868:True:=⟨⟩
theorem tw15799897650625484198:True:=⟨⟩
theorem tw14592680193187818907:True:=⟨⟩
theorem tw5724072071324771980:True:=⟨⟩
theorem tw6903257013085437510:True:=⟨⟩
theorem tw11728036913881899438:True:=⟨⟩
theorem tw3757941249876586595:True:=⟨⟩
theorem tw15340984238800485937:True:=⟨⟩
theorem tw16965979272917873928:True:=⟨⟩
theorem tw8102513154772651298:True:=⟨⟩
theorem tw9708702403074683146:True:=⟨⟩
theorem tw12745540035442907232:True:=⟨⟩
theorem tw5507798908332643341:True:=⟨⟩
theorem tw7277034365970352804:True:=⟨⟩
theorem tw12678748007871475800:True:=⟨⟩
theorem tw12697108995108045810:True:=⟨⟩
theorem tw15879267283621079333:True:=⟨⟩
theorem tw4888730804857861392:True:=⟨⟩
theorem tw1390015107161471411:True:=⟨⟩
theorem tw12751791295610425130:True:=⟨⟩
theorem tw8940326966127485923:True:=⟨⟩
theorem tw5935932748589350540:True:=⟨⟩
theorem tw4307020071914539183:True:=⟨⟩
theorem tw11237672445420651978:True:=⟨⟩
theorem tw5243652533132349494:True:=⟨⟩
theorem tw1690611611225975529:True:=⟨⟩
theorem tw3095887980398097829:True:=⟨⟩
theorem tw10885439152079446865:True:=⟨⟩
theorem tw11387633395355144236:True:=⟨⟩
theorem tw1905614900724609021:True:=⟨⟩
theorem tw13961616640466510066:True:=⟨⟩
theorem tw7620738406041413901:True:=⟨⟩
theorem tw17039914621423228505:True:=⟨⟩
theorem tw8215011033141765469:True:=⟨⟩
theorem tw8658442873684609154:True:=⟨⟩
theorem tw11715007606800067841:True:=⟨⟩
theorem tw9227592596559537117:True:=⟨⟩
theorem tw16569614177125540379:True:=⟨⟩
theorem tw1154248939390719821:True:=⟨⟩
theorem tw1503610644373189521:True:=⟨⟩
theorem tw15549626710949025915:True:=⟨⟩
theorem tw12582606138036193749:True:=⟨⟩
theorem tw11463551247348217116:True:=⟨⟩
theorem tw5460140350242669998:True:=⟨⟩
theorem tw10264431647229557346:True:=⟨⟩
theorem tw12358525115977899806:True:=⟨⟩
theorem tw4302782678215115768:True:=⟨⟩
theorem tw10401817195975056699:True:=⟨⟩
theorem tw12513372187411091690:True:=⟨⟩
theorem tw4805295270717740596:True:=⟨⟩
theorem tw14634350947418118059:True:=⟨⟩
theorem tw9682079969194116151:True:=⟨⟩
theorem tw10552613625085894900:True:=⟨⟩
theorem tw9168255647021679216:True:=⟨⟩
theorem tw16754170138329373080:True:=⟨⟩
theorem tw4024285372577786781:True:=⟨⟩
theorem tw3800110928288372374:True:=⟨⟩
theorem tw9844487409189535820:True:=⟨⟩
theorem tw14523833765163453519:True:=⟨⟩
theorem tw614673439539674978:True:=⟨⟩
theorem tw4933793473183949883:True:=⟨⟩
theorem tw5242826971767635677:True:=⟨⟩
theorem tw13350458492339928979:True:=⟨⟩
theorem tw10994611658437728304:True:=⟨⟩
theorem tw4402415805531026663:True:=⟨⟩
theorem tw5272024724914269874:True:=⟨⟩
theorem tw10115957741760391513:True:=⟨⟩
theorem tw5451952302282764235:True:=⟨⟩
theorem tw7943319251685002263:True:=⟨⟩
theorem tw9062416259770742354:True:=⟨⟩
theorem tw13803840097257158552:True:=⟨⟩
theorem tw18368947178039679149:True:=⟨⟩
theorem tw14012358957015526327:True:=⟨⟩
theorem tw18107132588541822473:True:=⟨⟩
theorem tw6620297474292204118:True:=⟨⟩
theorem tw5885761185876651488:True:=⟨⟩
theorem tw13787366527334658003:True:=⟨⟩
theorem tw17615108121476086560:True:=⟨⟩
theorem tw7987490290299433431:True:=⟨⟩
theorem tw16158474340830707212:True:=⟨⟩
theorem tw16565852909812401861:True:=⟨⟩
theorem tw14044602035502453122:True:=⟨⟩
theorem tw14251448003146002041:True:=⟨⟩
theorem tw1583032899353017689:True:=⟨⟩
theorem tw9365213186223104375:True:=⟨⟩
theorem tw1395028669844664270:True:=⟨⟩
theorem tw4377846892677811711:True:=⟨⟩
theorem tw9622667988973306679:True:=⟨⟩
theorem tw18112243087925488019:True:=⟨⟩
theorem tw12146767811313537463:True:=⟨⟩
theorem tw14105452245868056372:True:=⟨⟩
theorem tw16624185474020744558:True:=⟨⟩
theorem tw293467759408771312:True:=⟨⟩
theorem tw17933228231412034129:True:=⟨⟩
theorem tw15334444549691804628:True:=⟨⟩
theorem tw13624898803785508972:True:=⟨⟩
theorem tw721249668702848909:True:=⟨⟩
end PySem.W.Fast
open PySem PySem.W PyProof.Rows
set_option maxRecDepth 100000 in
set_option maxHeartbeats 0 in
theorem PySem.Challenge.cw_roundglass_k68_whole_area_stays_along_a_holds : PySem.Challenge.rw_roundglass_k68_whole_area_stays_along_a.Holds := by
 w_on;o_law;k_head;(case hw=>w_witness2)
 k_fill
 refine K68.qh (l:=PySem.Challenge.rw_roundglass_k68_whole_area_stays_along_a) (by decide +kernel) rfl rfl (fun w h Y=>PySem.W.kIn_of Y) ?F
 case F =>
  intro w mg fa h KX G hmg
  refine' K68.Iy ⟨PySem.W.mg_none_of KX G ?z_abs,PySem.W.mg_none_of KX G ?z_all,PySem.W.mg_none_of KX G ?z_bool,PySem.W.mg_none_of KX G ?z_enumerate,PySem.W.mg_none_of KX G ?z_int,PySem.W.mg_none_of KX G ?z_isinstance,PySem.W.mg_none_of KX G ?z_len,PySem.W.mg_none_of KX G ?z_list,PySem.W.mg_none_of KX G ?z_max,PySem.W.mg_none_of KX G ?z_min,PySem.W.mg_none_of KX G ?z_range,PySem.W.mg_none_of KX G ?z_sorted,PySem.W.mg_none_of KX G ?z_sum,PySem.W.mg_none_of KX G ?z_zip,DL.JL _,DL.zX KX G ?c0_AXIS_RAY ?c1_AXIS_RAY ?c2_AXIS_RAY ?c3_AXIS_RAY,DL.uE KX G ?c0_HALF ?c1_HALF,DL.zX KX G ?c0_LEVEL_RAY ?c1_LEVEL_RAY ?c2_LEVEL_RAY ?c3_LEVEL_RAY,DL.uE KX G ?c0_NOUGHT ?c1_NOUGHT⟩ hmg rfl (DL.i7 KX G ?n0 ?l0 ?c0 ?k0 ?b0) (DL.i7 KX G ?n1 ?l1 ?c1 ?k1 ?b1) (DL.i7 KX G ?n2 ?l2 ?c2 ?k2 ?b2) (DL.HZ KX G ?n3 ?l3 ?c3 ?k3 ?b3) (DL.i7 KX G ?n4 ?l4 ?c4 ?k4 ?b4) (DL.i7 KX G ?n5 ?l5 ?c5 ?k5 ?b5) (DL.i7 KX G ?n6 ?l6 ?c6 ?k6 ?b6) (DL.i7 KX G ?n7 ?l7 ?c7 ?k7 ?b7) (DL.i7 KX G ?n8 ?l8 ?c8 ?k8 ?b8) (DL.i7 KX G ?n9 ?l9 ?c9 ?k9 ?b9) (DL.i7 KX G ?n10 ?l10 ?c10 ?k10 ?b10) (DL.i7 KX G ?n11 ?l11 ?c11 ?k11 ?b11) (DL.i7 KX G ?n12 ?l12 ?c12 ?k12 ?b12) (DL.i7 KX G ?n13 ?l13 ?c13 ?k13 ?b13) (DL.i7 KX G ?n14 ?l14 ?c14 ?k14 ?b14) (DL.i7 KX G ?n15 ?l15 ?c15 ?k15 ?b15) (DL.i7 KX G ?n16 ?l16 ?c16 ?k16 ?b16) (DL.i7 KX G ?n17 ?l17 ?c17 ?k17 ?b17) (DL.i7 KX G ?n18 ?l18 ?c18 ?k18 ?b18) (DL.i7 KX G ?n19 ?l19 ?c19 ?k19 ?b19) (DL.i7 KX G ?n20 ?l20 ?c20 ?k20 ?b20) (DL.i7 KX G ?n21 ?l21 ?c21 ?k21 ?b21) (DL.i7 KX G ?n22 ?l22 ?c22 ?k22 ?b22) (DL.i7 KX G ?n23 ?l23 ?c23 ?k23 ?b23) (DL.i7 KX G ?n24 ?l24 ?c24 ?k24 ?b24) (DL.i7 KX G ?n25 ?l25 ?c25 ?k25 ?b25) (DL.i7 KX G ?n26 ?l26 ?c26 ?k26 ?b26) (DL.i7 KX G ?n27 ?l27 ?c27 ?k27 ?b27) (DL.i7 KX G ?n28 ?l28 ?c28 ?k28 ?b28) (DL.i7 KX G ?n29 ?l29 ?c29 ?k29 ?b29) (DL.i7 KX G ?n30 ?l30 ?c30 ?k30 ?b30) (DL.i7 KX G ?n31 ?l31 ?c31 ?k31 ?b31) (DL.i7 KX G ?n32 ?l32 ?c32 ?k32 ?b32) (DL.i7 KX G ?n33 ?l33 ?c33 ?k33 ?b33) (DL.i7 KX G ?n34 ?l34 ?c34 ?k34 ?b34) (DL.i7 KX G ?n35 ?l35 ?c35 ?k35 ?b35) (DL.i7 KX G ?n36 ?l36 ?c36 ?k36 ?b36) (DL.i7 KX G ?n37 ?l37 ?c37 ?k37 ?b37) (DL.i7 KX G ?n38 ?l38 ?c38 ?k38 ?b38) (DL.i7 KX G ?n39 ?l39 ?c39 ?k39 ?b39) (DL.i7 KX G ?n40 ?l40 ?c40 ?k40 ?b40) (DL.i7 KX G ?n41 ?l41 ?c41 ?k41 ?b41) (DL.i7 KX G ?n42 ?l42 ?c42 ?k42 ?b42) (DL.i7 KX G ?n43 ?l43 ?c43 ?k43 ?b43) (DL.i7 KX G ?n44 ?l44 ?c44 ?k44 ?b44) (DL.i7 KX G ?n45 ?l45 ?c45 ?k45 ?b45) (DL.i7 KX G ?n46 ?l46 ?c46 ?k46 ?b46) (DL.i7 KX G ?n47 ?l47 ?c47 ?k47 ?b47) (DL.i7 KX G ?n48 ?l48 ?c48 ?k48 ?b48) (DL.i7 KX G ?n49 ?l49 ?c49 ?k49 ?b49) (DL.i7 KX G ?n50 ?l50 ?c50 ?k50 ?b50) (DL.i7 KX G ?n51 ?l51 ?c51 ?k51 ?b51) (DL.i7 KX G ?n52 ?l52 ?c52 ?k52 ?b52) (DL.i7 KX G ?n53 ?l53 ?c53 ?k53 ?b53) (DL.i7 KX G ?n54 ?l54 ?c54 ?k54 ?b54) (DL.i7 KX G ?n55 ?l55 ?c55 ?k55 ?b55) (DL.i7 KX G ?n56 ?l56 ?c56 ?k56 ?b56) (DL.i7 KX G ?n57 ?l57 ?c57 ?k57 ?b57) (DL.i7 KX G ?n58 ?l58 ?c58 ?k58 ?b58) (DL.HY KX G ?n59 ?l59 ?c59 ?k59 ?b59)
  (case n0=>k_is);(case l0=>k_is);(case c0=>k_is);(case k0=>k_is);(case b0=>(intro us hl;exact match us,hl with|[_,_],_=>rfl))
  (case n1=>k_is);(case l1=>k_is);(case c1=>k_is);(case k1=>k_is);(case b1=>(intro us hl;exact match us,hl with|[_,_],_=>rfl))
  (case n2=>k_is);(case l2=>k_is);(case c2=>k_is);(case k2=>k_is);(case b2=>(intro us hl;exact match us,hl with|[_],_=>rfl))
  (case n3=>k_is);(case l3=>k_is);(case c3=>k_is);(case k3=>k_is);(case b3=>(intro us hl S;exact match us,hl with|[_,_],_=>rfl))
  (case n4=>k_is);(case l4=>k_is);(case c4=>k_is);(case k4=>k_is);(case b4=>(intro us hl;exact match us,hl with|[_,_],_=>rfl))
  (case n5=>k_is);(case l5=>k_is);(case c5=>k_is);(case k5=>k_is);(case b5=>(intro us hl;exact match us,hl with|[_,_],_=>rfl))
  (case n6=>k_is);(case l6=>k_is);(case c6=>k_is);(case k6=>k_is);(case b6=>(intro us hl;exact match us,hl with|[_],_=>rfl))
  (case n7=>k_is);(case l7=>k_is);(case c7=>k_is);(case k7=>k_is);(case b7=>(intro us hl;exact match us,hl with|[_,_],_=>rfl))
  (case n8=>k_is);(case l8=>k_is);(case c8=>k_is);(case k8=>k_is);(case b8=>(intro us hl;exact match us,hl with|[_,_],_=>rfl))
  (case n9=>k_is);(case l9=>k_is);(case c9=>k_is);(case k9=>k_is);(case b9=>(intro us hl;exact match us,hl with|[_],_=>rfl))
  (case n10=>k_is);(case l10=>k_is);(case c10=>k_is);(case k10=>k_is);(case b10=>(intro us hl;exact match us,hl with|[_,_,_],_=>rfl))
  (case n11=>k_is);(case l11=>k_is);(case c11=>k_is);(case k11=>k_is);(case b11=>(intro us hl;exact match us,hl with|[_,_],_=>rfl))
  (case n12=>k_is);(case l12=>k_is);(case c12=>k_is);(case k12=>k_is);(case b12=>(intro us hl;exact match us,hl with|[_,_],_=>rfl))
  (case n13=>k_is);(case l13=>k_is);(case c13=>k_is);(case k13=>k_is);(case b13=>(intro us hl;exact match us,hl with|[_,_],_=>rfl))
  (case n14=>k_is);(case l14=>k_is);(case c14=>k_is);(case k14=>k_is);(case b14=>(intro us hl;exact match us,hl with|[_,_,_],_=>rfl))
  (case n15=>k_is);(case l15=>k_is);(case c15=>k_is);(case k15=>k_is);(case b15=>(intro us hl;exact match us,hl with|[_,_,_],_=>rfl))
  (case n16=>k_is);(case l16=>k_is);(case c16=>k_is);(case k16=>k_is);(case b16=>(intro us hl;exact match us,hl with|[_],_=>rfl))
  (case n17=>k_is);(case l17=>k_is);(case c17=>k_is);(case k17=>k_is);(case b17=>(intro us hl;exact match us,hl with|[_],_=>rfl))
  (case n18=>k_is);(case l18=>k_is);(case c18=>k_is);(case k18=>k_is);(case b18=>(intro us hl;exact match us,hl with|[_,_],_=>rfl))
  (case n19=>k_is);(case l19=>k_is);(case c19=>k_is);(case k19=>k_is);(case b19=>(intro us hl;exact match us,hl with|[_,_],_=>rfl))
  (case n20=>k_is);(case l20=>k_is);(case c20=>k_is);(case k20=>k_is);(case b20=>(intro us hl;exact match us,hl with|[_,_],_=>rfl))
  (case n21=>k_is);(case l21=>k_is);(case c21=>k_is);(case k21=>k_is);(case b21=>(intro us hl;exact match us,hl with|[_,_,_,_],_=>rfl))
  (case n22=>k_is);(case l22=>k_is);(case c22=>k_is);(case k22=>k_is);(case b22=>(intro us hl;exact match us,hl with|[_,_,_],_=>rfl))
  (case n23=>k_is);(case l23=>k_is);(case c23=>k_is);(case k23=>k_is);(case b23=>(intro us hl;exact match us,hl with|[_,_],_=>rfl))
  (case n24=>k_is);(case l24=>k_is);(case c24=>k_is);(case k24=>k_is);(case b24=>(intro us hl;exact match us,hl with|[_,_],_=>rfl))
  (case n25=>k_is);(case l25=>k_is);(case c25=>k_is);(case k25=>k_is);(case b25=>(intro us hl;exact match us,hl with|[_],_=>rfl))
  (case n26=>k_is);(case l26=>k_is);(case c26=>k_is);(case k26=>k_is);(case b26=>(intro us hl;exact match us,hl with|[_],_=>rfl))
  (case n27=>k_is);(case l27=>k_is);(case c27=>k_is);(case k27=>k_is);(case b27=>(intro us hl;exact match us,hl with|[_],_=>rfl))
  (case n28=>k_is);(case l28=>k_is);(case c28=>k_is);(case k28=>k_is);(case b28=>(intro us hl;exact match us,hl with|[_,_,_],_=>rfl))
  (case n29=>k_is);(case l29=>k_is);(case c29=>k_is);(case k29=>k_is);(case b29=>(intro us hl;exact match us,hl with|[_,_],_=>rfl))
  (case n30=>k_is);(case l30=>k_is);(case c30=>k_is);(case k30=>k_is);(case b30=>(intro us hl;exact match us,hl with|[_,_],_=>rfl))
  (case n31=>k_is);(case l31=>k_is);(case c31=>k_is);(case k31=>k_is);(case b31=>(intro us hl;exact match us,hl with|[_],_=>rfl))
  (case n32=>k_is);(case l32=>k_is);(case c32=>k_is);(case k32=>k_is);(case b32=>(intro us hl;exact match us,hl with|[_,_],_=>rfl))
  (case n33=>k_is);(case l33=>k_is);(case c33=>k_is);(case k33=>k_is);(case b33=>(intro us hl;exact match us,hl with|[_,_],_=>rfl))
  (case n34=>k_is);(case l34=>k_is);(case c34=>k_is);(case k34=>k_is);(case b34=>(intro us hl;exact match us,hl with|[_,_],_=>rfl))
  (case n35=>k_is);(case l35=>k_is);(case c35=>k_is);(case k35=>k_is);(case b35=>(intro us hl;exact match us,hl with|[_],_=>rfl))
  (case n36=>k_is);(case l36=>k_is);(case c36=>k_is);(case k36=>k_is);(case b36=>(intro us hl;exact match us,hl with|[_],_=>rfl))
  (case n37=>k_is);(case l37=>k_is);(case c37=>k_is);(case k37=>k_is);(case b37=>(intro us hl;exact match us,hl with|[_,_],_=>rfl))
  (case n38=>k_is);(case l38=>k_is);(case c38=>k_is);(case k38=>k_is);(case b38=>(intro us hl;exact match us,hl with|[_,_],_=>rfl))
  (case n39=>k_is);(case l39=>k_is);(case c39=>k_is);(case k39=>k_is);(case b39=>(intro us hl;exact match us,hl with|[_,_],_=>rfl))
  (case n40=>k_is);(case l40=>k_is);(case c40=>k_is);(case k40=>k_is);(case b40=>(intro us hl;exact match us,hl with|[_],_=>rfl))
  (case n41=>k_is);(case l41=>k_is);(case c41=>k_is);(case k41=>k_is);(case b41=>(intro us hl;exact match us,hl with|[_],_=>rfl))
  (case n42=>k_is);(case l42=>k_is);(case c42=>k_is);(case k42=>k_is);(case b42=>(intro us hl;exact match us,hl with|[_,_,_,_,_],_=>rfl))
  (case n43=>k_is);(case l43=>k_is);(case c43=>k_is);(case k43=>k_is);(case b43=>(intro us hl;exact match us,hl with|[_,_],_=>rfl))
  (case n44=>k_is);(case l44=>k_is);(case c44=>k_is);(case k44=>k_is);(case b44=>(intro us hl;exact match us,hl with|[_],_=>rfl))
  (case n45=>k_is);(case l45=>k_is);(case c45=>k_is);(case k45=>k_is);(case b45=>(intro us hl;exact match us,hl with|[_,_],_=>rfl))
  (case n46=>k_is);(case l46=>k_is);(case c46=>k_is);(case k46=>k_is);(case b46=>(intro us hl;exact match us,hl with|[_,_],_=>rfl))
  (case n47=>k_is);(case l47=>k_is);(case c47=>k_is);(case k47=>k_is);(case b47=>(intro us hl;exact match us,hl with|[_],_=>rfl))
  (case n48=>k_is);(case l48=>k_is);(case c48=>k_is);(case k48=>k_is);(case b48=>(intro us hl;exact match us,hl with|[_,_],_=>rfl))
  (case n49=>k_is);(case l49=>k_is);(case c49=>k_is);(case k49=>k_is);(case b49=>(intro us hl;exact match us,hl with|[_,_],_=>rfl))
  (case n50=>k_is);(case l50=>k_is);(case c50=>k_is);(case k50=>k_is);(case b50=>(intro us hl;exact match us,hl with|[_],_=>rfl))
  (case n51=>k_is);(case l51=>k_is);(case c51=>k_is);(case k51=>k_is);(case b51=>(intro us hl;exact match us,hl with|[_,_],_=>rfl))
  (case n52=>k_is);(case l52=>k_is);(case c52=>k_is);(case k52=>k_is);(case b52=>(intro us hl;exact match us,hl with|[_,_,_],_=>rfl))
  (case n53=>k_is);(case l53=>k_is);(case c53=>k_is);(case k53=>k_is);(case b53=>(intro us hl;exact match us,hl with|[_],_=>rfl))
  (case n54=>k_is);(case l54=>k_is);(case c54=>k_is);(case k54=>k_is);(case b54=>(intro us hl;exact match us,hl with|[_],_=>rfl))
  (case n55=>k_is);(case l55=>k_is);(case c55=>k_is);(case k55=>k_is);(case b55=>(intro us hl;exact match us,hl with|[_,_],_=>rfl))
  (case n56=>k_is);(case l56=>k_is);(case c56=>k_is);(case k56=>k_is);(case b56=>(intro us hl;exact match us,hl with|[_,_,_,_],_=>rfl))
  (case n57=>k_is);(case l57=>k_is);(case c57=>k_is);(case k57=>k_is);(case b57=>(intro us hl;exact match us,hl with|[_,_],_=>rfl))
  (case n58=>k_is);(case l58=>k_is);(case c58=>k_is);(case k58=>k_is);(case b58=>(intro us hl;exact match us,hl with|[_],_=>rfl))
  (case n59=>k_is);(case l59=>k_is);(case c59=>k_is);(case k59=>k_is);(case b59=>(intro us hl;exact match us,hl with|[_],_=>rfl))
  (case z_abs=>k_is);(case z_all=>k_is);(case z_bool=>k_is);(case z_enumerate=>k_is);(case z_int=>k_is);(case z_isinstance=>k_is);(case z_len=>k_is);(case z_list=>k_is);(case z_max=>k_is);(case z_min=>k_is);(case z_range=>k_is);(case z_sorted=>k_is);(case z_sum=>k_is);(case z_zip=>k_is);(case c0_AXIS_RAY=>k_is);(case c1_AXIS_RAY=>k_is);(case c2_AXIS_RAY=>k_is);(case c3_AXIS_RAY=>k_is);(case c0_HALF=>k_is);(case c1_HALF=>k_is);(case c0_LEVEL_RAY=>k_is);(case c1_LEVEL_RAY=>k_is);(case c2_LEVEL_RAY=>k_is);(case c3_LEVEL_RAY=>k_is);(case c0_NOUGHT=>k_is);(case c1_NOUGHT=>k_is)
end
